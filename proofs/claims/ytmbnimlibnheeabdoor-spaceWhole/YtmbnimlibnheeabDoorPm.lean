/-
  Two sides, two lines of parcels, without memory.
-/
import Derived.Test.YtmbnimlibnheeabDoorUb
namespace Go.Proofs.YtmbnimlibnheeabDoor
open Go.RowKit
set_option linter.unusedVariables false

/-- An operation carried past a queue, the marks staying. -/
def thrQ : OpE → List (Int × OpE) → Bool → OpE × List (Int × OpE)
  | o, [], _ => (o, [])
  | o, x :: l, f => ((thrQ (shiftP o x.2 (!f)) l f).1, (x.1, shiftP x.2 o f) :: (thrQ (shiftP o x.2 (!f)) l f).2)

theorem thrQ_1 (l : List (Int × OpE)) : ∀ o f, (thrQ o l f).1 = (throughP o (l.map (·.2)) f).1 := by
  induction l with
  | nil => intro o f; rfl
  | cons x l ih => intro o f; simp only [thrQ, List.map_cons, throughP]; exact ih _ _
theorem thrQ_2 (l : List (Int × OpE)) : ∀ o f, (thrQ o l f).2.map (·.2) = (throughP o (l.map (·.2)) f).2 := by
  induction l with
  | nil => intro o f; rfl
  | cons x l ih => intro o f; simp only [thrQ, List.map_cons, throughP]; rw [ih]
theorem thrQ_m (l : List (Int × OpE)) : ∀ o f, (thrQ o l f).2.map (·.1) = l.map (·.1) := by
  induction l with
  | nil => intro o f; rfl
  | cons x l ih => intro o f; simp only [thrQ, List.map_cons]; rw [ih]
theorem thrQ_len (l : List (Int × OpE)) (o : OpE) (f : Bool) : (thrQ o l f).2.length = l.length := by
  have := congrArg List.length (thrQ_m l o f)
  simpa using this
theorem thrQ_app (l : List (Int × OpE)) : ∀ o m f, thrQ o (l ++ m) f = ((thrQ (thrQ o l f).1 m f).1, (thrQ o l f).2 ++ (thrQ (thrQ o l f).1 m f).2) := by
  induction l with
  | nil => intro o m f; rfl
  | cons x l ih => intro o m f; simp only [List.cons_append, thrQ, ih]
/-- Whatever is true of all marks stays so. -/
theorem thrQ_all {p : Int → Prop} {l : List (Int × OpE)} {o : OpE} {f : Bool} (h : ∀ x ∈ l, p x.1) : ∀ x ∈ (thrQ o l f).2, p x.1 := by
  intro x hx
  have h1 : x.1 ∈ (thrQ o l f).2.map (·.1) := List.mem_map_of_mem hx
  rw [thrQ_m] at h1
  obtain ⟨y, hy, e⟩ := List.mem_map.1 h1
  rw [← e]
  exact h y hy

/-- The queue without those up to the mark. -/
def dropQ (l : List (Int × OpE)) (m : Int) : List (Int × OpE) := l.dropWhile (fun x => decide (x.1 ≤ m))
theorem dropQ_mem {l : List (Int × OpE)} {m : Int} {x : Int × OpE} (h : x ∈ dropQ l m) : x ∈ l := (List.dropWhile_suffix _).subset h
theorem dropQ_all {l : List (Int × OpE)} {m : Int} (h : ∀ x ∈ l, x.1 ≤ m) : dropQ l m = [] := by
  induction l with
  | nil => rfl
  | cons x l ih =>
    unfold dropQ
    rw [List.dropWhile_cons_of_pos (by simpa using h x (by simp))]
    exact ih (fun y hy => h y (by simp [hy]))
theorem dropQ_none {l : List (Int × OpE)} {m : Int} (h : ∀ x ∈ l, m < x.1) : dropQ l m = l := by
  cases l with
  | nil => rfl
  | cons x l =>
    unfold dropQ
    rw [List.dropWhile_cons_of_neg]
    have := h x (by simp)
    simp
    omega
theorem dropQ_app {l k : List (Int × OpE)} {m : Int} (h : ∀ x ∈ k, m < x.1) : dropQ (l ++ k) m = dropQ l m ++ k := by
  induction l with
  | nil => simpa [dropQ] using dropQ_none h
  | cons x l ih =>
    by_cases hx : x.1 ≤ m
    · have e1 : ∀ r, dropQ (x :: r) m = dropQ r m := fun r => by unfold dropQ; rw [List.dropWhile_cons_of_pos (by simpa using hx)]
      rw [List.cons_append, e1, e1, ih]
    · have e1 : ∀ r, dropQ (x :: r) m = x :: r := fun r => by unfold dropQ; rw [List.dropWhile_cons_of_neg (by simpa using hx)]
      rw [List.cons_append, e1, e1, List.cons_append]

/-- A parcel. -/
structure Pc where
  m : Int
  t : Int
  o : OpE

/-- The operations of the parcels, carried past the queue one behind the other, are B. -/
def Par (f : Bool) : List (Int × OpE) → List Pc → List OpE → Prop
  | _, [], [] => True
  | q, p :: W, b :: B => (thrQ p.o (dropQ q p.t) f).1 = b ∧ Par f (thrQ p.o (dropQ q p.t) f).2 W B
  | _, [], _ :: _ => False
  | _, _ :: _, [] => False

theorem Par.nil {f : Bool} {q : List (Int × OpE)} {B : List OpE} (h : Par f q [] B) : B = [] := by
  cases B with
  | nil => rfl
  | cons b B => exact h.elim

/-- One more parcel, of one who has seen the whole queue. -/
theorem Par.snoc {f : Bool} (W : List Pc) : ∀ (q : List (Int × OpE)) (B : List OpE) (p : Pc), (∀ x ∈ q, x.1 ≤ p.t) → Par f q W B → Par f q (W ++ [p]) (B ++ [p.o]) := by
  induction W with
  | nil =>
    intro q B p hq h
    rw [Par.nil h]
    simp only [List.nil_append, Par]
    rw [dropQ_all hq]
    exact ⟨rfl, trivial⟩
  | cons w W ih =>
    intro q B p hq h
    cases B with
    | nil => exact h.elim
    | cons b B =>
      simp only [List.cons_append, Par]
      exact ⟨h.1, ih _ _ _ (thrQ_all (p := fun m => m ≤ p.t) (fun x hx => hq x (dropQ_mem hx))) h.2⟩

/-- One more in the queue, that none of the parcels has seen. -/
theorem Par.more {f : Bool} (W : List Pc) : ∀ (q : List (Int × OpE)) (A : List OpE) (m : Int) (b : OpE), (∀ p ∈ W, p.t < m) → Par f q W A → Par f (q ++ [(m, b)]) W (throughP b A (!f)).2 := by
  induction W with
  | nil =>
    intro q A m b _ h
    rw [Par.nil h]
    trivial
  | cons w W ih =>
    intro q A m b hW h
    cases A with
    | nil => exact h.elim
    | cons a A =>
      have hw := hW w (by simp)
      simp only [throughP, Par, Bool.not_not]
      rw [dropQ_app (by simp; exact hw), thrQ_app, h.1]
      simp only [thrQ]
      exact ⟨trivial, ih _ _ _ _ (fun p hp => hW p (by simp [hp])) h.2⟩

/-- A side. -/
structure Sd where
  f : Bool
  d : List El
  q : List (Int × OpE)
  made : Nat
  took : Int
  way : List Pc

def Sd.make (s : Sd) (o : OpE) : Sd := ⟨s.f, putP s.d o, s.q ++ [((s.made : Int) + 1, o)], s.made + 1, s.took, s.way ++ [⟨(s.made : Int) + 1, s.took, o⟩]⟩
def Sd.crossed (s : Sd) (p : Pc) : OpE × List (Int × OpE) := thrQ p.o (dropQ s.q p.t) s.f
def Sd.take (s : Sd) (p : Pc) : Sd := ⟨s.f, putP s.d (s.crossed p).1, (s.crossed p).2, s.made, p.m, s.way⟩
def Sd.sent (t : Sd) : Sd := ⟨t.f, t.d, t.q, t.made, t.took, t.way.drop 1⟩

structure Inv (N : Nat) (s t : Sd) (d0 : List El) (A1 A2 B1 B2 : List (Int × OpE)) : Prop where
  ff : t.f = !s.f
  qs : s.q = A1 ++ A2
  qt : t.q = B1 ++ B2
  a1 : ∀ x ∈ A1, x.1 ≤ t.took
  b1 : ∀ x ∈ B1, x.1 ≤ s.took
  a2 : ∀ x ∈ A2, t.took < x.1 ∧ x.1 ≤ s.made
  b2 : ∀ x ∈ B2, s.took < x.1 ∧ x.1 ≤ t.made
  ar : (A2.map (·.1)).Pairwise (· < ·)
  br : (B2.map (·.1)).Pairwise (· < ·)
  ts : 0 ≤ s.took ∧ s.took ≤ t.made
  tt : 0 ≤ t.took ∧ t.took ≤ s.made
  wa : s.way.map (·.m) = A2.map (·.1)
  wb : t.way.map (·.m) = B2.map (·.1)
  pa : Par s.f A1 t.way (B2.map (·.2))
  pb : Par t.f B1 s.way (A2.map (·.2))
  ta : ∀ p ∈ s.way, p.t ≤ s.took
  tb : ∀ p ∈ t.way, p.t ≤ t.took
  fa : FitL d0 (A2.map (·.2))
  fb : FitL d0 (B2.map (·.2))
  ra : runP d0 (A2.map (·.2)) = s.d
  rb : runP d0 (B2.map (·.2)) = t.d
  la : A2.length ≤ s.made
  lb : B2.length ≤ t.made
  ld : (d0.length : Int) ≤ N + s.took + t.took
  ls : (s.d.length : Int) ≤ N + s.made + s.took
  lt : (t.d.length : Int) ≤ N + t.made + t.took

section
variable {N : Nat} {s t : Sd} {d0 : List El} {A1 A2 B1 B2 : List (Int × OpE)}
theorem Inv.swap (h : Inv N s t d0 A1 A2 B1 B2) : Inv N t s d0 B1 B2 A1 A2 :=
  ⟨by rw [h.ff, Bool.not_not], h.qt, h.qs, h.b1, h.a1, h.b2, h.a2, h.br, h.ar, h.tt, h.ts, h.wb, h.wa, h.pb, h.pa, h.tb, h.ta, h.fb, h.fa, h.rb, h.ra, h.lb, h.la, by have := h.ld; omega, h.lt, h.ls⟩

theorem FitL_app (l : List OpE) : ∀ d m, FitL d l → FitL (runP d l) m → FitL d (l ++ m) := by
  induction l with
  | nil => intro d m _ h; exact h
  | cons o l ih => intro d m h k; exact ⟨h.1, ih _ _ h.2 k⟩
theorem runP_app (l : List OpE) : ∀ d m, runP d (l ++ m) = runP (runP d l) m := by
  induction l with
  | nil => intro d m; rfl
  | cons o l ih => intro d m; exact ih _ _

theorem Inv.make (h : Inv N s t d0 A1 A2 B1 B2) (o : OpE) (ho : FitO s.d.length o) : Inv N (s.make o) t d0 A1 (A2 ++ [((s.made : Int) + 1, o)]) B1 B2 := by
  have htt := h.tt
  refine ⟨h.ff, by simp [Sd.make, h.qs], h.qt, h.a1, h.b1, ?_, h.b2, ?_, h.br, h.ts, ⟨h.tt.1, by simp only [Sd.make]; omega⟩, ?_, h.wb, h.pa, ?_, ?_, h.tb, ?_, h.fb, ?_, h.rb, ?_, h.lb, h.ld, ?_, h.lt⟩
  · intro x hx
    rcases List.mem_append.1 hx with hx | hx
    · have := h.a2 x hx
      simp only [Sd.make]
      omega
    · simp at hx
      subst hx
      simp only [Sd.make]
      omega
  · rw [List.map_append, List.pairwise_append]
    refine ⟨h.ar, by simp, fun a ha b hb => ?_⟩
    simp at hb
    subst hb
    obtain ⟨x, hx, rfl⟩ := List.mem_map.1 ha
    have := h.a2 x hx
    omega
  · simp only [Sd.make, List.map_append, h.wa]
    rfl
  · simp only [List.map_append]
    exact Par.snoc _ _ _ ⟨(s.made : Int) + 1, s.took, o⟩ h.b1 h.pb
  · intro p hp
    rcases List.mem_append.1 hp with hp | hp
    · exact h.ta p hp
    · simp at hp
      subst hp
      exact Int.le_refl _
  · rw [List.map_append]
    exact FitL_app _ _ _ h.fa (by rw [h.ra]; exact ⟨ho, trivial⟩)
  · rw [List.map_append, runP_app, h.ra]
    rfl
  · have := h.la
    simp only [List.length_append, Sd.make]
    simp
    omega
  · have := putP_len s.d o ho
    have := h.ls
    simp only [Sd.make]
    omega

theorem Inv.takes (h : Inv N s t d0 A1 A2 B1 B2) {p : Pc} {W : List Pc} (hw : t.way = p :: W) (hm : (N : Int) + s.made + s.made + t.made + t.made < 900000) :
    FitO s.d.length (s.crossed p).1 ∧ ∃ d1 C1 C2 D1 D2, Inv N (s.take p) t.sent d1 C1 C2 D1 D2 := by
  have hts := h.ts
  have htt := h.tt
  obtain ⟨⟨m, b⟩, B2t, rfl⟩ : ∃ x l, B2 = x :: l := by
    have := h.wb
    rw [hw] at this
    cases B2 with
    | nil => simp at this
    | cons x l => exact ⟨x, l, rfl⟩
  have hpa := h.pa
  have hwb := h.wb
  rw [hw] at hpa hwb
  simp only [List.map_cons, List.cons.injEq] at hwb
  obtain ⟨rfl, hwb⟩ := hwb
  simp only [List.map_cons, Par] at hpa
  obtain ⟨e1, hpa⟩ := hpa
  have hpt : p.t ≤ t.took := h.tb p (by rw [hw]; simp)
  have hcr : s.crossed p = ((thrQ b A2 s.f).1, (thrQ p.o (dropQ A1 p.t) s.f).2 ++ (thrQ b A2 s.f).2) := by
    unfold Sd.crossed
    rw [h.qs, dropQ_app (fun x hx => by have := h.a2 x hx; omega), thrQ_app, e1]
  have hfb := h.fb
  simp only [List.map_cons, FitL] at hfb
  have hrb := h.rb
  simp only [List.map_cons, runP] at hrb
  have hla := h.la
  have hld := h.ld
  obtain ⟨g1, g2, g3⟩ := through_sq (A2.map (·.2)) d0 b s.f (by rw [List.length_map]; omega) hfb.1 h.fa
  rw [h.ra] at g1 g3
  rw [← thrQ_1] at g1 g3
  rw [← thrQ_2] at g2 g3
  have hb2 := h.b2 (p.m, b) (by simp)
  have hbr := h.br
  simp only [List.map_cons, List.pairwise_cons] at hbr
  refine ⟨by rw [hcr]; exact g1, putP d0 b, (thrQ p.o (dropQ A1 p.t) s.f).2, (thrQ b A2 s.f).2, B1 ++ [(p.m, b)], B2t, ?_⟩
  have hW : t.sent.way = W := by simp [Sd.sent, hw]
  have hd1 : (s.take p).d = putP s.d (thrQ b A2 s.f).1 := by simp only [Sd.take, hcr]
  have hl1 := putP_len d0 b hfb.1
  have hl2 := putP_len s.d _ g1
  have hls := h.ls
  have hlb := h.lb
  simp only [List.length_cons] at hlb
  exact {
    ff := h.ff
    qs := by simp only [Sd.take, hcr]
    qt := by simp only [Sd.sent]; rw [h.qt]; simp
    a1 := thrQ_all (p := fun m => m ≤ t.took) (fun x hx => h.a1 x (dropQ_mem hx))
    b1 := by
      intro x hx
      simp only [Sd.take]
      rcases List.mem_append.1 hx with hx | hx
      · have := h.b1 x hx
        omega
      · simp at hx
        subst hx
        exact Int.le_refl _
    a2 := thrQ_all (p := fun m => t.took < m ∧ m ≤ s.made) h.a2
    b2 := fun x hx => ⟨hbr.1 _ (List.mem_map_of_mem hx), (h.b2 x (by simp [hx])).2⟩
    ar := by rw [thrQ_m]; exact h.ar
    br := hbr.2
    ts := ⟨by simp only [Sd.take]; omega, hb2.2⟩
    tt := h.tt
    wa := by rw [thrQ_m]; exact h.wa
    wb := by rw [hW]; exact hwb
    pa := by rw [hW]; exact hpa
    pb := by
      have := Par.more s.way B1 (A2.map (·.2)) p.m b (fun p' hp => by have := h.ta p' hp; omega) h.pb
      rw [h.ff, Bool.not_not, ← thrQ_2] at this
      rw [show t.sent.f = !s.f from h.ff]
      exact this
    ta := fun p' hp => by have := h.ta p' hp; simp only [Sd.take]; omega
    tb := by rw [hW]; exact fun p' hp => h.tb p' (by rw [hw]; simp [hp])
    fa := g2
    fb := hfb.2
    ra := by rw [hd1]; exact g3
    rb := hrb
    la := by rw [thrQ_len]; exact h.la
    lb := by simp only [Sd.sent]; omega
    ld := by simp only [Sd.take, Sd.sent]; omega
    ls := by rw [hd1]; simp only [Sd.take]; omega
    lt := h.lt }

/-- Nothing is under way: the texts are the same. -/
theorem Inv.same (h : Inv N s t d0 A1 A2 B1 B2) (hs : s.way = []) (ht : t.way = []) : s.d = t.d := by
  have h1 : A2 = [] := by
    have := h.wa
    rw [hs] at this
    simpa using this.symm
  have h2 : B2 = [] := by
    have := h.wb
    rw [ht] at this
    simpa using this.symm
  have h3 := h.ra
  have h4 := h.rb
  subst h1
  subst h2
  exact h3.symm.trans h4

theorem inv_start (d : List El) : Inv d.length ⟨true, d, [], 0, 0, []⟩ ⟨false, d, [], 0, 0, []⟩ d [] [] [] [] := by
  refine ⟨rfl, rfl, rfl, by simp, by simp, by simp, by simp, by simp, by simp, by simp, by simp, rfl, rfl, trivial, trivial, by simp, by simp, trivial, trivial, rfl, rfl, by simp, by simp, by simp, by simp, by simp⟩
end
end Go.Proofs.YtmbnimlibnheeabDoor
