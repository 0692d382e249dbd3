/-
  Texts put together: Oh Oi Ra Rb.
-/
import Derived.Test.YtfhghijefjhehaaGreatDoorMOe
/-! Oh -/
namespace Go.Proofs.YtfhghijefjhehaaGreatDoor
open Go.RowKit Go.Shelf
set_option linter.unusedVariables false
attribute [local go_sem] Oper.semAt_some

theorem Fr.putObj (W : World) (l : Nat) (o : Obj) : Fr (· = l) W (W.putObj l o) := by
  refine ⟨rfl, rfl, rfl, by simp [World.putObj], fun k _ hk => World.putObj_heap_other hk⟩
section
variable {W : World} {l : Nat} {r r' : Loop}
theorem It.putObj {B0 xh ob bp xt : Nat} {γ βd : Option Nat} {vd : Value} {done : List OpE} {id : Int} {x : Sy} {t : List El} (h : It B0 xh ob bp xt γ βd vd done id x t W) (hl : W.heap[l]? = some (.loop r)) (hB : 1 ≠ l) : It B0 xh ob bp xt γ βd vd done id x t (W.putObj l (.loop r')) :=
  h.fr (Fr.putObj W l _) (fun j cs t hj hc => by rw [hj, hl] at hc; cases hc) hB
theorem CpP.putObj {w : World} {pb : Nat} {vs : List PV} (h : CpP w pb vs W) (hl : W.heap[l]? = some (.loop r)) (hB : w.heap.size ≤ l) : CpP w pb vs (W.putObj l (.loop r')) :=
  h.fr (Fr.putObj W l _) (fun j cs t hj hc => by rw [hj, hl] at hc; cases hc) (fun j hj => by rw [hj]; exact hB)
end

set_option maxRecDepth 100000 in
theorem pstates_any (x : Nat) (a : Option Addr) (n c : Nat) (i : Int) (w : World) : Calls Tryz.prog 18 #[.agg #[.pointer (some ⟨x, 0, none⟩), .slice a n c], .int .i64 i] w fun e w' => e = .returned (.func (.func 50) #[] #[.pointer (some ⟨w.heap.size, 0, none⟩), .pointer (some ⟨w.heap.size + 1, 0, none⟩)]) ∧ w' = (w.alloc (.cells #[.pointer (some ⟨x, 0, none⟩), .slice a n c] 65)).alloc (.cells #[.int .i64 i] 3) := by
  go_enter Tryz.func18, Tryz.ntmps18
  go_wp2
  go_ret
  exact ⟨rfl, rfl⟩

end Go.Proofs.YtfhghijefjhehaaGreatDoor

/-! Oi -/
namespace Go.Proofs.YtfhghijefjhehaaGreatDoor
open Go.RowKit Go.Shelf
set_option linter.unusedVariables false
attribute [local go_sem] Oper.semAt_some

/-- A list of states in memory. -/
def IsVw (w : World) (v : Value) (vs : List Vw) : Prop := ∃ ps : List PV, (∃ β, SF vwc 3 w 72 β v ps) ∧ (∀ p ∈ ps, ∃ β, SE w β p.v p.doc) ∧ ps.map PV.view = vs
/-- What stands ahead of the loop. -/
structure IR (w : World) (pb xt bp bs : Nat) (C : Int) (vL vE vd : Value) (S : Nat → Ls) (L : Nat → Option Nat) (βd : Option Nat) (done : List OpE) (c : Nat) (W : World) : Prop where
  tl : TL W xt C vL vE S L
  bp : W.heap[bp]? = some (.cells #[.pointer (some ⟨xt, 0, none⟩), vd] 65 (0, 0))
  bs : W.heap[bs]? = some (.cells #[.int .i64 (c : Int)] 3 (0, 0))
  dn : FO W βd vd done
  tb : Table W
  cp : CpP w pb [] W
theorem IR.below {w : World} {pb xt bp bs : Nat} {C : Int} {vL vE vd : Value} {S : Nat → Ls} {L : Nat → Option Nat} {βd : Option Nat} {done : List OpE} {c : Nat} {W W' : World} (h : IR w pb xt bp bs C vL vE vd S L βd done c W) (hb : Below W.heap.size W W') : IR w pb xt bp bs C vL vE vd S L βd done c W' :=
  ⟨h.tl.below hb, (hb.block _ (block_lt h.bp)).trans h.bp, (hb.block _ (block_lt h.bs)).trans h.bs, h.dn.fr (Fr.of_below (S := fun _ => False) hb) (fun _ _ h => h), h.tb.below hb h.tb.1, h.cp.below hb⟩

theorem S2_ds {log : List Ed} {evs : List Ev} {D : Nat → List El} (nE c : Nat) (hc : c < 65) : S2 log evs D nE (130 + c) = .ds (ddAt evs D nE (c : Int)) := by
  unfold S2
  rw [if_neg (by omega), if_neg (by omega), show 130 + c - 130 = c by omega]
/-- The first state of a client. -/
theorem st0_wk {log : List Ed} {evs : List Ev} {D : Nat → List El} (c : Nat) : (stW apE log (edW evs D) 0).1 c = wk0 (ddAt evs D evs.length (c : Int)) := rfl
/-- Ahead of the loop. -/
theorem IR.begin {w w2 w3 : World} {x cN nL : Nat} {C : Int} {vL vE : Value} {S : Nat → Ls} {L : Nat → Option Nat} {βd : Option Nat} {done : List OpE} {aD : Option Addr} {cD pb : Nat} (hT : TL w2 x C vL vE S L) (b3 : Below w2.heap.size w2 w3) (hFO : FO w3 βd (.slice aD nL cD) done) (hTb : Table w) (hbel : Below w.heap.size w w2) (hpb : w2.heap[pb]? = some (.cells #[.slice none 0 0] 27 (0, 0))) (hlo : w.heap.size ≤ pb) :
    IR w pb x w3.heap.size (w3.heap.size + 1) C vL vE (.slice aD nL cD) S L βd done cN ((w3.alloc (.cells #[.pointer (some ⟨x, 0, none⟩), .slice aD nL cD] 65)).alloc (.cells #[.int .i64 (cN : Int)] 3)) := by
  have b4 : Below w3.heap.size w3 ((w3.alloc (.cells #[.pointer (some ⟨x, 0, none⟩), .slice aD nL cD] 65)).alloc (.cells #[.int .i64 (cN : Int)] 3)) := ((Below.refl _ _).alloc (Nat.le_refl _) _).alloc (by simp) _
  have b24 := b3.trans (b4.mono b3.size)
  have bel := hbel.trans (b24.mono hbel.size)
  refine ⟨hT.below b24, ?_, ?_, hFO.fr (Fr.of_below (S := fun _ => False) b4) (fun _ _ h => h), hTb.below bel hTb.1, ⟨⟨_, none, (b24.block _ (block_lt hpb)).trans hpb, ⟨rfl, rfl⟩, fun g hg => (by cases hg)⟩, fun p hp => (by cases hp), hlo, bel, hTb.1⟩⟩
  · exact (Below.heap_alloc _ _ _ (by simp)).trans (heap_alloc_new w3 _)
  · have := heap_alloc_new (w3.alloc (.cells #[.pointer (some ⟨x, 0, none⟩), .slice aD nL cD] 65)) (.cells #[.int .i64 (cN : Int)] 3)
    rwa [World.size_alloc] at this

end Go.Proofs.YtfhghijefjhehaaGreatDoor

/-! Ra -/
namespace Go.Proofs.YtfhghijefjhehaaGreatDoor
open Go.RowKit
set_option linter.unusedVariables false

/-- Two elements are the same. -/
def elB (x y : El) : Bool := decide (x.1 = y.1) && (decide (x.2.1 = y.2.1) && decide (x.2.2 = y.2.2))
theorem elB_iff {x y : El} : elB x y = true ↔ x = y := by
  obtain ⟨x1, x2, x3⟩ := x
  obtain ⟨y1, y2, y3⟩ := y
  simp only [elB, Bool.and_eq_true, decide_eq_true_eq]
  exact ⟨fun h => by rw [h.1, h.2.1, h.2.2], fun h => by cases h; exact ⟨rfl, rfl, rfl⟩⟩
/-- Where an element stands: from place k on. -/
def plP (x : El) : List El → Nat → Int
  | [], _ => -1
  | y :: l, k => if elB y x = true then (k : Int) else plP x l (k + 1)
theorem plP_neg {x : El} : ∀ (l : List El) (k : Nat), plP x l k < 0 ↔ x ∉ l
  | [], k => by simp [plP]
  | y :: l, k => by
    unfold plP
    split
    · rename_i h
      rw [elB_iff.1 h]
      simp
    · rename_i h
      have h : y ≠ x := fun e => h (elB_iff.2 e)
      rw [plP_neg l (k + 1), List.mem_cons, not_or]
      exact ⟨fun h1 => ⟨fun e => h e.symm, h1⟩, fun h1 => h1.2⟩
/-- What the document calls the order of two elements in a text. -/
def ordP (d : List El) (a b : El) : Int := if plP a d 0 < 0 ∨ plP b d 0 < 0 then 0 else if plP a d 0 < plP b d 0 then 1 else -1
theorem ord_zero {d : List El} {a b : El} : ordP d a b = 0 ↔ a ∉ d ∨ b ∉ d := by
  unfold ordP
  rw [← plP_neg (x := a) d 0, ← plP_neg (x := b) d 0]
  by_cases h : plP a d 0 < 0 ∨ plP b d 0 < 0
  · rw [if_pos h]
    exact ⟨fun _ => h, fun _ => rfl⟩
  · rw [if_neg h]
    refine ⟨fun h1 => ?_, fun h1 => absurd h1 h⟩
    split at h1 <;> cases h1
/-- The first answer that is not nought. -/
def fsN {α : Type} (f : α → Int) : List α → Int
  | [] => 0
  | x :: l => if f x = 0 then fsN f l else f x
theorem fsN_append {α : Type} (f : α → Int) : ∀ (l m : List α), fsN f (l ++ m) = if fsN f l = 0 then fsN f m else fsN f l
  | [], m => by simp [fsN]
  | x :: l, m => by
    by_cases h : f x = 0
    · have e1 : fsN f (x :: l ++ m) = fsN f (l ++ m) := by simp only [List.cons_append, fsN]; rw [if_pos h]
      have e2 : fsN f (x :: l) = fsN f l := by simp only [fsN]; rw [if_pos h]
      rw [e1, e2]
      exact fsN_append f l m
    · have e1 : fsN f (x :: l ++ m) = f x := by simp only [List.cons_append, fsN]; rw [if_neg h]
      have e2 : fsN f (x :: l) = f x := by simp only [fsN]; rw [if_neg h]
      rw [e1, e2, if_neg h]

/-- An operation brings its own element alone. -/
theorem mem_apE {t : List El} {o : OpE} {x : El} (h : x ∈ apE t o) : x ∈ t ∨ x = elE o := by
  unfold apE at h
  split at h
  · split at h
    · rcases List.mem_append.1 h with h | h
      · exact .inl (List.mem_of_mem_take h)
      · rcases List.mem_cons.1 h with h | h
        · exact .inr h
        · exact .inl (List.mem_of_mem_drop h)
    · split at h
      · rcases List.mem_append.1 h with h | h
        · exact .inl (List.mem_of_mem_take h)
        · exact .inl (List.mem_of_mem_drop h)
      · exact .inl h
  · exact .inl h

/-- States one behind the other: what is new in one is the element of its operation. -/
def Chn : List El → List PV → Prop
  | _, [] => True
  | d, p :: l => (∀ x ∈ p.doc, x ∈ d ∨ x = elE p.o) ∧ Chn p.doc l
theorem Chn.snoc : ∀ {d : List El} {l : List PV} {p q : PV}, Chn d (l ++ [p]) → (∀ x ∈ q.doc, x ∈ p.doc ∨ x = elE q.o) → Chn d (l ++ [p] ++ [q])
  | d, [], p, q, h, hq => ⟨h.1, hq, trivial⟩
  | d, y :: l, p, q, h, hq => ⟨h.1, Chn.snoc (l := l) h.2 hq⟩
/-- The states that the program passes by tell nothing. -/
theorem skip_same (a b : El) : ∀ (l : List PV) (d : List El), Chn d l → ordP d a b = 0 → fsN (fun p : PV => ordP p.doc a b) l = fsN (fun p : PV => if (elB (elE p.o) a || elB (elE p.o) b) = true then ordP p.doc a b else 0) l
  | [], d, h, h0 => rfl
  | p :: l, d, h, h0 => by
    simp only [fsN]
    by_cases he : (elB (elE p.o) a || elB (elE p.o) b) = true
    · rw [if_pos he]
      by_cases hz : ordP p.doc a b = 0
      · rw [if_pos hz, if_pos hz]
        exact skip_same a b l p.doc h.2 hz
      · rw [if_neg hz, if_neg hz]
    · have hz : ordP p.doc a b = 0 := by
        rw [ord_zero] at h0 ⊢
        rw [Bool.or_eq_true, elB_iff, elB_iff, not_or] at he
        rcases h0 with h0 | h0
        · exact .inl (fun hm => by
            rcases h.1 a hm with h1 | h1
            · exact h0 h1
            · exact he.1 h1.symm)
        · exact .inr (fun hm => by
            rcases h.1 b hm with h1 | h1
            · exact h0 h1
            · exact he.2 h1.symm)
      rw [if_neg he, if_pos hz, if_pos rfl]
      exact skip_same a b l p.doc h.2 hz

end Go.Proofs.YtfhghijefjhehaaGreatDoor

/-! Rb -/
namespace Go.Proofs.YtfhghijefjhehaaGreatDoor
open Go.RowKit Go.Shelf
set_option linter.unusedVariables false
attribute [local go_sem] Oper.semAt_some

def SJ (l D : Nat) (r : Loop) (Cp : List PV → World → Prop) (B0 xh ob bp xt : Nat) (γ βd : Option Nat) (vd : Value) (log : List Ed) (E : Nat → List Ed) (c : Nat) (T : List Vw) (m : Nat) (vt : Value) (W : World) : Prop :=
  ∃ x : Sy, vt = x.vt ∧ It B0 xh ob bp xt γ βd vd (stW apE log E log.length).2 (c : Int) x x.k.text W ∧ Cp x.pre W ∧ LB l D r W ∧ OnW log E c x.k ∧ x.pre.map PV.view ++ (x.k.view :: wayW apE (stW apE log E log.length).2 (c : Int) x.k) = T ∧ m = x.k.still.length + (log.length - x.k.hav) ∧ Chn [] (x.pre ++ [x.pv])

section
variable {W1 : World} {xt : Nat} {C : Int} {vL vE : Value} {S : Nat → Ls} {L : Nat → Option Nat} {log : List Ed} {E : Nat → List Ed} {Cn c : Nat} {ds0 : List Dd} {bp bs : Nat} {βd : Option Nat} {vd : Value} {l D n : Nat} {r : Loop} {X : World → Prop} {Cp : List PV → World → Prop}
/-- One state more. -/
theorem SJ.next {B0 xh ob : Nat} {γ : Option Nat} {T : List Vw} {x : Sy} {o : OpE} {v : Value} {k' : Wk} {β : Option Nat} {ds : List Dd} {t : List El} {W : World} (hch : Chn [] (x.pre ++ [x.pv])) (hm : ∀ y ∈ t, y ∈ x.k.text ∨ y = elE o) (h : It B0 xh ob bp xt γ βd vd (stW apE log E log.length).2 (c : Int) ⟨o, v, k', β, ds, x.pre⟩ t W) (ht : t = k'.text) (hC : Cp (x.pre ++ [x.pv]) W) (hLb : LB l D r W) (hO : OnW log E c k')
    (hV : x.pre.map PV.view ++ (x.k.view :: wayW apE (stW apE log E log.length).2 (c : Int) x.k) = T) (hw : wayW apE (stW apE log E log.length).2 (c : Int) x.k = k'.view :: wayW apE (stW apE log E log.length).2 (c : Int) k') : SJ l D r Cp B0 xh ob bp xt γ βd vd log E c T (k'.still.length + (log.length - k'.hav)) v W := by
  subst ht
  refine ⟨⟨o, v, k', β, ds, x.pre ++ [x.pv]⟩, rfl, h.pre _, hC, hLb, hO, ?_, rfl, hch.snoc hm⟩
  rw [← hV, hw]
  simp [Sy.pv, PV.view, Wk.view]

set_option maxRecDepth 100000 in
set_option maxHeartbeats 8000000 in
theorem states_chn (hn : 2 ≤ n) (hLB : LB l D r W1) (hT : TL W1 xt C vL vE S L) (hc : c < 65) (hS : S (130 + c) = .ds ds0) (hE : ds0.map (·.e) = E c) (hP : PF Cn log E) (hlen : log.length ≤ 4096) (hbp : W1.heap[bp]? = some (.cells #[.pointer (some ⟨xt, 0, none⟩), vd] 65 (0, 0))) (hbs : W1.heap[bs]? = some (.cells #[.int .i64 (c : Int)] 3 (0, 0))) (hdn : FO W1 βd vd (stW apE log E log.length).2) (hTb : Table W1)
    (hCp : ∀ pre W W', Cp pre W → FrI W1.heap.size W W' → Cp pre W') (h0 : Cp [] W1)
    (hY : ∀ (B0 xh ob : Nat) (x : Sy) (W : World), LB l D r W → It B0 xh ob bp xt (L (130 + c)) βd vd (stW apE log E log.length).2 (c : Int) x x.k.text W → Cp x.pre W → x.pre.length ≤ 5000 → Chn [] (x.pre ++ [x.pv]) → (∃ rest, x.pre.map PV.view ++ (x.k.view :: rest) = (wk0 ds0).view :: wayW apE (stW apE log E log.length).2 (c : Int) (wk0 ds0)) → YieldAt Fence.wide (n - 1) Tryz.prog l (encS x) W fun e W' => (e = .returned (.bool true) ∧ LB l D r W' ∧ It B0 xh ob bp xt (L (130 + c)) βd vd (stW apE log E log.length).2 (c : Int) x x.k.text W' ∧ Cp (x.pre ++ [x.pv]) W') ∨ (e = .returned (.bool false) ∧ X W')) :
    CallsIn Fence.wide n Tryz.prog 50 #[.func (.yield l) #[] #[], .pointer (some ⟨bp, 0, none⟩), .pointer (some ⟨bs, 0, none⟩)] W1 fun e W' => (∃ v, e = .returned v) ∧ ((LB l D r W' ∧ ∃ vs, Cp vs W' ∧ vs.map PV.view = (wk0 ds0).view :: wayW apE (stW apE log E log.length).2 (c : Int) (wk0 ds0) ∧ Chn [] vs) ∨ X W') := by
  obtain ⟨aD, cD, hvd, -⟩ := hdn.is
  rw [hP.len log.length (Nat.le_refl _)] at hvd
  subst hvd
  have CH := hd (hand_any hT c hc ds0 hS)
  have p0 := cell_row hbp 0
  have s0 := cell_row hbs 0
  simp at p0 s0
  have hn1 : 1 ≤ n := by omega
  have hf1 : Fence.wide.fn 46 := trivial
  have hf2 : Fence.wide.fn 47 := trivial
  have hf3 : Fence.wide.fn 48 := trivial
  have hf4 : Fence.wide.fn 49 := trivial
  have hf5 : Fence.wide.fn 51 := trivial
  have HB := hd (fun w2 w3 h2 b2 h3 => It.begin (ds0 := ds0) (w2 := w2) (w3 := w3) hT hc hE hP hbp hdn hTb h2 b2 h3)
  have HC := hd hCp
  have H0 := hd h0
  have HL := hd hLB
  have HY := hd hY
  have HP := hd hP
  have HLen := hd hlen
  have HTL := hd (path_len hP hE hlen)
  clear hCp h0 hLB hY hP hlen hT hS hE hbp hbs hdn hTb
  refine callsIn_of_wp Tryz.func50 rfl trivial ?_ rfl
  simp only [Tryz.ntmps50, List.size_toArray, List.length_cons, List.length_nil, Nat.reduceAdd, Nat.reduceSub, Array.replicate_succ, Array.replicate_zero, List.push_toArray, List.append_toArray, List.nil_append, List.cons_append]
  gi_upto_region 1 with (gi_at_call 46; refine (callsIn_wide.2 CH.out).mono ?_; rintro e w2 ⟨rfl, h2, b2⟩)
  obtain ⟨i0, o0, f0⟩ := HB.out w2 _ h2 b2 rfl
  have J0 : Hid (∃ m, SJ l D r Cp W1.heap.size W1.heap.size w2.heap.size bp xt (L (130 + c)) βd (.slice aD log.length cD) log E c ((wk0 ds0).view :: wayW apE (stW apE log E log.length).2 (c : Int) (wk0 ds0)) m (.slice none 0 0) (w2.alloc (.cells #[.int .i64 0, .int .i64 0, .int .u8 0, .int .i64 0, .int .i64 0] 69))) :=
    ⟨_, _, rfl, i0, HC.out _ _ _ H0.out f0, HL.out.fri f0, o0, rfl, rfl, ⟨fun y hy => absurd hy List.not_mem_nil, trivial⟩⟩
  clear h2 b2 i0 o0 f0 HB CH H0 HL p0 s0
  gi_wp2_with fail
  generalize w2.alloc (.cells #[.int .i64 0, .int .i64 0, .int .u8 0, .int .i64 0, .int .i64 0] 69) = w3 at *
  generalize W1.heap.size = B0 at *
  generalize w2.heap.size = ob at *
  generalize hT : (wk0 ds0).view :: wayW apE (stW apE log E log.length).2 (c : Int) (wk0 ds0) = T at *
  have HTT := hd hT
  clear hT
  gi_loopw [6] (fun vt wr => Hid (∃ m, SJ l D r Cp B0 B0 ob bp xt (L (130 + c)) βd (.slice aD log.length cD) log E c T m vt wr)) (fun vt wr => rk (fun m => SJ l D r Cp B0 B0 ob bp xt (L (130 + c)) βd (.slice aD log.length cD) log E c T m vt) wr)
  case atStart => exact J0
  case round =>
    obtain ⟨hk, hmin⟩ := rk_spec hrel.out
    have HM := hd hmin
    clear hmin J0
    obtain ⟨x, hvt, hIt, hC, hLb, hO, hV, hmm, hch⟩ := hk
    have HCH := hd hch
    subst hvt
    obtain ⟨βt, htx⟩ := hIt.tx
    obtain ⟨av, cv, hav, -⟩ := htx.form
    obtain ⟨vS, vF, -, -, x0, x1, x2, x3, x4, x5⟩ := hIt.hk.hd.cells
    have hpl : x.pre.length ≤ 5000 := by
      have h1 := HTL.out
      have h2 := congrArg List.length hV
      simp only [List.length_append, List.length_map, List.length_cons] at h2
      omega
    have YY := (HY.out B0 B0 ob x wr.drew (hLb.fri (FrI.of_below (B0 := B0) ((Below.refl _ _).drew))) (hIt.below ((Below.refl _ _).drew)) (HC.out _ _ _ hC (FrI.of_below ((Below.refl _ _).drew))) hpl hch ⟨_, hV⟩)
    have HIt := hd hIt
    have HO := hd hO
    have HV := hd hV
    have HMM := hd hmm
    have HAV := hd hav
    clear hch hpl hav hrel hIt hC hLb hO hV hmm htx x0 x1 x4 x5
    gi_upto_region 3 with fail
    refine states_region3 _ wr l B0 ob x (PoS l D r X Cp B0 B0 ob bp xt (L (130 + c)) βd (.slice aD log.length cD) (stW apE log E log.length).2 (c : Int) x) rfl rfl rfl rfl HAV.out (by simp) HIt.out.op x3 x2 (YY.mono ?_) ?_
    · rintro e W' (⟨rfl, h1, h2, h3⟩ | ⟨rfl, h1⟩)
      · exact ⟨_, rfl, .inl ⟨rfl, h1, h2, h3⟩⟩
      · exact ⟨_, rfl, .inr ⟨rfl, h1⟩⟩
    clear YY x2 x3 HIt
    rintro b u hp
    rename_i K0 hK0
    refine hK0 _ _ ?_
    clear hK0
    simp only [List.range, List.range.loop, List.map_cons, List.map_nil, V3, List.getD_cons_zero, List.getD_cons_succ, puts, List.foldl_cons, List.foldl_nil, Act.put, List.setIfInBounds_toArray, List.set_cons_succ, List.set_cons_zero, Nat.reduceAdd, Nat.reduceEqDiff, if_true, if_false]
    rcases hp with ⟨rfl, hLb, hIt, hC⟩ | ⟨rfl, hX⟩
    · cases hdue : x.k.due with
      | true =>
        have CD : Hid (Calls Tryz.prog 47 #[.pointer (some ⟨B0, 0, none⟩)] u fun e W' => e = .returned (.bool true) ∧ It B0 B0 ob bp xt (L (130 + c)) βd (.slice aD log.length cD) (stW apE log E log.length).2 (c : Int) x x.k.text W' ∧ FrI B0 u W') := by
          have h := hIt.due
          rw [hdue] at h
          exact h
        have HX0 := hd (And.intro hLb hC)
        have HD' := hd hdue
        clear hLb hIt hC hdue
        gi_upto_region 5 with (gi_at_call 47; refine (callsIn_wide.2 CD.out).mono ?_; rintro e u1 ⟨rfl, i1, f1⟩)
        have HX1 := hd (And.intro (HX0.out.1.fri f1) (HC.out _ _ _ HX0.out.2 f1))
        have CM := hd (i1.make HD'.out)
        clear HX0 CD i1 f1
        gi_upto_region 8 with (gi_at_call 48; refine (callsIn_wide.2 CM.out).mono ?_; rintro e u2 ⟨⟨ok, op, oc, ol, os⟩, rfl, hfit, ⟨β', ds', i2⟩, f2⟩; simp only [OpE.val]; obtain ⟨⟨y0, y1, y2, y3, y4⟩, ⟨g0, g1, g2, g3, g4⟩⟩ := cellsF (show u2.heap[ob]? = some (.cells #[.int .i64 x.o.kind, .int .i64 x.o.pos, .int .u8 x.o.ch, .int .i64 x.o.cl, .int .i64 x.o.sq] 69 (0, 0)) from i2.op))
        obtain ⟨u3, hu3⟩ : ∃ u3, ((((u2.setCell ⟨ob, 0, none⟩ (.int .i64 ok)).setCell ⟨ob, 1, none⟩ (.int .i64 op)).setCell ⟨ob, 2, none⟩ (.int .u8 oc)).setCell ⟨ob, 3, none⟩ (.int .i64 ol)).setCell ⟨ob, 4, none⟩ (.int .i64 os) = u3 := ⟨_, rfl⟩
        have z3 := i2.store ⟨ok, op, oc, ol, os⟩
        have es : set5 u2 ob 0 ok op oc ol os = u3 := hu3
        simp only [es] at z3
        rw [hu3]
        obtain ⟨i3, f3⟩ := z3
        obtain ⟨⟨z0, z1, z2, z3, z4⟩, -⟩ := cellsF (show u3.heap[ob]? = some (.cells #[.int .i64 ok, .int .i64 op, .int .u8 oc, .int .i64 ol, .int .i64 os] 69 (0, 0)) from i3.op)
        clear hu3 es y0 y1 y2 y3 y4 g0 g1 g2 g3 g4
        have HX3 := hd (And.intro ((HX1.out.1.fri f2).fri f3) (HC.out _ _ _ (HC.out _ _ _ HX1.out.2 f2) f3))
        have CA := hd (i3.apply ⟨ok, op, oc, ol, os⟩ hfit.1 hfit.2.1)
        have HFT := hd hfit.2.2
        simp only [OpE.val] at CA
        clear HX1 CM i2 f2 i3 f3 hfit
        gi_wp2_with (gi_at_call 51; refine (callsIn_wide.2 CA.out).mono ?_; rintro e u4 ⟨a4, c4, rfl, i4, f4⟩)
        have Z : Hid (∃ m, SJ l D r Cp B0 B0 ob bp xt (L (130 + c)) βd (.slice aD log.length cD) log E c T m (.slice a4 (List.length (α := El) (apE x.k.text ⟨ok, op, oc, ol, os⟩)) c4) u4 ∧ m < x.k.still.length + (log.length - x.k.hav)) := ⟨_, SJ.next HCH.out (fun y hy => mem_apE hy) i4 (by rw [HFT.out]) (HC.out _ _ _ HX3.out.2 f4) (HX3.out.1.fri f4) (HO.out.mk1 HD'.out) HV.out (way_due2 HD'.out), by
          have h1 := due_less (ap := apE) HD'.out
          obtain ⟨y, ly, hs, -⟩ := due_cons HD'.out
          obtain ⟨-, m2, -⟩ := mk1_still (ap := apE) hs
          rw [m2]
          omega⟩
        have Z1 : Hid (∃ m, SJ l D r Cp B0 B0 ob bp xt (L (130 + c)) βd (.slice aD log.length cD) log E c T m (.slice a4 (List.length (α := El) (apE x.k.text ⟨ok, op, oc, ol, os⟩)) c4) u4) := by
          obtain ⟨m, h, -⟩ := Z.out
          exact ⟨m, h⟩
        have hlt : rk (fun m => SJ l D r Cp B0 B0 ob bp xt (L (130 + c)) βd (.slice aD log.length cD) log E c T m (.slice a4 (List.length (α := El) (apE x.k.text ⟨ok, op, oc, ol, os⟩)) c4)) u4 < rk (fun m => SJ l D r Cp B0 B0 ob bp xt (L (130 + c)) βd (.slice aD log.length cD) log E c T m x.vt) wr := by
          obtain ⟨m, h, hm⟩ := Z.out
          rw [HMM.out]
          exact Nat.lt_of_le_of_lt ((rk_spec Z1.out).2 m h) hm
        clear Z i4 f4 HX3 CA HMM HM HV HO HCH
        gi_wp2_with fail
        go_roundw
        case rel => exact Z1
        case measure => exact hlt
      | false =>
        have CD : Hid (Calls Tryz.prog 47 #[.pointer (some ⟨B0, 0, none⟩)] u fun e W' => e = .returned (.bool false) ∧ It B0 B0 ob bp xt (L (130 + c)) βd (.slice aD log.length cD) (stW apE log E log.length).2 (c : Int) x x.k.text W' ∧ FrI B0 u W') := by
          have h := hIt.due
          rw [hdue] at h
          exact h
        have HX0 := hd (And.intro hLb hC)
        have HD' := hd hdue
        clear hLb hIt hC hdue
        gi_upto_region 6 with (gi_at_call 47; refine (callsIn_wide.2 CD.out).mono ?_; rintro e u1 ⟨rfl, i1, f1⟩)
        have HX1 := hd (And.intro (HX0.out.1.fri f1) (HC.out _ _ _ HX0.out.2 f1))
        obtain ⟨vS, vF, -, -, x0, x1, x2, x3, x4, x5⟩ := i1.hk.hd.cells
        have p1 : u1.cell? ⟨bp, 1, none⟩ = some (.slice aD log.length cD) := by rw [cell_row i1.bx]; rfl
        have I1 := hd i1
        clear HX0 CD i1 f1 x0 x1 x2 x4 x5
        by_cases hl : x.k.hav < log.length
        · have j1 : (x.k.hav : Int) < (log.length : Int) := by omega
          have HHL := hd hl
          clear hl
          have e1 := hd (HO.out.take HP.out HD'.out HHL.out).1
          obtain ⟨hl1, hl2⟩ := HP.out.nth HHL.out
          obtain ⟨gd, od, had, -, hd1, hd2, hgd, q0, q1, q2, q3, q4⟩ := I1.out.dn.nth hl1
          simp only [hl2] at q0 q1 q2 q3 q4
          subst had
          have HOK := HP.out.okK HHL.out
          have HLE := HLen.out
          have CTm := hd (fun (W : World) (iW : It B0 B0 ob bp xt (L (130 + c)) βd (.slice (some ⟨gd, od, none⟩) log.length cD) (stW apE log E log.length).2 (c : Int) x x.k.text W) => iW.take (opK apE log E x.k.hav) e1.out (by have := HHL.out; have := HLen.out; omega) HOK)
          simp only [OpE.val] at CTm
          clear hl1 hl2 HOK HLE e1
          gi_wp2_with fail
          gi_quiet (fail)
          gi_upto_region 7 with fail
          generalize hv1 : u1.drewN nq = v1
          have bv : Below u1.heap.size u1 v1 := by rw [← hv1]; exact below_drewN (Below.refl _ _) _
          have IV := hd (I1.out.below bv)
          have lxh : B0 < u1.heap.size := I1.out.hk.hd.lt
          have lbp : bp < u1.heap.size := block_lt I1.out.bx
          have x3 := (bv.cell (p := ⟨B0, 3, none⟩) lxh).trans x3
          have p1 := (bv.cell (p := ⟨bp, 1, none⟩) lbp).trans p1
          have q0 := (bv.cell (p := ⟨gd, od + x.k.hav * 5, none⟩) hgd).trans q0
          have q1 := (bv.cell (p := ⟨gd, od + x.k.hav * 5 + 1, none⟩) hgd).trans q1
          have q2 := (bv.cell (p := ⟨gd, od + x.k.hav * 5 + 2, none⟩) hgd).trans q2
          have q3 := (bv.cell (p := ⟨gd, od + x.k.hav * 5 + 3, none⟩) hgd).trans q3
          have q4 := (bv.cell (p := ⟨gd, od + x.k.hav * 5 + 4, none⟩) hgd).trans q4
          have HXV := hd (And.intro (HX1.out.1.fri (FrI.of_below (B0 := B0) bv)) (HC.out _ _ _ HX1.out.2 (FrI.of_below bv)))
          clear hv1 bv I1 HX1 lxh lbp hgd
          gi_region_with (gi_at_call 49; refine (callsIn_wide.2 (CTm.out _ (IV.out.below (by first | exact (Below.refl _ _).drew | exact below_drewN (Below.refl _ _) _)))).mono ?_; rintro e u2 ⟨⟨ok, op, oc, ol, os⟩, rfl, hfit, ⟨β', ds', i2⟩, f2⟩; simp only [OpE.val]; have HX1 := hd (And.intro ((HXV.out.1.fri (FrI.of_below (B0 := B0) (by first | exact (Below.refl _ _).drew | exact below_drewN (Below.refl _ _) _))).fri f2) (HC.out _ _ _ (HC.out _ _ _ HXV.out.2 (FrI.of_below (by first | exact (Below.refl _ _).drew | exact below_drewN (Below.refl _ _) _))) f2)); obtain ⟨⟨y0, y1, y2, y3, y4⟩, ⟨g0, g1, g2, g3, g4⟩⟩ := cellsF (show u2.heap[ob]? = some (.cells #[.int .i64 x.o.kind, .int .i64 x.o.pos, .int .u8 x.o.ch, .int .i64 x.o.cl, .int .i64 x.o.sq] 69 (0, 0)) from i2.op))
          all_goals (
            gi_upto_region 8 with fail
            obtain ⟨u3, hu3⟩ : ∃ u3, ((((u2.setCell ⟨ob, 0, none⟩ (.int .i64 ok)).setCell ⟨ob, 1, none⟩ (.int .i64 op)).setCell ⟨ob, 2, none⟩ (.int .u8 oc)).setCell ⟨ob, 3, none⟩ (.int .i64 ol)).setCell ⟨ob, 4, none⟩ (.int .i64 os) = u3 := ⟨_, rfl⟩
            have z3 := i2.store ⟨ok, op, oc, ol, os⟩
            have es : set5 u2 ob 0 ok op oc ol os = u3 := hu3
            simp only [es] at z3
            rw [hu3]
            obtain ⟨i3, f3⟩ := z3
            obtain ⟨⟨z0, z1, z2, z3, z4⟩, -⟩ := cellsF (show u3.heap[ob]? = some (.cells #[.int .i64 ok, .int .i64 op, .int .u8 oc, .int .i64 ol, .int .i64 os] 69 (0, 0)) from i3.op)
            clear hu3 es y0 y1 y2 y3 y4 g0 g1 g2 g3 g4
            have HX3 := hd (And.intro (HX1.out.1.fri f3) (HC.out _ _ _ HX1.out.2 f3))
            have CA := hd (i3.apply ⟨ok, op, oc, ol, os⟩ hfit.1 hfit.2.1)
            have HFT := hd hfit.2.2
            simp only [OpE.val] at CA
            clear HX1 CTm i2 f2 i3 f3 hfit
            gi_wp2_with (gi_at_call 51; refine (callsIn_wide.2 CA.out).mono ?_; rintro e u4 ⟨a4, c4, rfl, i4, f4⟩)
            have Z : Hid (∃ m, SJ l D r Cp B0 B0 ob bp xt (L (130 + c)) βd (.slice (some ⟨gd, od, none⟩) log.length cD) log E c T m (.slice a4 (List.length (α := El) (apE x.k.text ⟨ok, op, oc, ol, os⟩)) c4) u4 ∧ m < x.k.still.length + (log.length - x.k.hav)) := ⟨_, SJ.next HCH.out (fun y hy => mem_apE hy) i4 (by rw [HFT.out]) (HC.out _ _ _ HX3.out.2 f4) (HX3.out.1.fri f4) (HO.out.take HP.out HD'.out HHL.out).2 HV.out (way_take2 HD'.out (by obtain ⟨h1, h2⟩ := HP.out.nth HHL.out; rw [List.getElem?_eq_getElem h1, h2])), by
              have e1 : (x.k.take apE (opK apE log E x.k.hav) ((opK apE log E x.k.hav).cl == (c : Int))).still = x.k.still ∧ (x.k.take apE (opK apE log E x.k.hav) ((opK apE log E x.k.hav).cl == (c : Int))).hav = x.k.hav + 1 := by unfold Wk.take; split <;> exact ⟨rfl, rfl⟩
              rw [e1.1, e1.2]
              have := HHL.out
              omega⟩
            have Z1 : Hid (∃ m, SJ l D r Cp B0 B0 ob bp xt (L (130 + c)) βd (.slice (some ⟨gd, od, none⟩) log.length cD) log E c T m (.slice a4 (List.length (α := El) (apE x.k.text ⟨ok, op, oc, ol, os⟩)) c4) u4) := by
              obtain ⟨m, h, -⟩ := Z.out
              exact ⟨m, h⟩
            have hlt : rk (fun m => SJ l D r Cp B0 B0 ob bp xt (L (130 + c)) βd (.slice (some ⟨gd, od, none⟩) log.length cD) log E c T m (.slice a4 (List.length (α := El) (apE x.k.text ⟨ok, op, oc, ol, os⟩)) c4)) u4 < rk (fun m => SJ l D r Cp B0 B0 ob bp xt (L (130 + c)) βd (.slice (some ⟨gd, od, none⟩) log.length cD) log E c T m x.vt) wr := by
              obtain ⟨m, h, hm⟩ := Z.out
              rw [HMM.out]
              exact Nat.lt_of_le_of_lt ((rk_spec Z1.out).2 m h) hm
            clear Z i4 f4 HX3 CA HMM HM HV HO HCH
            gi_wp2_with fail
            go_roundw
            case rel => exact Z1
            case measure => exact hlt)
        · have j1 : ¬ ((x.k.hav : Int) < (log.length : Int)) := by omega
          have HHL := hd hl
          have Z : Hid (∀ m, LB l D r (u1.drewN m) ∧ ∃ vs, Cp vs (u1.drewN m) ∧ vs.map PV.view = T ∧ Chn [] vs) := fun m => by
            have f2 : FrI B0 u1 (u1.drewN m) := FrI.of_below (below_drewN (Below.refl _ _) _)
            refine ⟨HX1.out.1.fri f2, _, HC.out _ _ _ HX1.out.2 f2, ?_, HCH.out⟩
            rw [← HV.out, way_end2 HD'.out (by rw [HP.out.len _ (Nat.le_refl _)]; have := HHL.out; omega)]
            simp [Sy.pv, PV.view, Wk.view]
          clear hl HMM HM HV HO I1 HX1
          gi_wp2_with fail
          gi_quiet (fail)
          gi_wp2_with fail
          refine bodyPost_ret (results_none rfl _ _ _) rfl ?_
          obtain ⟨z1, z2⟩ := Z.out _
          rw [← HTT.out] at z2
          exact ⟨⟨_, rfl⟩, .inl ⟨z1, z2⟩⟩
    · clear HO HV HMM HM
      gi_wp2_with fail
      refine bodyPost_end (results_none rfl _ _ _) rfl ?_
      exact ⟨⟨_, rfl⟩, .inr hX⟩
end

end Go.Proofs.YtfhghijefjhehaaGreatDoor
