/-
  Texts put together: Ub Pm Sa.
-/
import Derived.Test.YtilidolbplglcaaGreatDoorMUa
import Derived.Test.YtilidolbplglcaaGreatDoorMNb
import Derived.Test.YtilidolbplglcaaGreatDoorVa
/-! Ub -/
namespace Go.Proofs.YtilidolbplglcaaGreatDoor
open Go.RowKit
set_option linter.unusedVariables false

abbrev El := Int × Int × Int
def OpE.el (o : OpE) : El := (o.ch, o.cl, o.sq)

/-- The operation fits a text of n elements. -/
def FitO (n : Nat) (o : OpE) : Prop :=
  (o.kind = 0 ∧ o.pos = 0 ∧ o.ch = 0) ∨ (o.kind = 1 ∧ ∃ p : Nat, o.pos = p ∧ p ≤ n) ∨ (o.kind = 2 ∧ ∃ p : Nat, o.pos = p ∧ p < n)

/-- The text behind it. -/
def putP (d : List El) (o : OpE) : List El :=
  if o.kind = 1 then d.insertIdx o.pos.toNat o.el else if o.kind = 2 then d.eraseIdx o.pos.toNat else d

theorem wrap_up {n : Nat} (h : n < 1000000000) : wrap64 ((n : Int) + 1) = (n : Int) + 1 := by unfold wrap64; omega
theorem wrap_dn {n : Nat} (h : n < 1000000000) : wrap64 ((n : Int) - 1) = (n : Int) - 1 := by unfold wrap64; omega

theorem el_eta (o : OpE) {k p : Int} : (OpE.mk k p o.ch o.cl o.sq).el = o.el := rfl

theorem putP_ins (d : List El) (p : Nat) (c l s : Int) : putP d ⟨1, p, c, l, s⟩ = d.insertIdx p (c, l, s) := by simp [putP, OpE.el]
theorem putP_del (d : List El) (p : Nat) (c l s : Int) : putP d ⟨2, p, c, l, s⟩ = d.eraseIdx p := by simp [putP]
theorem putP_nop (d : List El) (p c l s : Int) : putP d ⟨0, p, c, l, s⟩ = d := by simp [putP]
theorem putP_ins1 (d : List El) (p : Nat) (c l s : Int) : putP d ⟨1, (p : Int) + 1, c, l, s⟩ = d.insertIdx (p + 1) (c, l, s) := putP_ins d (p + 1) c l s
theorem putP_del1 (d : List El) (p : Nat) (c l s : Int) : putP d ⟨2, (p : Int) + 1, c, l, s⟩ = d.eraseIdx (p + 1) := putP_del d (p + 1) c l s
theorem putP_ins0 (d : List El) (p : Nat) (c l s : Int) : putP d ⟨1, ((p + 1 : Nat) : Int) - 1, c, l, s⟩ = d.insertIdx p (c, l, s) := by
  rw [show ((p + 1 : Nat) : Int) - 1 = (p : Int) from by omega]; exact putP_ins d p c l s
theorem putP_del0 (d : List El) (p : Nat) (c l s : Int) : putP d ⟨2, ((p + 1 : Nat) : Int) - 1, c, l, s⟩ = d.eraseIdx p := by
  rw [show ((p + 1 : Nat) : Int) - 1 = (p : Int) from by omega]; exact putP_del d p c l s

/-- What holds at one square: a comes first. -/
structure Sq (d : List El) (a b : OpE) (a2 b2 : OpE) : Prop where
  fa : FitO (putP d b).length a2
  fb : FitO (putP d a).length b2
  eq : putP (putP d a) b2 = putP (putP d b) a2

theorem erase_len (d : List El) (p : Nat) (h : p < d.length) : (d.eraseIdx p).length = d.length - 1 := by
  rw [List.length_eraseIdx, if_pos h]
theorem insert_len (d : List El) (p : Nat) (x : El) (h : p ≤ d.length) : (d.insertIdx p x).length = d.length + 1 := by
  rw [List.length_insertIdx, if_pos h]

theorem erase_comm (d : List El) (p q : Nat) (h : p < q) : (d.eraseIdx p).eraseIdx (q - 1) = (d.eraseIdx q).eraseIdx p := by
  apply List.ext_getElem?
  intro j
  simp only [List.getElem?_eraseIdx]
  repeat' split
  all_goals first | rfl | omega

theorem square (d : List El) (a b : OpE) (hn : d.length < 1000000) (ha : FitO d.length a) (hb : FitO d.length b) : Sq d a b (shiftP a b true) (shiftP b a false) := by
  obtain ⟨ka, pa, ca, la, sa⟩ := a
  obtain ⟨kb, pb, cb, lb, sb⟩ := b
  unfold FitO at ha hb
  simp only at ha hb
  rcases ha with ⟨rfl, rfl, rfl⟩ | ⟨rfl, p, rfl, hp⟩ | ⟨rfl, p, rfl, hp⟩ <;> rcases hb with ⟨rfl, rfl, rfl⟩ | ⟨rfl, q, rfl, hq⟩ | ⟨rfl, q, rfl, hq⟩
  · exact ⟨.inl ⟨rfl, rfl, rfl⟩, .inl ⟨rfl, rfl, rfl⟩, rfl⟩
  · refine ⟨.inl ⟨rfl, rfl, rfl⟩, .inr (.inl ⟨rfl, q, rfl, hq⟩), ?_⟩
    simp [shiftP, putP_nop]
  · refine ⟨.inl ⟨rfl, rfl, rfl⟩, .inr (.inr ⟨rfl, q, rfl, hq⟩), ?_⟩
    simp [shiftP, putP_nop]
  · refine ⟨.inr (.inl ⟨rfl, p, rfl, hp⟩), .inl ⟨rfl, rfl, rfl⟩, ?_⟩
    simp [shiftP, putP_nop]
  · -- two insertions
    by_cases h : p ≤ q
    · have e1 : shiftP ⟨1, p, ca, la, sa⟩ ⟨1, q, cb, lb, sb⟩ true = ⟨1, p, ca, la, sa⟩ := by
        simp [shiftP]; omega
      have e2 : shiftP ⟨1, q, cb, lb, sb⟩ ⟨1, p, ca, la, sa⟩ false = ⟨1, (q : Int) + 1, cb, lb, sb⟩ := by
        simp [shiftP, wrap_up (show q < 1000000000 by omega)]; omega
      rw [e1, e2]
      refine ⟨.inr (.inl ⟨rfl, p, rfl, ?_⟩), .inr (.inl ⟨rfl, q + 1, rfl, ?_⟩), ?_⟩
      · rw [putP_ins, insert_len _ _ _ hq]; omega
      · rw [putP_ins, insert_len _ _ _ hp]; omega
      · rw [putP_ins, putP_ins1, putP_ins, putP_ins]
        exact List.insertIdx_comm _ _ h hq
    · have e1 : shiftP ⟨1, p, ca, la, sa⟩ ⟨1, q, cb, lb, sb⟩ true = ⟨1, (p : Int) + 1, ca, la, sa⟩ := by
        simp [shiftP, wrap_up (show p < 1000000000 by omega)]; omega
      have e2 : shiftP ⟨1, q, cb, lb, sb⟩ ⟨1, p, ca, la, sa⟩ false = ⟨1, q, cb, lb, sb⟩ := by
        simp [shiftP]; omega
      rw [e1, e2]
      refine ⟨.inr (.inl ⟨rfl, p + 1, rfl, ?_⟩), .inr (.inl ⟨rfl, q, rfl, ?_⟩), ?_⟩
      · rw [putP_ins, insert_len _ _ _ hq]; omega
      · rw [putP_ins, insert_len _ _ _ hp]; omega
      · rw [putP_ins, putP_ins, putP_ins, putP_ins1]
        exact (List.insertIdx_comm _ _ (by omega) hp).symm
  · -- a puts in, b takes away
    by_cases h : q < p
    · obtain ⟨r, rfl⟩ : ∃ r, p = r + 1 := ⟨p - 1, by omega⟩
      have e1 : shiftP ⟨1, ((r + 1 : Nat) : Int), ca, la, sa⟩ ⟨2, q, cb, lb, sb⟩ true = ⟨1, (r : Int), ca, la, sa⟩ := by
        have := wrap_dn (show r + 1 < 1000000000 by omega)
        rw [show ((r + 1 : Nat) : Int) - 1 = (r : Int) from by omega] at this
        simp [shiftP]
        rw [if_pos (by omega), this]
      have e2 : shiftP ⟨2, q, cb, lb, sb⟩ ⟨1, ((r + 1 : Nat) : Int), ca, la, sa⟩ false = ⟨2, q, cb, lb, sb⟩ := by
        simp [shiftP]; omega
      rw [e1, e2]
      refine ⟨.inr (.inl ⟨rfl, r, rfl, ?_⟩), .inr (.inr ⟨rfl, q, rfl, ?_⟩), ?_⟩
      · rw [putP_del, erase_len _ _ hq]; omega
      · rw [putP_ins, insert_len _ _ _ hp]; omega
      · rw [putP_ins, putP_del, putP_del, putP_ins]
        exact (List.insertIdx_eraseIdx_of_ge hq (by omega)).symm
    · have e1 : shiftP ⟨1, p, ca, la, sa⟩ ⟨2, q, cb, lb, sb⟩ true = ⟨1, p, ca, la, sa⟩ := by
        simp [shiftP]; omega
      have e2 : shiftP ⟨2, q, cb, lb, sb⟩ ⟨1, p, ca, la, sa⟩ false = ⟨2, (q : Int) + 1, cb, lb, sb⟩ := by
        simp [shiftP, wrap_up (show q < 1000000000 by omega)]; omega
      rw [e1, e2]
      refine ⟨.inr (.inl ⟨rfl, p, rfl, ?_⟩), .inr (.inr ⟨rfl, q + 1, rfl, ?_⟩), ?_⟩
      · rw [putP_del, erase_len _ _ hq]; omega
      · rw [putP_ins, insert_len _ _ _ hp]; omega
      · rw [putP_ins, putP_del1, putP_del, putP_ins]
        exact (List.insertIdx_eraseIdx_of_le hq (by omega)).symm
  · refine ⟨.inr (.inr ⟨rfl, p, rfl, hp⟩), .inl ⟨rfl, rfl, rfl⟩, ?_⟩
    simp [shiftP, putP_nop]
  · -- a takes away, b puts in
    by_cases h : q ≤ p
    · have e1 : shiftP ⟨2, p, ca, la, sa⟩ ⟨1, q, cb, lb, sb⟩ true = ⟨2, (p : Int) + 1, ca, la, sa⟩ := by
        simp [shiftP, wrap_up (show p < 1000000000 by omega)]; omega
      have e2 : shiftP ⟨1, q, cb, lb, sb⟩ ⟨2, p, ca, la, sa⟩ false = ⟨1, q, cb, lb, sb⟩ := by
        simp [shiftP]; omega
      rw [e1, e2]
      refine ⟨.inr (.inr ⟨rfl, p + 1, rfl, ?_⟩), .inr (.inl ⟨rfl, q, rfl, ?_⟩), ?_⟩
      · rw [putP_ins, insert_len _ _ _ hq]; omega
      · rw [putP_del, erase_len _ _ hp]; omega
      · rw [putP_del, putP_ins, putP_ins, putP_del1]
        exact List.insertIdx_eraseIdx_of_le hp (by omega)
    · obtain ⟨r, rfl⟩ : ∃ r, q = r + 1 := ⟨q - 1, by omega⟩
      have e1 : shiftP ⟨2, p, ca, la, sa⟩ ⟨1, ((r + 1 : Nat) : Int), cb, lb, sb⟩ true = ⟨2, p, ca, la, sa⟩ := by
        simp [shiftP]; omega
      have e2 : shiftP ⟨1, ((r + 1 : Nat) : Int), cb, lb, sb⟩ ⟨2, p, ca, la, sa⟩ false = ⟨1, (r : Int), cb, lb, sb⟩ := by
        have := wrap_dn (show r + 1 < 1000000000 by omega)
        rw [show ((r + 1 : Nat) : Int) - 1 = (r : Int) from by omega] at this
        simp [shiftP]
        rw [if_pos (by omega), this]
      rw [e1, e2]
      refine ⟨.inr (.inr ⟨rfl, p, rfl, ?_⟩), .inr (.inl ⟨rfl, r, rfl, ?_⟩), ?_⟩
      · rw [putP_ins, insert_len _ _ _ hq]; omega
      · rw [putP_del, erase_len _ _ hp]; omega
      · rw [putP_del, putP_ins, putP_ins, putP_del]
        exact List.insertIdx_eraseIdx_of_ge hp (by omega)
  · -- two deletions
    by_cases h : p = q
    · subst h
      have e1 : shiftP ⟨2, p, ca, la, sa⟩ ⟨2, p, cb, lb, sb⟩ true = ⟨0, 0, 0, la, sa⟩ := by simp [shiftP]
      have e2 : shiftP ⟨2, p, cb, lb, sb⟩ ⟨2, p, ca, la, sa⟩ false = ⟨0, 0, 0, lb, sb⟩ := by simp [shiftP]
      rw [e1, e2]
      refine ⟨.inl ⟨rfl, rfl, rfl⟩, .inl ⟨rfl, rfl, rfl⟩, ?_⟩
      rw [putP_nop, putP_nop, putP_del, putP_del]
    · by_cases h2 : p < q
      · obtain ⟨r, rfl⟩ : ∃ r, q = r + 1 := ⟨q - 1, by omega⟩
        have e1 : shiftP ⟨2, p, ca, la, sa⟩ ⟨2, ((r + 1 : Nat) : Int), cb, lb, sb⟩ true = ⟨2, p, ca, la, sa⟩ := by
          unfold shiftP; rw [if_neg (by simp), if_neg (by simp; omega), if_neg (by simp; omega)]
        have e2 : shiftP ⟨2, ((r + 1 : Nat) : Int), cb, lb, sb⟩ ⟨2, p, ca, la, sa⟩ false = ⟨2, (r : Int), cb, lb, sb⟩ := by
          have := wrap_dn (show r + 1 < 1000000000 by omega)
          rw [show ((r + 1 : Nat) : Int) - 1 = (r : Int) from by omega] at this
          simp [shiftP]
          rw [if_neg (by omega), if_pos (by omega), this]
        rw [e1, e2]
        refine ⟨.inr (.inr ⟨rfl, p, rfl, ?_⟩), .inr (.inr ⟨rfl, r, rfl, ?_⟩), ?_⟩
        · rw [putP_del, erase_len _ _ hq]; omega
        · rw [putP_del, erase_len _ _ hp]; omega
        · rw [putP_del, putP_del, putP_del, putP_del]
          exact erase_comm d p (r + 1) h2
      · obtain ⟨r, rfl⟩ : ∃ r, p = r + 1 := ⟨p - 1, by omega⟩
        have e2 : shiftP ⟨2, q, cb, lb, sb⟩ ⟨2, ((r + 1 : Nat) : Int), ca, la, sa⟩ false = ⟨2, q, cb, lb, sb⟩ := by
          unfold shiftP; rw [if_neg (by simp), if_neg (by simp; omega), if_neg (by simp; omega)]
        have e1 : shiftP ⟨2, ((r + 1 : Nat) : Int), ca, la, sa⟩ ⟨2, q, cb, lb, sb⟩ true = ⟨2, (r : Int), ca, la, sa⟩ := by
          have := wrap_dn (show r + 1 < 1000000000 by omega)
          rw [show ((r + 1 : Nat) : Int) - 1 = (r : Int) from by omega] at this
          simp [shiftP]
          rw [if_neg (by omega), if_pos (by omega), this]
        rw [e1, e2]
        refine ⟨.inr (.inr ⟨rfl, r, rfl, ?_⟩), .inr (.inr ⟨rfl, q, rfl, ?_⟩), ?_⟩
        · rw [putP_del, erase_len _ _ hq]; omega
        · rw [putP_del, erase_len _ _ hp]; omega
        · rw [putP_del, putP_del, putP_del, putP_del]
          exact (erase_comm d q (r + 1) (by omega)).symm

theorem putP_len (d : List El) (o : OpE) (h : FitO d.length o) : (putP d o).length ≤ d.length + 1 := by
  obtain ⟨k, p, c, l, s⟩ := o
  unfold FitO at h
  simp only at h
  rcases h with ⟨rfl, rfl, rfl⟩ | ⟨rfl, p, rfl, hp⟩ | ⟨rfl, p, rfl, hp⟩
  · rw [putP_nop]; omega
  · rw [putP_ins, insert_len _ _ _ hp]; omega
  · rw [putP_del, erase_len _ _ hp]; omega

/-- A line fits a text. -/
def FitL : List El → List OpE → Prop
  | _, [] => True
  | d, o :: l => FitO d.length o ∧ FitL (putP d o) l

def runP : List El → List OpE → List El
  | d, [] => d
  | d, o :: l => runP (putP d o) l

theorem runP_len (l : List OpE) : ∀ d, FitL d l → (runP d l).length ≤ d.length + l.length := by
  induction l with
  | nil => intro d _; exact Nat.le_refl _
  | cons o l ih =>
    intro d h
    have := ih _ h.2
    have := putP_len d o h.1
    simp only [runP, List.length_cons]
    omega

/-- An operation carried past a line. -/
theorem through_sq (l : List OpE) : ∀ (d : List El) (op : OpE) (f : Bool), d.length + l.length + 1 < 1000000 → FitO d.length op → FitL d l →
    FitO (runP d l).length (throughP op l f).1 ∧ FitL (putP d op) (throughP op l f).2 ∧ runP (putP d op) (throughP op l f).2 = putP (runP d l) (throughP op l f).1 := by
  induction l with
  | nil => intro d op f _ h _; exact ⟨h, trivial, rfl⟩
  | cons x l ih =>
    intro d op f hn ho hl
    simp only [List.length_cons] at hn
    have hx := putP_len d x hl.1
    have hs : FitO (putP d x).length (shiftP op x (!f)) ∧ FitO (putP d op).length (shiftP x op f) ∧ putP (putP d op) (shiftP x op f) = putP (putP d x) (shiftP op x (!f)) := by
      cases f
      · have := square d op x (by omega) ho hl.1
        exact ⟨this.fa, this.fb, this.eq⟩
      · have := square d x op (by omega) hl.1 ho
        exact ⟨this.fb, this.fa, this.eq.symm⟩
    obtain ⟨h1, h2, h3⟩ := ih (putP d x) (shiftP op x (!f)) f (by omega) hs.1 hl.2
    simp only [throughP, runP, FitL]
    rw [← hs.2.2] at h2 h3
    exact ⟨h1, ⟨hs.2.1, h2⟩, h3⟩

/-- Two lines carried past one another. -/
theorem weave_sq (bs : List OpE) : ∀ (d : List El) (xs : List OpE), d.length + xs.length + bs.length + 1 < 1000000 → FitL d xs → FitL d bs →
    FitL (runP d bs) (weaveP xs bs).1 ∧ FitL (runP d xs) (weaveP xs bs).2 ∧ runP (runP d xs) (weaveP xs bs).2 = runP (runP d bs) (weaveP xs bs).1 := by
  induction bs with
  | nil => intro d xs _ ha _; exact ⟨ha, trivial, rfl⟩
  | cons b bs ih =>
    intro d xs hn ha hb
    simp only [List.length_cons] at hn
    obtain ⟨h1, h2, h3⟩ := through_sq xs d b true (by omega) hb.1 ha
    have hl := putP_len d b hb.1
    obtain ⟨g1, g2, g3⟩ := ih (putP d b) (throughP b xs true).2 (by rw [throughP_len]; omega) h2 hb.2
    simp only [weaveP, runP, FitL]
    rw [h3] at g2 g3
    exact ⟨g1, ⟨h1, g2⟩, g3⟩

end Go.Proofs.YtilidolbplglcaaGreatDoor

/-! Pm -/
namespace Go.Proofs.YtilidolbplglcaaGreatDoor
open Go.RowKit
set_option linter.unusedVariables false

/-- An operation carried past a queue, the marks staying. -/
def thrQ : OpE → List (Int × OpE) → Bool → OpE × List (Int × OpE)
  | o, [], _ => (o, [])
  | o, x :: l, f => ((thrQ (shiftP o x.2 (!f)) l f).1, (x.1, shiftP x.2 o f) :: (thrQ (shiftP o x.2 (!f)) l f).2)

theorem thrQ_1 (l : List (Int × OpE)) : ∀ o f, (thrQ o l f).1 = (throughP o (l.map (·.2)) f).1 := by
  induction l with
  | nil => intro o f; rfl
  | cons x l ih => intro o f; simp only [thrQ, List.map_cons, throughP]; exact ih _ _
theorem thrQ_2 (l : List (Int × OpE)) : ∀ o f, (thrQ o l f).2.map (·.2) = (throughP o (l.map (·.2)) f).2 := by
  induction l with
  | nil => intro o f; rfl
  | cons x l ih => intro o f; simp only [thrQ, List.map_cons, throughP]; rw [ih]
theorem thrQ_m (l : List (Int × OpE)) : ∀ o f, (thrQ o l f).2.map (·.1) = l.map (·.1) := by
  induction l with
  | nil => intro o f; rfl
  | cons x l ih => intro o f; simp only [thrQ, List.map_cons]; rw [ih]
theorem thrQ_len (l : List (Int × OpE)) (o : OpE) (f : Bool) : (thrQ o l f).2.length = l.length := by
  have := congrArg List.length (thrQ_m l o f)
  simpa using this
theorem thrQ_app (l : List (Int × OpE)) : ∀ o m f, thrQ o (l ++ m) f = ((thrQ (thrQ o l f).1 m f).1, (thrQ o l f).2 ++ (thrQ (thrQ o l f).1 m f).2) := by
  induction l with
  | nil => intro o m f; rfl
  | cons x l ih => intro o m f; simp only [List.cons_append, thrQ, ih]
/-- Whatever is true of all marks stays so. -/
theorem thrQ_all {p : Int → Prop} {l : List (Int × OpE)} {o : OpE} {f : Bool} (h : ∀ x ∈ l, p x.1) : ∀ x ∈ (thrQ o l f).2, p x.1 := by
  intro x hx
  have h1 : x.1 ∈ (thrQ o l f).2.map (·.1) := List.mem_map_of_mem hx
  rw [thrQ_m] at h1
  obtain ⟨y, hy, e⟩ := List.mem_map.1 h1
  rw [← e]
  exact h y hy

/-- The queue without those up to the mark. -/
def dropQ (l : List (Int × OpE)) (m : Int) : List (Int × OpE) := l.dropWhile (fun x => decide (x.1 ≤ m))
theorem dropQ_mem {l : List (Int × OpE)} {m : Int} {x : Int × OpE} (h : x ∈ dropQ l m) : x ∈ l := (List.dropWhile_suffix _).subset h
theorem dropQ_all {l : List (Int × OpE)} {m : Int} (h : ∀ x ∈ l, x.1 ≤ m) : dropQ l m = [] := by
  induction l with
  | nil => rfl
  | cons x l ih =>
    unfold dropQ
    rw [List.dropWhile_cons_of_pos (by simpa using h x (by simp))]
    exact ih (fun y hy => h y (by simp [hy]))
theorem dropQ_none {l : List (Int × OpE)} {m : Int} (h : ∀ x ∈ l, m < x.1) : dropQ l m = l := by
  cases l with
  | nil => rfl
  | cons x l =>
    unfold dropQ
    rw [List.dropWhile_cons_of_neg]
    have := h x (by simp)
    simp
    omega
theorem dropQ_app {l k : List (Int × OpE)} {m : Int} (h : ∀ x ∈ k, m < x.1) : dropQ (l ++ k) m = dropQ l m ++ k := by
  induction l with
  | nil => simpa [dropQ] using dropQ_none h
  | cons x l ih =>
    by_cases hx : x.1 ≤ m
    · have e1 : ∀ r, dropQ (x :: r) m = dropQ r m := fun r => by unfold dropQ; rw [List.dropWhile_cons_of_pos (by simpa using hx)]
      rw [List.cons_append, e1, e1, ih]
    · have e1 : ∀ r, dropQ (x :: r) m = x :: r := fun r => by unfold dropQ; rw [List.dropWhile_cons_of_neg (by simpa using hx)]
      rw [List.cons_append, e1, e1, List.cons_append]

/-- A parcel. -/
structure Pc where
  m : Int
  t : Int
  o : OpE

/-- The operations of the parcels, carried past the queue one behind the other, are B. -/
def Par (f : Bool) : List (Int × OpE) → List Pc → List OpE → Prop
  | _, [], [] => True
  | q, p :: W, b :: B => (thrQ p.o (dropQ q p.t) f).1 = b ∧ Par f (thrQ p.o (dropQ q p.t) f).2 W B
  | _, [], _ :: _ => False
  | _, _ :: _, [] => False

theorem Par.nil {f : Bool} {q : List (Int × OpE)} {B : List OpE} (h : Par f q [] B) : B = [] := by
  cases B with
  | nil => rfl
  | cons b B => exact h.elim

/-- One more parcel, of one who has seen the whole queue. -/
theorem Par.snoc {f : Bool} (W : List Pc) : ∀ (q : List (Int × OpE)) (B : List OpE) (p : Pc), (∀ x ∈ q, x.1 ≤ p.t) → Par f q W B → Par f q (W ++ [p]) (B ++ [p.o]) := by
  induction W with
  | nil =>
    intro q B p hq h
    rw [Par.nil h]
    simp only [List.nil_append, Par]
    rw [dropQ_all hq]
    exact ⟨rfl, trivial⟩
  | cons w W ih =>
    intro q B p hq h
    cases B with
    | nil => exact h.elim
    | cons b B =>
      simp only [List.cons_append, Par]
      exact ⟨h.1, ih _ _ _ (thrQ_all (p := fun m => m ≤ p.t) (fun x hx => hq x (dropQ_mem hx))) h.2⟩

/-- One more in the queue, that none of the parcels has seen. -/
theorem Par.more {f : Bool} (W : List Pc) : ∀ (q : List (Int × OpE)) (A : List OpE) (m : Int) (b : OpE), (∀ p ∈ W, p.t < m) → Par f q W A → Par f (q ++ [(m, b)]) W (throughP b A (!f)).2 := by
  induction W with
  | nil =>
    intro q A m b _ h
    rw [Par.nil h]
    trivial
  | cons w W ih =>
    intro q A m b hW h
    cases A with
    | nil => exact h.elim
    | cons a A =>
      have hw := hW w (by simp)
      simp only [throughP, Par, Bool.not_not]
      rw [dropQ_app (by simp; exact hw), thrQ_app, h.1]
      simp only [thrQ]
      exact ⟨trivial, ih _ _ _ _ (fun p hp => hW p (by simp [hp])) h.2⟩

/-- A side. -/
structure Sd where
  f : Bool
  d : List El
  q : List (Int × OpE)
  made : Nat
  took : Int
  way : List Pc

def Sd.make (s : Sd) (o : OpE) : Sd := ⟨s.f, putP s.d o, s.q ++ [((s.made : Int) + 1, o)], s.made + 1, s.took, s.way ++ [⟨(s.made : Int) + 1, s.took, o⟩]⟩
def Sd.crossed (s : Sd) (p : Pc) : OpE × List (Int × OpE) := thrQ p.o (dropQ s.q p.t) s.f
def Sd.take (s : Sd) (p : Pc) : Sd := ⟨s.f, putP s.d (s.crossed p).1, (s.crossed p).2, s.made, p.m, s.way⟩
def Sd.sent (t : Sd) : Sd := ⟨t.f, t.d, t.q, t.made, t.took, t.way.drop 1⟩

structure Inv (N : Nat) (s t : Sd) (d0 : List El) (A1 A2 B1 B2 : List (Int × OpE)) : Prop where
  ff : t.f = !s.f
  qs : s.q = A1 ++ A2
  qt : t.q = B1 ++ B2
  a1 : ∀ x ∈ A1, x.1 ≤ t.took
  b1 : ∀ x ∈ B1, x.1 ≤ s.took
  a2 : ∀ x ∈ A2, t.took < x.1 ∧ x.1 ≤ s.made
  b2 : ∀ x ∈ B2, s.took < x.1 ∧ x.1 ≤ t.made
  ar : (A2.map (·.1)).Pairwise (· < ·)
  br : (B2.map (·.1)).Pairwise (· < ·)
  ts : 0 ≤ s.took ∧ s.took ≤ t.made
  tt : 0 ≤ t.took ∧ t.took ≤ s.made
  wa : s.way.map (·.m) = A2.map (·.1)
  wb : t.way.map (·.m) = B2.map (·.1)
  pa : Par s.f A1 t.way (B2.map (·.2))
  pb : Par t.f B1 s.way (A2.map (·.2))
  ta : ∀ p ∈ s.way, p.t ≤ s.took
  tb : ∀ p ∈ t.way, p.t ≤ t.took
  fa : FitL d0 (A2.map (·.2))
  fb : FitL d0 (B2.map (·.2))
  ra : runP d0 (A2.map (·.2)) = s.d
  rb : runP d0 (B2.map (·.2)) = t.d
  la : A2.length ≤ s.made
  lb : B2.length ≤ t.made
  ld : (d0.length : Int) ≤ N + s.took + t.took
  ls : (s.d.length : Int) ≤ N + s.made + s.took
  lt : (t.d.length : Int) ≤ N + t.made + t.took

section
variable {N : Nat} {s t : Sd} {d0 : List El} {A1 A2 B1 B2 : List (Int × OpE)}
theorem Inv.swap (h : Inv N s t d0 A1 A2 B1 B2) : Inv N t s d0 B1 B2 A1 A2 :=
  ⟨by rw [h.ff, Bool.not_not], h.qt, h.qs, h.b1, h.a1, h.b2, h.a2, h.br, h.ar, h.tt, h.ts, h.wb, h.wa, h.pb, h.pa, h.tb, h.ta, h.fb, h.fa, h.rb, h.ra, h.lb, h.la, by have := h.ld; omega, h.lt, h.ls⟩

theorem FitL_app (l : List OpE) : ∀ d m, FitL d l → FitL (runP d l) m → FitL d (l ++ m) := by
  induction l with
  | nil => intro d m _ h; exact h
  | cons o l ih => intro d m h k; exact ⟨h.1, ih _ _ h.2 k⟩
theorem runP_app (l : List OpE) : ∀ d m, runP d (l ++ m) = runP (runP d l) m := by
  induction l with
  | nil => intro d m; rfl
  | cons o l ih => intro d m; exact ih _ _

theorem Inv.make (h : Inv N s t d0 A1 A2 B1 B2) (o : OpE) (ho : FitO s.d.length o) : Inv N (s.make o) t d0 A1 (A2 ++ [((s.made : Int) + 1, o)]) B1 B2 := by
  have htt := h.tt
  refine ⟨h.ff, by simp [Sd.make, h.qs], h.qt, h.a1, h.b1, ?_, h.b2, ?_, h.br, h.ts, ⟨h.tt.1, by simp only [Sd.make]; omega⟩, ?_, h.wb, h.pa, ?_, ?_, h.tb, ?_, h.fb, ?_, h.rb, ?_, h.lb, h.ld, ?_, h.lt⟩
  · intro x hx
    rcases List.mem_append.1 hx with hx | hx
    · have := h.a2 x hx
      simp only [Sd.make]
      omega
    · simp at hx
      subst hx
      simp only [Sd.make]
      omega
  · rw [List.map_append, List.pairwise_append]
    refine ⟨h.ar, by simp, fun a ha b hb => ?_⟩
    simp at hb
    subst hb
    obtain ⟨x, hx, rfl⟩ := List.mem_map.1 ha
    have := h.a2 x hx
    omega
  · simp only [Sd.make, List.map_append, h.wa]
    rfl
  · simp only [List.map_append]
    exact Par.snoc _ _ _ ⟨(s.made : Int) + 1, s.took, o⟩ h.b1 h.pb
  · intro p hp
    rcases List.mem_append.1 hp with hp | hp
    · exact h.ta p hp
    · simp at hp
      subst hp
      exact Int.le_refl _
  · rw [List.map_append]
    exact FitL_app _ _ _ h.fa (by rw [h.ra]; exact ⟨ho, trivial⟩)
  · rw [List.map_append, runP_app, h.ra]
    rfl
  · have := h.la
    simp only [List.length_append, Sd.make]
    simp
    omega
  · have := putP_len s.d o ho
    have := h.ls
    simp only [Sd.make]
    omega

theorem Inv.takes (h : Inv N s t d0 A1 A2 B1 B2) {p : Pc} {W : List Pc} (hw : t.way = p :: W) (hm : (N : Int) + s.made + s.made + t.made + t.made < 900000) :
    FitO s.d.length (s.crossed p).1 ∧ ∃ d1 C1 C2 D1 D2, Inv N (s.take p) t.sent d1 C1 C2 D1 D2 := by
  have hts := h.ts
  have htt := h.tt
  obtain ⟨⟨m, b⟩, B2t, rfl⟩ : ∃ x l, B2 = x :: l := by
    have := h.wb
    rw [hw] at this
    cases B2 with
    | nil => simp at this
    | cons x l => exact ⟨x, l, rfl⟩
  have hpa := h.pa
  have hwb := h.wb
  rw [hw] at hpa hwb
  simp only [List.map_cons, List.cons.injEq] at hwb
  obtain ⟨rfl, hwb⟩ := hwb
  simp only [List.map_cons, Par] at hpa
  obtain ⟨e1, hpa⟩ := hpa
  have hpt : p.t ≤ t.took := h.tb p (by rw [hw]; simp)
  have hcr : s.crossed p = ((thrQ b A2 s.f).1, (thrQ p.o (dropQ A1 p.t) s.f).2 ++ (thrQ b A2 s.f).2) := by
    unfold Sd.crossed
    rw [h.qs, dropQ_app (fun x hx => by have := h.a2 x hx; omega), thrQ_app, e1]
  have hfb := h.fb
  simp only [List.map_cons, FitL] at hfb
  have hrb := h.rb
  simp only [List.map_cons, runP] at hrb
  have hla := h.la
  have hld := h.ld
  obtain ⟨g1, g2, g3⟩ := through_sq (A2.map (·.2)) d0 b s.f (by rw [List.length_map]; omega) hfb.1 h.fa
  rw [h.ra] at g1 g3
  rw [← thrQ_1] at g1 g3
  rw [← thrQ_2] at g2 g3
  have hb2 := h.b2 (p.m, b) (by simp)
  have hbr := h.br
  simp only [List.map_cons, List.pairwise_cons] at hbr
  refine ⟨by rw [hcr]; exact g1, putP d0 b, (thrQ p.o (dropQ A1 p.t) s.f).2, (thrQ b A2 s.f).2, B1 ++ [(p.m, b)], B2t, ?_⟩
  have hW : t.sent.way = W := by simp [Sd.sent, hw]
  have hd1 : (s.take p).d = putP s.d (thrQ b A2 s.f).1 := by simp only [Sd.take, hcr]
  have hl1 := putP_len d0 b hfb.1
  have hl2 := putP_len s.d _ g1
  have hls := h.ls
  have hlb := h.lb
  simp only [List.length_cons] at hlb
  exact {
    ff := h.ff
    qs := by simp only [Sd.take, hcr]
    qt := by simp only [Sd.sent]; rw [h.qt]; simp
    a1 := thrQ_all (p := fun m => m ≤ t.took) (fun x hx => h.a1 x (dropQ_mem hx))
    b1 := by
      intro x hx
      simp only [Sd.take]
      rcases List.mem_append.1 hx with hx | hx
      · have := h.b1 x hx
        omega
      · simp at hx
        subst hx
        exact Int.le_refl _
    a2 := thrQ_all (p := fun m => t.took < m ∧ m ≤ s.made) h.a2
    b2 := fun x hx => ⟨hbr.1 _ (List.mem_map_of_mem hx), (h.b2 x (by simp [hx])).2⟩
    ar := by rw [thrQ_m]; exact h.ar
    br := hbr.2
    ts := ⟨by simp only [Sd.take]; omega, hb2.2⟩
    tt := h.tt
    wa := by rw [thrQ_m]; exact h.wa
    wb := by rw [hW]; exact hwb
    pa := by rw [hW]; exact hpa
    pb := by
      have := Par.more s.way B1 (A2.map (·.2)) p.m b (fun p' hp => by have := h.ta p' hp; omega) h.pb
      rw [h.ff, Bool.not_not, ← thrQ_2] at this
      rw [show t.sent.f = !s.f from h.ff]
      exact this
    ta := fun p' hp => by have := h.ta p' hp; simp only [Sd.take]; omega
    tb := by rw [hW]; exact fun p' hp => h.tb p' (by rw [hw]; simp [hp])
    fa := g2
    fb := hfb.2
    ra := by rw [hd1]; exact g3
    rb := hrb
    la := by rw [thrQ_len]; exact h.la
    lb := by simp only [Sd.sent]; omega
    ld := by simp only [Sd.take, Sd.sent]; omega
    ls := by rw [hd1]; simp only [Sd.take]; omega
    lt := h.lt }

/-- Nothing is under way: the texts are the same. -/
theorem Inv.same (h : Inv N s t d0 A1 A2 B1 B2) (hs : s.way = []) (ht : t.way = []) : s.d = t.d := by
  have h1 : A2 = [] := by
    have := h.wa
    rw [hs] at this
    simpa using this.symm
  have h2 : B2 = [] := by
    have := h.wb
    rw [ht] at this
    simpa using this.symm
  have h3 := h.ra
  have h4 := h.rb
  subst h1
  subst h2
  exact h3.symm.trans h4

theorem inv_start (d : List El) : Inv d.length ⟨true, d, [], 0, 0, []⟩ ⟨false, d, [], 0, 0, []⟩ d [] [] [] [] := by
  refine ⟨rfl, rfl, rfl, by simp, by simp, by simp, by simp, by simp, by simp, by simp, by simp, rfl, rfl, trivial, trivial, by simp, by simp, trivial, trivial, rfl, rfl, by simp, by simp, by simp, by simp, by simp⟩
end
end Go.Proofs.YtilidolbplglcaaGreatDoor

/-! Sa -/
namespace Go.Proofs.YtilidolbplglcaaGreatDoor
open Go.RowKit
set_option linter.unusedVariables false

/-- A space, without memory. -/
structure Sp where
  f : Bool
  q : List (Int × OpE)
  last : Int
def Sp.ms (p : Sp) : List Int := p.q.map (·.1)
def Sp.os (p : Sp) : List OpE := p.q.map (·.2)
structure Sp.ok (p : Sp) : Prop where
  n : (p.q.length : Int) ≤ p.last
  m : p.last ≤ 4096
  ch : OkO p.os

def keepE (p : Sp) (m : Int) (o : OpE) : Int := if validP o ≠ 0 then validP o else if m ≤ p.last ∨ 4096 < m then 100 else 0
def keepS (p : Sp) (m : Int) (o : OpE) : Sp := if keepE p m o = 0 then ⟨p.f, p.q ++ [(m, o)], m⟩ else p
def dropN (p : Sp) (m : Int) : Nat := (p.q.takeWhile (fun x => decide (x.1 ≤ m))).length
def dropS (p : Sp) (m : Int) : Sp := { p with q := dropQ p.q m }
def crossO (p : Sp) (o : OpE) : OpE := if validP o = 0 then (thrQ o p.q p.f).1 else zop
def crossS (p : Sp) (o : OpE) : Sp := if validP o = 0 then { p with q := (thrQ o p.q p.f).2 } else p

theorem keepE_zero {p : Sp} {m : Int} {o : OpE} (h : keepE p m o = 0) : validP o = 0 ∧ p.last < m ∧ m ≤ 4096 := by
  unfold keepE at h
  split at h
  · omega
  · split at h
    · omega
    · omega
theorem keepS_ok {p : Sp} (h : p.ok) (m : Int) (o : OpE) (ho : OkOp o) : (keepS p m o).ok := by
  unfold keepS
  split
  · next hk =>
    obtain ⟨h1, h2, h3⟩ := keepE_zero hk
    have := h.n
    refine ⟨by simp; omega, h3, fun x hx => ?_⟩
    simp [Sp.os] at hx
    rcases hx with ⟨m', hx⟩ | rfl
    · exact h.ch x (by simp [Sp.os]; exact ⟨m', hx⟩)
    · exact ho
  · exact h
theorem dropS_ok {p : Sp} (h : p.ok) (m : Int) : (dropS p m).ok := by
  have h1 := (List.dropWhile_sublist (fun x : Int × OpE => decide (x.1 ≤ m)) (l := p.q)).length_le
  refine ⟨?_, h.m, fun o ho => ?_⟩
  · have := h.n
    simp only [dropS, dropQ]
    omega
  · obtain ⟨x, hx, rfl⟩ := List.mem_map.1 ho
    exact h.ch _ (List.mem_map_of_mem (dropQ_mem hx))
theorem shiftL_ok (l : List (Int × OpE)) : ∀ (o : OpE) (f : Bool), OkO (l.map (·.2)) → OkO ((thrQ o l f).2.map (·.2)) := by
  induction l with
  | nil => intro o f h; exact h
  | cons x l ih =>
    intro o f h y hy
    simp only [thrQ, List.map_cons, List.mem_cons] at hy
    rcases hy with rfl | hy
    · exact shiftP_ok (h x.2 (by simp))
    · exact ih _ _ (fun z hz => h z (by simp only [List.map_cons, List.mem_cons]; exact .inr hz)) y hy
theorem crossS_ok {p : Sp} (h : p.ok) (o : OpE) : (crossS p o).ok := by
  unfold crossS
  split
  · exact ⟨by simp only [thrQ_len]; exact h.n, h.m, shiftL_ok _ _ _ h.ch⟩
  · exact h
theorem Sp.ms_len (p : Sp) : p.ms.length = p.q.length := by simp [Sp.ms]
theorem Sp.os_len (p : Sp) : p.os.length = p.q.length := by simp [Sp.os]

def ei (x : Int) : List Value := [.int .i64 x]
theorem sz_ei : Sz ei 1 := fun x => ⟨rfl, fun v hv => by simp [ei] at hv; subst hv; rfl⟩
theorem sz_opc : Sz opc 5 := fun x => ⟨rfl, fun v hv => cO_one' [x] v (by rw [cO_one]; exact hv)⟩

theorem Tryz.infoI : (Tryz.prog.info? 3).map (fun i => (i.zero, i.size, i.bytes)) = some (some (.int .i64 0), 1, 8) := by kernel_rfl

/-- The space at block x. -/
structure SK (w : World) (x : Nat) (f : Bool) (ms : List Int) (os : List OpE) (last : Int) (vm vo : Value) (βm βo : Option Nat) : Prop where
  box : w.heap[x]? = some (.cells #[vm, vo, .bool f, .int .i64 last] 134 (0, 0))
  rm : SF ei 1 w 3 βm vm ms
  ro : SF opc 5 w 46 βo vo os

/-- ... its blocks are among S. -/
def RAt (w : World) (x : Nat) (f : Bool) (ms : List Int) (os : List OpE) (last : Int) (S : Nat → Prop) : Prop :=
  ∃ vm vo βm βo, SK w x f ms os last vm vo βm βo ∧ S x ∧ (∀ g, βm = some g → S g) ∧ (∀ g, βo = some g → S g) ∧ ∀ k, S k → k < w.heap.size
def NowR (w w' : World) (x : Nat) (f : Bool) (ms : List Int) (os : List OpE) (last : Int) (S : Nat → Prop) : Prop :=
  ∃ S', RAt w' x f ms os last S' ∧ (∀ k, S' k → S k ∨ w.heap.size ≤ k) ∧ Fr S w w'
def SpAt (w : World) (x : Nat) (p : Sp) (S : Nat → Prop) : Prop := RAt w x p.f p.ms p.os p.last S ∧ p.ok
def Now (w w' : World) (x : Nat) (p : Sp) (S : Nat → Prop) : Prop := ∃ S', SpAt w' x p S' ∧ (∀ k, S' k → S k ∨ w.heap.size ≤ k) ∧ Fr S w w'

section
variable {w w' u : World} {x : Nat} {f : Bool} {ms : List Int} {os : List OpE} {last : Int} {vm vo : Value} {βm βo : Option Nat} {S T : Nat → Prop} {p : Sp}
theorem SK.fr (h : SK w x f ms os last vm vo βm βo) (hF : Fr S w w') (hx : ¬ S x) (h1 : ∀ g, βm = some g → ¬ S g) (h2 : ∀ g, βo = some g → ¬ S g) : SK w' x f ms os last vm vo βm βo :=
  ⟨hF.keeps h.box hx, h.rm.fr hF h1, h.ro.fr hF h2⟩
theorem SK.below (h : SK w x f ms os last vm vo βm βo) (hb : Below w.heap.size w w') : SK w' x f ms os last vm vo βm βo :=
  h.fr (S := fun _ => False) (Fr.of_below hb) (fun h => h) (fun _ _ h => h) (fun _ _ h => h)
theorem SK.m_ne (h : SK w x f ms os last vm vo βm βo) : βm ≠ some x := by
  rintro rfl
  obtain ⟨cur, h1⟩ := h.rm.blk
  have := h.box
  rw [h1] at this
  simp at this
theorem SK.o_ne (h : SK w x f ms os last vm vo βm βo) : βo ≠ some x := by
  rintro rfl
  obtain ⟨cur, h1⟩ := h.ro.blk
  have := h.box
  rw [h1] at this
  simp at this
theorem SK.mo_ne (h : SK w x f ms os last vm vo βm βo) {g : Nat} (hg : βm = some g) : βo ≠ some g := by
  rintro rfl
  subst hg
  obtain ⟨c1, h1⟩ := h.ro.blk
  obtain ⟨c2, h2⟩ := h.rm.blk
  rw [h1] at h2
  simp at h2
theorem RAt.fr (h : RAt w x f ms os last S) (hF : Fr T w w') (hS : ∀ k, S k → ¬ T k) : RAt w' x f ms os last S := by
  obtain ⟨vm, vo, βm, βo, h, h1, h2, h3, h4⟩ := h
  exact ⟨vm, vo, βm, βo, h.fr hF (hS x h1) (fun g hg => hS g (h2 g hg)) (fun g hg => hS g (h3 g hg)), h1, h2, h3, fun k hk => Nat.lt_of_lt_of_le (h4 k hk) hF.size⟩
theorem RAt.below (h : RAt w x f ms os last S) (hb : Below w.heap.size w w') : RAt w' x f ms os last S :=
  h.fr (T := fun _ => False) (Fr.of_below hb) (fun _ _ h => h)
theorem SpAt.fr (h : SpAt w x p S) (hF : Fr T w w') (hS : ∀ k, S k → ¬ T k) : SpAt w' x p S := ⟨h.1.fr hF hS, h.2⟩
theorem SpAt.below (h : SpAt w x p S) (hb : Below w.heap.size w w') : SpAt w' x p S := ⟨h.1.below hb, h.2⟩
theorem RAt.old (h : RAt w x f ms os last S) : ∀ k, S k → k < w.heap.size := by
  obtain ⟨vm, vo, βm, βo, h, h1, h2, h3, h4⟩ := h
  exact h4
theorem NowR.trans {f' : Bool} {ms' : List Int} {os' : List OpE} {last' : Int} (h : NowR w u x f ms os last S) (k : ∀ S', RAt u x f ms os last S' → NowR u w' x f' ms' os' last' S') : NowR w w' x f' ms' os' last' S := by
  obtain ⟨S1, h1, h2, h3⟩ := h
  obtain ⟨S2, k1, k2, k3⟩ := k S1 h1
  have hz := h3.size
  refine ⟨S2, k1, fun j hj => ?_, h3.next k3 (fun i hi hs => ?_)⟩
  · rcases k2 j hj with hs | hs
    · exact h2 j hs
    · exact .inr (by omega)
  · rcases h2 i hs with h | h
    · exact h
    · omega
theorem NowR.of_below (h : RAt w x f ms os last S) (hb : Below w.heap.size w w') : NowR w w' x f ms os last S := ⟨S, h.below hb, fun k hk => .inl hk, Fr.of_below hb⟩
theorem Now.of_below (h : SpAt w x p S) (hb : Below w.heap.size w w') : Now w w' x p S := ⟨S, h.below hb, fun k hk => .inl hk, Fr.of_below hb⟩
theorem Now.after (hb : Below w.heap.size w u) (h : Now u w' x p S) (hS : ∀ k, S k → k < w.heap.size) : Now w w' x p S := by
  obtain ⟨S', h1, h2, h3⟩ := h
  have hz := hb.size
  exact ⟨S', h1, fun k hk => (h2 k hk).imp id (fun h => by omega), (Fr.of_below hb).trans h3⟩
theorem Now.later (h : Now w u x p S) (hb : Below u.heap.size u w') : Now w w' x p S := by
  obtain ⟨S', h1, h2, h3⟩ := h
  exact ⟨S', h1.below hb, h2, h3.trans (Fr.of_below hb)⟩

theorem NowF.out {α : Type} {f : α → List Value} {k : Nat} {w w' : World} {e : TypeId} {β : Option Nat} {v' : Value} {xs : List α} (h : NowF f k w w' e β v' xs) :
    ∃ g', SF f k w' e (some g') v' xs ∧ (β = some g' ∨ g' = w.heap.size) ∧ Fr (fun j => β = some j) w w' := by
  obtain ⟨g', h1, h2 | h2⟩ := h
  · exact ⟨g', h1, .inl h2.1, h2.2.mono (fun k _ hk => by rw [hk]; exact h2.1)⟩
  · exact ⟨g', h1, .inr h2.1, h2.2.mono (fun k _ hk => hk.elim)⟩

/-- A new row of marks. -/
theorem now_marks {v' : Value} {ms' : List Int} {g' : Nat} (h : SK w x f ms os last vm vo βm βo) (hSx : S x) (hSm : ∀ g, βm = some g → S g) (hSo : ∀ g, βo = some g → S g) (hS : ∀ k, S k → k < w.heap.size)
    (h1 : SF ei 1 w' 3 (some g') v' ms') (h2 : βm = some g' ∨ w.heap.size ≤ g') (h3 : Fr (fun j => βm = some j) w w') : NowR w (w'.setCell ⟨x, 0, none⟩ v') x f ms' os last S := by
  have hxu : x < w.heap.size := block_lt h.box
  have hxg : g' ≠ x := by
    rintro rfl
    rcases h2 with h2 | h2
    · exact h.m_ne h2
    · omega
  have hx := h3.keeps h.box (fun hb => h.m_ne hb)
  have hF : Fr (· = x) w' (w'.setCell ⟨x, 0, none⟩ v') := Fr.setCell _ _ _ rfl
  have hsz := h3.size
  have hsz3 := hF.size
  refine ⟨fun k => k = x ∨ k = g' ∨ βo = some k, ⟨v', vo, some g', βo, ⟨?_, h1.fr hF (fun g hg => by injection hg with hg; omega), (h.ro.fr h3 (fun g hg hm => h.mo_ne hm hg)).fr hF (fun g hg he => h.o_ne (he ▸ hg))⟩, .inl rfl, fun g hg => by injection hg with hg; exact .inr (.inl hg.symm), fun g hg => .inr (.inr hg), ?_⟩, ?_, ?_⟩
  · have := set_row hx 0 v'
    simpa using this
  · rintro k (rfl | rfl | hk)
    · omega
    · have := h1.lt _ rfl; omega
    · have := hS k (hSo k hk); omega
  · rintro k (rfl | rfl | hk)
    · exact .inl hSx
    · rcases h2 with h2 | h2
      · exact .inl (hSm _ h2)
      · exact .inr (by omega)
    · exact .inl (hSo k hk)
  · exact (h3.mono (S' := S) (fun k _ hk => hSm k hk)).next hF (fun k _ hk => by rw [hk]; exact hSx)

/-- A new row of operations. -/
theorem now_ops {v' : Value} {os' : List OpE} {g' : Nat} (h : SK w x f ms os last vm vo βm βo) (hSx : S x) (hSm : ∀ g, βm = some g → S g) (hSo : ∀ g, βo = some g → S g) (hS : ∀ k, S k → k < w.heap.size)
    (h1 : SF opc 5 w' 46 (some g') v' os') (h2 : βo = some g' ∨ w.heap.size ≤ g') (h3 : Fr (fun j => βo = some j) w w') : NowR w (w'.setCell ⟨x, 1, none⟩ v') x f ms os' last S := by
  have hxu : x < w.heap.size := block_lt h.box
  have hxg : g' ≠ x := by
    rintro rfl
    rcases h2 with h2 | h2
    · exact h.o_ne h2
    · omega
  have hx := h3.keeps h.box (fun hb => h.o_ne hb)
  have hF : Fr (· = x) w' (w'.setCell ⟨x, 1, none⟩ v') := Fr.setCell _ _ _ rfl
  have hsz := h3.size
  have hsz3 := hF.size
  refine ⟨fun k => k = x ∨ k = g' ∨ βm = some k, ⟨vm, v', βm, some g', ⟨?_, (h.rm.fr h3 (fun g hg hm => h.mo_ne hg hm)).fr hF (fun g hg he => h.m_ne (he ▸ hg)), h1.fr hF (fun g hg => by injection hg with hg; omega)⟩, .inl rfl, fun g hg => .inr (.inr hg), fun g hg => by injection hg with hg; exact .inr (.inl hg.symm), ?_⟩, ?_, ?_⟩
  · have := set_row hx 1 v'
    simpa using this
  · rintro k (rfl | rfl | hk)
    · omega
    · have := h1.lt _ rfl; omega
    · have := hS k (hSm k hk); omega
  · rintro k (rfl | rfl | hk)
    · exact .inl hSx
    · rcases h2 with h2 | h2
      · exact .inl (hSo _ h2)
      · exact .inr (by omega)
    · exact .inl (hSm k hk)
  · exact (h3.mono (S' := S) (fun k _ hk => hSo k hk)).next hF (fun k _ hk => by rw [hk]; exact hSx)

theorem now_last (h : RAt w x f ms os last S) (l : Int) : NowR w (w.setCell ⟨x, 3, none⟩ (.int .i64 l)) x f ms os l S := by
  obtain ⟨vm, vo, βm, βo, h, h1, h2, h3, h4⟩ := h
  have hF : Fr (· = x) w (w.setCell ⟨x, 3, none⟩ (.int .i64 l)) := Fr.setCell _ _ _ rfl
  have hsz := hF.size
  refine ⟨S, ⟨vm, vo, βm, βo, ⟨?_, h.rm.fr hF (fun g hg he => h.m_ne (he ▸ hg)), h.ro.fr hF (fun g hg he => h.o_ne (he ▸ hg))⟩, h1, h2, h3, fun k hk => by have := h4 k hk; omega⟩, fun k hk => .inl hk, hF.mono (fun k _ hk => by rw [hk]; exact h1)⟩
  have := set_row h.box 3 (.int .i64 l)
  simpa using this
end

theorem new_any (f : Bool) (w : World) : Calls Tryz.prog 63 #[.bool f] w fun e w' => ∃ x, e = .returned (.pointer (some ⟨x, 0, none⟩)) ∧ ∃ S, SpAt w' x ⟨f, [], 0⟩ S ∧ (∀ k, S k → w.heap.size ≤ k) ∧ Below w.heap.size w w' := by
  go_enter Tryz.func63, Tryz.ntmps63
  go_wp2
  refine bodyPost_ret (v := .pointer (some ⟨w.heap.size, 0, none⟩)) (by simp [results, Tryz.results63, go_sem]) rfl ?_
  refine ⟨_, rfl, fun k => k = w.heap.size, ⟨⟨.slice none 0 0, .slice none 0 0, none, none, ⟨?_, ⟨rfl, rfl⟩, ⟨rfl, rfl⟩⟩, rfl, by simp, by simp, ?_⟩, ⟨by simp, by simp, fun o ho => by simp [Sp.os] at ho⟩⟩, ?_, ?_⟩
  · exact heap_alloc_new w _
  · rintro k rfl; simp
  · rintro k rfl; omega
  · exact (Below.refl _ _).alloc (Nat.le_refl _) _


end Go.Proofs.YtilidolbplglcaaGreatDoor
