/-
  Texts, without memory: the square of two operations; of two lines.
-/
import Derived.Test.YtmbnimlibnheeabDoorUa
namespace Go.Proofs.YtmbnimlibnheeabDoor
open Go.RowKit
set_option linter.unusedVariables false

abbrev El := Int × Int × Int
def OpE.el (o : OpE) : El := (o.ch, o.cl, o.sq)

/-- The operation fits a text of n elements. -/
def FitO (n : Nat) (o : OpE) : Prop :=
  (o.kind = 0 ∧ o.pos = 0 ∧ o.ch = 0) ∨ (o.kind = 1 ∧ ∃ p : Nat, o.pos = p ∧ p ≤ n) ∨ (o.kind = 2 ∧ ∃ p : Nat, o.pos = p ∧ p < n)

/-- The text behind it. -/
def putP (d : List El) (o : OpE) : List El :=
  if o.kind = 1 then d.insertIdx o.pos.toNat o.el else if o.kind = 2 then d.eraseIdx o.pos.toNat else d

theorem wrap_up {n : Nat} (h : n < 1000000000) : wrap64 ((n : Int) + 1) = (n : Int) + 1 := by unfold wrap64; omega
theorem wrap_dn {n : Nat} (h : n < 1000000000) : wrap64 ((n : Int) - 1) = (n : Int) - 1 := by unfold wrap64; omega

theorem el_eta (o : OpE) {k p : Int} : (OpE.mk k p o.ch o.cl o.sq).el = o.el := rfl

theorem putP_ins (d : List El) (p : Nat) (c l s : Int) : putP d ⟨1, p, c, l, s⟩ = d.insertIdx p (c, l, s) := by simp [putP, OpE.el]
theorem putP_del (d : List El) (p : Nat) (c l s : Int) : putP d ⟨2, p, c, l, s⟩ = d.eraseIdx p := by simp [putP]
theorem putP_nop (d : List El) (p c l s : Int) : putP d ⟨0, p, c, l, s⟩ = d := by simp [putP]
theorem putP_ins1 (d : List El) (p : Nat) (c l s : Int) : putP d ⟨1, (p : Int) + 1, c, l, s⟩ = d.insertIdx (p + 1) (c, l, s) := putP_ins d (p + 1) c l s
theorem putP_del1 (d : List El) (p : Nat) (c l s : Int) : putP d ⟨2, (p : Int) + 1, c, l, s⟩ = d.eraseIdx (p + 1) := putP_del d (p + 1) c l s
theorem putP_ins0 (d : List El) (p : Nat) (c l s : Int) : putP d ⟨1, ((p + 1 : Nat) : Int) - 1, c, l, s⟩ = d.insertIdx p (c, l, s) := by
  rw [show ((p + 1 : Nat) : Int) - 1 = (p : Int) from by omega]; exact putP_ins d p c l s
theorem putP_del0 (d : List El) (p : Nat) (c l s : Int) : putP d ⟨2, ((p + 1 : Nat) : Int) - 1, c, l, s⟩ = d.eraseIdx p := by
  rw [show ((p + 1 : Nat) : Int) - 1 = (p : Int) from by omega]; exact putP_del d p c l s

/-- What holds at one square: a comes first. -/
structure Sq (d : List El) (a b : OpE) (a2 b2 : OpE) : Prop where
  fa : FitO (putP d b).length a2
  fb : FitO (putP d a).length b2
  eq : putP (putP d a) b2 = putP (putP d b) a2

theorem erase_len (d : List El) (p : Nat) (h : p < d.length) : (d.eraseIdx p).length = d.length - 1 := by
  rw [List.length_eraseIdx, if_pos h]
theorem insert_len (d : List El) (p : Nat) (x : El) (h : p ≤ d.length) : (d.insertIdx p x).length = d.length + 1 := by
  rw [List.length_insertIdx, if_pos h]

theorem erase_comm (d : List El) (p q : Nat) (h : p < q) : (d.eraseIdx p).eraseIdx (q - 1) = (d.eraseIdx q).eraseIdx p := by
  apply List.ext_getElem?
  intro j
  simp only [List.getElem?_eraseIdx]
  repeat' split
  all_goals first | rfl | omega

theorem square (d : List El) (a b : OpE) (hn : d.length < 1000000) (ha : FitO d.length a) (hb : FitO d.length b) : Sq d a b (shiftP a b true) (shiftP b a false) := by
  obtain ⟨ka, pa, ca, la, sa⟩ := a
  obtain ⟨kb, pb, cb, lb, sb⟩ := b
  unfold FitO at ha hb
  simp only at ha hb
  rcases ha with ⟨rfl, rfl, rfl⟩ | ⟨rfl, p, rfl, hp⟩ | ⟨rfl, p, rfl, hp⟩ <;> rcases hb with ⟨rfl, rfl, rfl⟩ | ⟨rfl, q, rfl, hq⟩ | ⟨rfl, q, rfl, hq⟩
  · exact ⟨.inl ⟨rfl, rfl, rfl⟩, .inl ⟨rfl, rfl, rfl⟩, rfl⟩
  · refine ⟨.inl ⟨rfl, rfl, rfl⟩, .inr (.inl ⟨rfl, q, rfl, hq⟩), ?_⟩
    simp [shiftP, putP_nop]
  · refine ⟨.inl ⟨rfl, rfl, rfl⟩, .inr (.inr ⟨rfl, q, rfl, hq⟩), ?_⟩
    simp [shiftP, putP_nop]
  · refine ⟨.inr (.inl ⟨rfl, p, rfl, hp⟩), .inl ⟨rfl, rfl, rfl⟩, ?_⟩
    simp [shiftP, putP_nop]
  · -- two insertions
    by_cases h : p ≤ q
    · have e1 : shiftP ⟨1, p, ca, la, sa⟩ ⟨1, q, cb, lb, sb⟩ true = ⟨1, p, ca, la, sa⟩ := by
        simp [shiftP]; omega
      have e2 : shiftP ⟨1, q, cb, lb, sb⟩ ⟨1, p, ca, la, sa⟩ false = ⟨1, (q : Int) + 1, cb, lb, sb⟩ := by
        simp [shiftP, wrap_up (show q < 1000000000 by omega)]; omega
      rw [e1, e2]
      refine ⟨.inr (.inl ⟨rfl, p, rfl, ?_⟩), .inr (.inl ⟨rfl, q + 1, rfl, ?_⟩), ?_⟩
      · rw [putP_ins, insert_len _ _ _ hq]; omega
      · rw [putP_ins, insert_len _ _ _ hp]; omega
      · rw [putP_ins, putP_ins1, putP_ins, putP_ins]
        exact List.insertIdx_comm _ _ h hq
    · have e1 : shiftP ⟨1, p, ca, la, sa⟩ ⟨1, q, cb, lb, sb⟩ true = ⟨1, (p : Int) + 1, ca, la, sa⟩ := by
        simp [shiftP, wrap_up (show p < 1000000000 by omega)]; omega
      have e2 : shiftP ⟨1, q, cb, lb, sb⟩ ⟨1, p, ca, la, sa⟩ false = ⟨1, q, cb, lb, sb⟩ := by
        simp [shiftP]; omega
      rw [e1, e2]
      refine ⟨.inr (.inl ⟨rfl, p + 1, rfl, ?_⟩), .inr (.inl ⟨rfl, q, rfl, ?_⟩), ?_⟩
      · rw [putP_ins, insert_len _ _ _ hq]; omega
      · rw [putP_ins, insert_len _ _ _ hp]; omega
      · rw [putP_ins, putP_ins, putP_ins, putP_ins1]
        exact (List.insertIdx_comm _ _ (by omega) hp).symm
  · -- a puts in, b takes away
    by_cases h : q < p
    · obtain ⟨r, rfl⟩ : ∃ r, p = r + 1 := ⟨p - 1, by omega⟩
      have e1 : shiftP ⟨1, ((r + 1 : Nat) : Int), ca, la, sa⟩ ⟨2, q, cb, lb, sb⟩ true = ⟨1, (r : Int), ca, la, sa⟩ := by
        have := wrap_dn (show r + 1 < 1000000000 by omega)
        rw [show ((r + 1 : Nat) : Int) - 1 = (r : Int) from by omega] at this
        simp [shiftP]
        rw [if_pos (by omega), this]
      have e2 : shiftP ⟨2, q, cb, lb, sb⟩ ⟨1, ((r + 1 : Nat) : Int), ca, la, sa⟩ false = ⟨2, q, cb, lb, sb⟩ := by
        simp [shiftP]; omega
      rw [e1, e2]
      refine ⟨.inr (.inl ⟨rfl, r, rfl, ?_⟩), .inr (.inr ⟨rfl, q, rfl, ?_⟩), ?_⟩
      · rw [putP_del, erase_len _ _ hq]; omega
      · rw [putP_ins, insert_len _ _ _ hp]; omega
      · rw [putP_ins, putP_del, putP_del, putP_ins]
        exact (List.insertIdx_eraseIdx_of_ge hq (by omega)).symm
    · have e1 : shiftP ⟨1, p, ca, la, sa⟩ ⟨2, q, cb, lb, sb⟩ true = ⟨1, p, ca, la, sa⟩ := by
        simp [shiftP]; omega
      have e2 : shiftP ⟨2, q, cb, lb, sb⟩ ⟨1, p, ca, la, sa⟩ false = ⟨2, (q : Int) + 1, cb, lb, sb⟩ := by
        simp [shiftP, wrap_up (show q < 1000000000 by omega)]; omega
      rw [e1, e2]
      refine ⟨.inr (.inl ⟨rfl, p, rfl, ?_⟩), .inr (.inr ⟨rfl, q + 1, rfl, ?_⟩), ?_⟩
      · rw [putP_del, erase_len _ _ hq]; omega
      · rw [putP_ins, insert_len _ _ _ hp]; omega
      · rw [putP_ins, putP_del1, putP_del, putP_ins]
        exact (List.insertIdx_eraseIdx_of_le hq (by omega)).symm
  · refine ⟨.inr (.inr ⟨rfl, p, rfl, hp⟩), .inl ⟨rfl, rfl, rfl⟩, ?_⟩
    simp [shiftP, putP_nop]
  · -- a takes away, b puts in
    by_cases h : q ≤ p
    · have e1 : shiftP ⟨2, p, ca, la, sa⟩ ⟨1, q, cb, lb, sb⟩ true = ⟨2, (p : Int) + 1, ca, la, sa⟩ := by
        simp [shiftP, wrap_up (show p < 1000000000 by omega)]; omega
      have e2 : shiftP ⟨1, q, cb, lb, sb⟩ ⟨2, p, ca, la, sa⟩ false = ⟨1, q, cb, lb, sb⟩ := by
        simp [shiftP]; omega
      rw [e1, e2]
      refine ⟨.inr (.inr ⟨rfl, p + 1, rfl, ?_⟩), .inr (.inl ⟨rfl, q, rfl, ?_⟩), ?_⟩
      · rw [putP_ins, insert_len _ _ _ hq]; omega
      · rw [putP_del, erase_len _ _ hp]; omega
      · rw [putP_del, putP_ins, putP_ins, putP_del1]
        exact List.insertIdx_eraseIdx_of_le hp (by omega)
    · obtain ⟨r, rfl⟩ : ∃ r, q = r + 1 := ⟨q - 1, by omega⟩
      have e1 : shiftP ⟨2, p, ca, la, sa⟩ ⟨1, ((r + 1 : Nat) : Int), cb, lb, sb⟩ true = ⟨2, p, ca, la, sa⟩ := by
        simp [shiftP]; omega
      have e2 : shiftP ⟨1, ((r + 1 : Nat) : Int), cb, lb, sb⟩ ⟨2, p, ca, la, sa⟩ false = ⟨1, (r : Int), cb, lb, sb⟩ := by
        have := wrap_dn (show r + 1 < 1000000000 by omega)
        rw [show ((r + 1 : Nat) : Int) - 1 = (r : Int) from by omega] at this
        simp [shiftP]
        rw [if_pos (by omega), this]
      rw [e1, e2]
      refine ⟨.inr (.inr ⟨rfl, p, rfl, ?_⟩), .inr (.inl ⟨rfl, r, rfl, ?_⟩), ?_⟩
      · rw [putP_ins, insert_len _ _ _ hq]; omega
      · rw [putP_del, erase_len _ _ hp]; omega
      · rw [putP_del, putP_ins, putP_ins, putP_del]
        exact List.insertIdx_eraseIdx_of_ge hp (by omega)
  · -- two deletions
    by_cases h : p = q
    · subst h
      have e1 : shiftP ⟨2, p, ca, la, sa⟩ ⟨2, p, cb, lb, sb⟩ true = ⟨0, 0, 0, la, sa⟩ := by simp [shiftP]
      have e2 : shiftP ⟨2, p, cb, lb, sb⟩ ⟨2, p, ca, la, sa⟩ false = ⟨0, 0, 0, lb, sb⟩ := by simp [shiftP]
      rw [e1, e2]
      refine ⟨.inl ⟨rfl, rfl, rfl⟩, .inl ⟨rfl, rfl, rfl⟩, ?_⟩
      rw [putP_nop, putP_nop, putP_del, putP_del]
    · by_cases h2 : p < q
      · obtain ⟨r, rfl⟩ : ∃ r, q = r + 1 := ⟨q - 1, by omega⟩
        have e1 : shiftP ⟨2, p, ca, la, sa⟩ ⟨2, ((r + 1 : Nat) : Int), cb, lb, sb⟩ true = ⟨2, p, ca, la, sa⟩ := by
          unfold shiftP; rw [if_neg (by simp), if_neg (by simp; omega), if_neg (by simp; omega)]
        have e2 : shiftP ⟨2, ((r + 1 : Nat) : Int), cb, lb, sb⟩ ⟨2, p, ca, la, sa⟩ false = ⟨2, (r : Int), cb, lb, sb⟩ := by
          have := wrap_dn (show r + 1 < 1000000000 by omega)
          rw [show ((r + 1 : Nat) : Int) - 1 = (r : Int) from by omega] at this
          simp [shiftP]
          rw [if_neg (by omega), if_pos (by omega), this]
        rw [e1, e2]
        refine ⟨.inr (.inr ⟨rfl, p, rfl, ?_⟩), .inr (.inr ⟨rfl, r, rfl, ?_⟩), ?_⟩
        · rw [putP_del, erase_len _ _ hq]; omega
        · rw [putP_del, erase_len _ _ hp]; omega
        · rw [putP_del, putP_del, putP_del, putP_del]
          exact erase_comm d p (r + 1) h2
      · obtain ⟨r, rfl⟩ : ∃ r, p = r + 1 := ⟨p - 1, by omega⟩
        have e2 : shiftP ⟨2, q, cb, lb, sb⟩ ⟨2, ((r + 1 : Nat) : Int), ca, la, sa⟩ false = ⟨2, q, cb, lb, sb⟩ := by
          unfold shiftP; rw [if_neg (by simp), if_neg (by simp; omega), if_neg (by simp; omega)]
        have e1 : shiftP ⟨2, ((r + 1 : Nat) : Int), ca, la, sa⟩ ⟨2, q, cb, lb, sb⟩ true = ⟨2, (r : Int), ca, la, sa⟩ := by
          have := wrap_dn (show r + 1 < 1000000000 by omega)
          rw [show ((r + 1 : Nat) : Int) - 1 = (r : Int) from by omega] at this
          simp [shiftP]
          rw [if_neg (by omega), if_pos (by omega), this]
        rw [e1, e2]
        refine ⟨.inr (.inr ⟨rfl, r, rfl, ?_⟩), .inr (.inr ⟨rfl, q, rfl, ?_⟩), ?_⟩
        · rw [putP_del, erase_len _ _ hq]; omega
        · rw [putP_del, erase_len _ _ hp]; omega
        · rw [putP_del, putP_del, putP_del, putP_del]
          exact (erase_comm d q (r + 1) (by omega)).symm

theorem putP_len (d : List El) (o : OpE) (h : FitO d.length o) : (putP d o).length ≤ d.length + 1 := by
  obtain ⟨k, p, c, l, s⟩ := o
  unfold FitO at h
  simp only at h
  rcases h with ⟨rfl, rfl, rfl⟩ | ⟨rfl, p, rfl, hp⟩ | ⟨rfl, p, rfl, hp⟩
  · rw [putP_nop]; omega
  · rw [putP_ins, insert_len _ _ _ hp]; omega
  · rw [putP_del, erase_len _ _ hp]; omega

/-- A line fits a text. -/
def FitL : List El → List OpE → Prop
  | _, [] => True
  | d, o :: l => FitO d.length o ∧ FitL (putP d o) l

def runP : List El → List OpE → List El
  | d, [] => d
  | d, o :: l => runP (putP d o) l

theorem runP_len (l : List OpE) : ∀ d, FitL d l → (runP d l).length ≤ d.length + l.length := by
  induction l with
  | nil => intro d _; exact Nat.le_refl _
  | cons o l ih =>
    intro d h
    have := ih _ h.2
    have := putP_len d o h.1
    simp only [runP, List.length_cons]
    omega

/-- An operation carried past a line. -/
theorem through_sq (l : List OpE) : ∀ (d : List El) (op : OpE) (f : Bool), d.length + l.length + 1 < 1000000 → FitO d.length op → FitL d l →
    FitO (runP d l).length (throughP op l f).1 ∧ FitL (putP d op) (throughP op l f).2 ∧ runP (putP d op) (throughP op l f).2 = putP (runP d l) (throughP op l f).1 := by
  induction l with
  | nil => intro d op f _ h _; exact ⟨h, trivial, rfl⟩
  | cons x l ih =>
    intro d op f hn ho hl
    simp only [List.length_cons] at hn
    have hx := putP_len d x hl.1
    have hs : FitO (putP d x).length (shiftP op x (!f)) ∧ FitO (putP d op).length (shiftP x op f) ∧ putP (putP d op) (shiftP x op f) = putP (putP d x) (shiftP op x (!f)) := by
      cases f
      · have := square d op x (by omega) ho hl.1
        exact ⟨this.fa, this.fb, this.eq⟩
      · have := square d x op (by omega) hl.1 ho
        exact ⟨this.fb, this.fa, this.eq.symm⟩
    obtain ⟨h1, h2, h3⟩ := ih (putP d x) (shiftP op x (!f)) f (by omega) hs.1 hl.2
    simp only [throughP, runP, FitL]
    rw [← hs.2.2] at h2 h3
    exact ⟨h1, ⟨hs.2.1, h2⟩, h3⟩

/-- Two lines carried past one another. -/
theorem weave_sq (bs : List OpE) : ∀ (d : List El) (xs : List OpE), d.length + xs.length + bs.length + 1 < 1000000 → FitL d xs → FitL d bs →
    FitL (runP d bs) (weaveP xs bs).1 ∧ FitL (runP d xs) (weaveP xs bs).2 ∧ runP (runP d xs) (weaveP xs bs).2 = runP (runP d bs) (weaveP xs bs).1 := by
  induction bs with
  | nil => intro d xs _ ha _; exact ⟨ha, trivial, rfl⟩
  | cons b bs ih =>
    intro d xs hn ha hb
    simp only [List.length_cons] at hn
    obtain ⟨h1, h2, h3⟩ := through_sq xs d b true (by omega) hb.1 ha
    have hl := putP_len d b hb.1
    obtain ⟨g1, g2, g3⟩ := ih (putP d b) (throughP b xs true).2 (by rw [throughP_len]; omega) h2 hb.2
    simp only [weaveP, runP, FitL]
    rw [h3] at g2 g3
    exact ⟨g1, ⟨h1, g2⟩, g3⟩

end Go.Proofs.YtmbnimlibnheeabDoor
