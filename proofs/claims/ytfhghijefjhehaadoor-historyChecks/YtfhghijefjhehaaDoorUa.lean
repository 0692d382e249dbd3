/-
  Operations carried past one another, without memory.
-/
import Derived.Test.YtfhghijefjhehaaDoorRows
import Derived.WalkKit
import Derived.WalkSpells
import Derived.WalkLawsBesides
namespace Go.Proofs.YtfhghijefjhehaaDoor
open Go.RowKit
set_option linter.unusedVariables false

theorem hd {p : Prop} (h : p) : Hid p := h

structure OpE where
  kind : Int
  pos : Int
  ch : Int
  cl : Int
  sq : Int

def OpE.val (o : OpE) : Value := .agg #[.int .i64 o.kind, .int .i64 o.pos, .int .u8 o.ch, .int .i64 o.cl, .int .i64 o.sq]

/-- a xs it is behind b. -/
def shiftP (a b : OpE) (f : Bool) : OpE :=
  if ¬ ((a.kind = 1 ∨ a.kind = 2) ∧ (b.kind = 1 ∨ b.kind = 2)) then a
  else if a.kind = 2 ∧ b.kind = 2 ∧ a.pos = b.pos then ⟨0, 0, 0, a.cl, a.sq⟩
  else if b.pos < a.pos ∨ (b.pos = a.pos ∧ b.kind = 1 ∧ (a.kind = 2 ∨ f = false)) then ⟨a.kind, wrap64 (if b.kind = 1 then a.pos + 1 else a.pos - 1), a.ch, a.cl, a.sq⟩
  else a

def throughP : OpE → List OpE → Bool → OpE × List OpE
  | op, [], _ => (op, [])
  | op, x :: l, f => ((throughP (shiftP op x (!f)) l f).1, shiftP x op f :: (throughP (shiftP op x (!f)) l f).2)

def weaveP : List OpE → List OpE → List OpE × List OpE
  | xs, [] => (xs, [])
  | xs, b :: bs => ((weaveP (throughP b xs true).2 bs).1, (throughP b xs true).1 :: (weaveP (throughP b xs true).2 bs).2)

theorem throughP_len (l : List OpE) : ∀ (op : OpE) (f : Bool), (throughP op l f).2.length = l.length := by
  induction l with
  | nil => intro op f; rfl
  | cons x l ih => intro op f; simp [throughP, ih]

theorem weaveP_len (bs : List OpE) : ∀ xs, (weaveP xs bs).1.length = xs.length ∧ (weaveP xs bs).2.length = bs.length := by
  induction bs with
  | nil => intro xs; exact ⟨rfl, rfl⟩
  | cons b bs ih =>
    intro xs
    have := ih (throughP b xs true).2
    simp only [weaveP, List.length_cons]
    rw [this.1, this.2, throughP_len]
    exact ⟨rfl, rfl⟩

/-- The other way about: the first of xs through all of bs. -/
theorem weaveP_cons (bs : List OpE) : ∀ a xs, weaveP (a :: xs) bs = ((throughP a bs false).1 :: (weaveP xs (throughP a bs false).2).1, (weaveP xs (throughP a bs false).2).2) := by
  induction bs with
  | nil => intro a xs; simp [weaveP, throughP]
  | cons b bs ih =>
    intro a xs
    simp only [weaveP, throughP, Bool.not_true, Bool.not_false]
    rw [ih]

theorem weaveP_nil (bs : List OpE) : weaveP [] bs = ([], bs) := by
  induction bs with
  | nil => rfl
  | cons b bs ih => simp only [weaveP, throughP, ih]

theorem throughP_app (l : List OpE) : ∀ (op : OpE) (m : List OpE) (f : Bool), throughP op (l ++ m) f = ((throughP (throughP op l f).1 m f).1, (throughP op l f).2 ++ (throughP (throughP op l f).1 m f).2) := by
  induction l with
  | nil => intro op m f; rfl
  | cons x l ih => intro op m f; simp only [List.cons_append, throughP, ih]

theorem weaveP_app (b1 : List OpE) : ∀ (xs b2 : List OpE), weaveP xs (b1 ++ b2) = ((weaveP (weaveP xs b1).1 b2).1, (weaveP xs b1).2 ++ (weaveP (weaveP xs b1).1 b2).2) := by
  induction b1 with
  | nil => intro xs b2; rfl
  | cons b bs ih => intro xs b2; simp only [List.cons_append, weaveP, ih]

theorem weaveP_app2 (a1 : List OpE) : ∀ (a2 bs : List OpE), weaveP (a1 ++ a2) bs = ((weaveP a1 bs).1 ++ (weaveP a2 (weaveP a1 bs).2).1, (weaveP a2 (weaveP a1 bs).2).2) := by
  induction a1 with
  | nil => intro a2 bs; simp [weaveP_nil]
  | cons a xs ih =>
    intro a2 bs
    simp only [List.cons_append, weaveP_cons, ih]

/-- A piece of a list taken, and one more. -/
theorem throughP_snoc (l : List OpE) (op x : OpE) (f : Bool) : throughP op (l ++ [x]) f = (shiftP (throughP op l f).1 x (!f), (throughP op l f).2 ++ [shiftP x (throughP op l f).1 f]) := by
  rw [throughP_app]
  rfl

theorem weaveP_snoc (bs : List OpE) (xs : List OpE) (b : OpE) : weaveP xs (bs ++ [b]) = ((throughP b (weaveP xs bs).1 true).2, (weaveP xs bs).2 ++ [(throughP b (weaveP xs bs).1 true).1]) := by
  rw [weaveP_app]
  rfl

theorem weaveP_snoc2 (xs : List OpE) (bs : List OpE) (a : OpE) : weaveP (xs ++ [a]) bs = ((weaveP xs bs).1 ++ [(throughP a (weaveP xs bs).2 false).1], (throughP a (weaveP xs bs).2 false).2) := by
  rw [weaveP_app2, weaveP_cons, weaveP_nil]

/-- Characters stay bytes. -/
def OkOp (o : OpE) : Prop := 0 ≤ o.ch ∧ o.ch ≤ 255

theorem shiftP_ok {a b : OpE} {f : Bool} (h : OkOp a) : OkOp (shiftP a b f) := by
  unfold shiftP
  repeat' split
  · exact h
  · exact ⟨Int.le_refl _, by simp⟩
  all_goals exact h

end Go.Proofs.YtfhghijefjhehaaDoor
