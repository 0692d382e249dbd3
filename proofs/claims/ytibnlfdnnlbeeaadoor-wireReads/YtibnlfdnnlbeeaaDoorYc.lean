/-
  The answer of the document: DecodeItem.
-/
import Derived.Test.YtibnlfdnnlbeeaaDoorXf
import Derived.Test.YtibnlfdnnlbeeaaDoorVh
import Derived.Deep.RegionHeld3
namespace Go.Proofs.YtibnlfdnnlbeeaaDoor
open Go.RowKit
set_option linter.unusedVariables false

/-- What the document answers of these bytes. -/
def RdC (bs : List Int) (V : Nat → Int) (code at' : Int) : Prop :=
  (V = (fun _ => 0) ∧ bs = [] ∧ code = 62 ∧ at' = 0) ∨
  (V = (fun _ => 0) ∧ bs ≠ [] ∧ nmP (bs.getD 0 0) = 0 ∧ code = 61 ∧ at' = 0) ∨
  (V = (fun _ => 0) ∧ bs ≠ [] ∧ nmP (bs.getD 0 0) ≠ 0 ∧ bs.length ≠ sizeP (nmP (bs.getD 0 0)) ∧ code = 62 ∧ at' = bs.length) ∨
  (V = (fun _ => 0) ∧ bs ≠ [] ∧ nmP (bs.getD 0 0) ≠ 0 ∧ bs.length = sizeP (nmP (bs.getD 0 0)) ∧ (∃ k, k < 14 ∧ goodTo (nmP (bs.getD 0 0)) bs k ∧ hasP (nmP (bs.getD 0 0)) k = true ∧ allowsP (nmP (bs.getD 0 0)) (valsTo (nmP (bs.getD 0 0)) bs (k + 1)) k = false ∧ code = 63 ∧ at' = posAt (nmP (bs.getD 0 0)) k)) ∨
  (V = valsTo (nmP (bs.getD 0 0)) bs 14 ∧ bs ≠ [] ∧ nmP (bs.getD 0 0) ≠ 0 ∧ bs.length = sizeP (nmP (bs.getD 0 0)) ∧ goodTo (nmP (bs.getD 0 0)) bs 14 ∧ code = 0 ∧ at' = -1)

/-- The two answers are one. -/
theorem one_answer {w : World} {bs : List Int} {V V' : Nat → Int} {v : Value} {code at' : Int} (h : RdR w bs V v) (h' : RdC bs V' code at') : V = V' ∧ ((v = .nilIface ∧ code = 0 ∧ at' = -1) ∨ IsF w v at' code) := by
  rcases h with ⟨rfl, h2, h3⟩ | ⟨rfl, h2, h3, h4⟩ | ⟨rfl, h2, h3, h4, h5⟩ | ⟨rfl, h2, h3, h4, k, q1, q2, q3, q4, q5⟩ | ⟨rfl, h1, h2, h3, h4, h5⟩ <;>
    rcases h' with ⟨rfl, g2, rfl, rfl⟩ | ⟨rfl, g2, g3, rfl, rfl⟩ | ⟨rfl, g2, g3, g4, rfl, rfl⟩ | ⟨rfl, g2, g3, g4, k', p1, p2, p3, p4, rfl, rfl⟩ | ⟨rfl, g2, g3, g4, g5, rfl, rfl⟩ <;>
    first
    | exact absurd h2 g2
    | exact absurd g2 h2
    | exact absurd h3 g3
    | exact absurd g3 h3
    | exact absurd h4 g4
    | exact absurd g4 h4
    | exact ⟨rfl, .inr h3⟩
    | exact ⟨rfl, .inr h4⟩
    | exact ⟨rfl, .inr h5⟩
    | exact ⟨rfl, .inl ⟨h1, rfl, rfl⟩⟩
    | (exact absurd (h5 k' p1 p3) (by rw [p4]; decide))
    | (exact absurd (g5 k q1 q3) (by rw [q4]; decide))
    | skip
  all_goals
    rcases Nat.lt_trichotomy k k' with hk | rfl | hk
    · exact absurd (p2 k hk q3) (by rw [q4]; decide)
    · exact ⟨rfl, .inr q5⟩
    · exact absurd (q2 k' hk p3) (by rw [p4]; decide)

end Go.Proofs.YtibnlfdnnlbeeaaDoor
