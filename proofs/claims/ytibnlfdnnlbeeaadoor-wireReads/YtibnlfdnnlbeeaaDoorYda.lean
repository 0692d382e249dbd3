/-
  The answer of the document: DecodeItem, walked.
-/
import Derived.Test.YtibnlfdnnlbeeaaDoorYc
namespace Go.Proofs.YtibnlfdnnlbeeaaDoor
open Go.RowKit
set_option linter.unusedVariables false

theorem hold_allow {nm base len : Nat} (bs : List Int) (hK : KL nm base len) (i : Nat) (hi' : i < len) : holdsP (MV (valsTo nm bs (base + len))) (base + i) = allowsP nm (valsTo nm bs (base + i + 1)) (base + i) := by
  rcases hK with ⟨rfl, rfl, rfl⟩ | ⟨rfl, rfl, rfl⟩
  · obtain rfl : i = 0 := by omega
    simp [holdsP, allowsP, MV, valsTo, hasP, fromP, toP, lo, hi]
  · have : i = 0 ∨ i = 1 ∨ i = 2 ∨ i = 3 ∨ i = 4 ∨ i = 5 := by omega
    rcases this with rfl | rfl | rfl | rfl | rfl | rfl
    · simp [holdsP, allowsP, MV, valsTo, hasP, fromP, toP, lo, hi]
    · simp [holdsP, allowsP, MV, valsTo, hasP, fromP, toP, lo, hi]
    · by_cases h9 : fldV 16128 bs 9 = 0
      · simp [holdsP, allowsP, MV, valsTo, hasP, fromP, toP, lo, h9]
        rw [Bool.eq_iff_iff]; simp; omega
      · simp [holdsP, allowsP, MV, valsTo, hasP, fromP, toP, lo, hi, h9]
    · by_cases h9 : fldV 16128 bs 9 = 1
      · simp [holdsP, allowsP, MV, valsTo, hasP, fromP, toP, lo, hi, h9]
      · simp [holdsP, allowsP, MV, valsTo, hasP, fromP, toP, h9]
        rw [Bool.eq_iff_iff]; simp; omega
    · simp [holdsP, allowsP, MV, valsTo, hasP, fromP, toP, lo, hi]
    · simp [holdsP, allowsP, MV, valsTo, hasP, fromP, toP, lo, hi]

theorem good_of_held {nm base len : Nat} {bs : List Int} (hK : KL nm base len) (k : Nat) (hk : k ≤ len) (h : heldTo (MV (valsTo nm bs (base + len))) base k) : goodTo nm bs (base + k) := by
  intro f hf hp
  have h14 : base + len ≤ 14 := by rcases hK with ⟨-, rfl, rfl⟩ | ⟨-, rfl, rfl⟩ <;> omega
  obtain ⟨h1, h2⟩ := hK.only f (by omega) hp
  have := h (f - base) (by omega)
  rw [hold_allow bs hK (f - base) (by omega), show base + (f - base) = f by omega] at this
  exact this
theorem vals_full {nm base len : Nat} (bs : List Int) (hK : KL nm base len) : valsTo nm bs (base + len) = valsTo nm bs 14 := by
  rcases hK with ⟨rfl, rfl, rfl⟩ | ⟨rfl, rfl, rfl⟩
  · funext f
    unfold valsTo
    by_cases h0 : f = 0
    · simp [h0]
    · by_cases h1 : f < 2
      · simp [h0, h1, show f < 14 by omega]
      · by_cases h2 : f < 14
        · have : hasP 2 f = false := by
            have : f = 2 ∨ f = 3 ∨ f = 4 ∨ f = 5 ∨ f = 6 ∨ f = 7 ∨ f = 8 ∨ f = 9 ∨ f = 10 ∨ f = 11 ∨ f = 12 ∨ f = 13 := by omega
            rcases this with rfl | rfl | rfl | rfl | rfl | rfl | rfl | rfl | rfl | rfl | rfl | rfl <;> decide
          simp [h0, h1, h2, fldV, this]
        · simp [h0, h1, h2]
  · rfl
theorem good_full {nm base len : Nat} {bs : List Int} (hK : KL nm base len) (h : goodTo nm bs (base + len)) : goodTo nm bs 14 := by
  intro f hf hp
  exact h f (hK.only f hf hp).2 hp

/-- What DecodeItem of the document answers. -/
def RDecO (w : World) (bs : List Int) (e : Ending) (w' : World) : Prop := ∃ V code at', e = .returned (.tuple #[.agg #[.int .i64 (V 0), .int .i64 (V 1), .int .i64 (V 8), .int .i64 (V 9), .int .i64 (V 10), .int .u8 (V 11), .int .i64 (V 12), .int .i64 (V 13)], .int .i64 code, .int .i64 at']) ∧ RdC bs V code at' ∧ (0 ≤ V 11 ∧ V 11 ≤ 255) ∧ Below w.heap.size w w'

end Go.Proofs.YtibnlfdnnlbeeaaDoor
