/-
  Operations that fit.
-/
import Derived.Test.YtbgpmekjcepmaabVc
namespace Go.Proofs.Ytbgpmekjcepmaab
open Go.RowKit
set_option linter.unusedVariables false

theorem valid_ins {p c l s : Int} (h1 : 32 ≤ c) (h2 : c ≤ 126) (h3 : 1 ≤ l) (h4 : l ≤ 64) (h5 : 1 ≤ s) (h6 : s ≤ 64) (h7 : 0 ≤ p) (h8 : p ≤ 4095) : validP ⟨1, p, c, l, s⟩ = 0 := by
  rw [validP_eq, if_neg (by omega), if_neg (by omega), if_neg (by omega), if_neg (by omega), if_neg (by omega), if_neg (by omega)]
theorem valid_del {p l s : Int} (h3 : 1 ≤ l) (h4 : l ≤ 64) (h5 : 1 ≤ s) (h6 : s ≤ 64) (h7 : 0 ≤ p) (h8 : p ≤ 4095) : validP ⟨2, p, 0, l, s⟩ = 0 := by
  rw [validP_eq, if_neg (by omega), if_neg (by omega), if_neg (by omega), if_neg (by omega), if_neg (by omega), if_neg (by omega)]
theorem valid_nop {l s : Int} (h3 : 1 ≤ l) (h4 : l ≤ 64) (h5 : 1 ≤ s) (h6 : s ≤ 64) : validP ⟨0, 0, 0, l, s⟩ = 0 := by
  rw [validP_eq, if_neg (by omega), if_neg (by omega), if_neg (by omega), if_neg (by omega), if_neg (by omega), if_neg (by omega)]

theorem fitsP_eq (n k p c l s : Int) (h : validP ⟨k, p, c, l, s⟩ = 0) : fitsP n ⟨k, p, c, l, s⟩ = if n < 0 ∨ 4096 < n ∨ (k = 1 ∧ n = 4096) then 44 else if (k = 1 ∧ n < p) ∨ (k = 2 ∧ n ≤ p) then 43 else 0 := by
  unfold fitsP
  rw [if_neg (by omega)]
  simp only [inR_false]
  by_cases h1 : n < 0 ∨ 4096 < n ∨ (k = 1 ∧ n = 4096)
  · rw [if_pos h1, if_pos (by omega)]
  · rw [if_neg h1, if_neg (by omega)]

theorem fits_ins {n p : Nat} {c l s : Int} (h1 : 32 ≤ c) (h2 : c ≤ 126) (h3 : 1 ≤ l) (h4 : l ≤ 64) (h5 : 1 ≤ s) (h6 : s ≤ 64) (h7 : p ≤ n) (h8 : n < 4096) : fitsP n ⟨1, p, c, l, s⟩ = 0 := by
  rw [fitsP_eq _ _ _ _ _ _ (valid_ins h1 h2 h3 h4 h5 h6 (by omega) (by omega)), if_neg (by omega), if_neg (by omega)]
theorem fits_del {n p : Nat} {l s : Int} (h3 : 1 ≤ l) (h4 : l ≤ 64) (h5 : 1 ≤ s) (h6 : s ≤ 64) (h7 : p < n) (h8 : n ≤ 4096) : fitsP n ⟨2, p, 0, l, s⟩ = 0 := by
  rw [fitsP_eq _ _ _ _ _ _ (valid_del h3 h4 h5 h6 (by omega) (by omega)), if_neg (by omega), if_neg (by omega)]
theorem fits_nop {n : Nat} {l s : Int} (h3 : 1 ≤ l) (h4 : l ≤ 64) (h5 : 1 ≤ s) (h6 : s ≤ 64) (h8 : n ≤ 4096) : fitsP n ⟨0, 0, 0, l, s⟩ = 0 := by
  rw [fitsP_eq _ _ _ _ _ _ (valid_nop h3 h4 h5 h6), if_neg (by omega), if_neg (by omega)]

/-- 32 + ch % 95. -/
theorem char_range {ch : Int} (h0 : 0 ≤ ch) : 32 ≤ 32 + ch % 95 ∧ 32 + ch % 95 ≤ 126 := by
  have := Int.emod_nonneg ch (b := 95) (by omega)
  have := Int.emod_lt_of_pos ch (b := 95) (by omega)
  omega

end Go.Proofs.Ytbgpmekjcepmaab
