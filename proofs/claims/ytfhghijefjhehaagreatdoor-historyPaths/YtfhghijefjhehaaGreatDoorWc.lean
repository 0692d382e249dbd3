/-
  Shift, of the document; Cross, both.
-/
import Derived.Test.YtfhghijefjhehaaGreatDoorWb
namespace Go.Proofs.YtfhghijefjhehaaGreatDoor
open Go.RowKit
set_option linter.unusedVariables false

set_option maxHeartbeats 4000000 in
theorem acts_no (k p c q s : Int) (w : World) (hk : rowP k = 0) : Calls Tryz.prog 134 #[.agg #[.int .i64 k, .int .i64 p, .int .u8 c, .int .i64 q, .int .i64 s]] w fun e w' =>
    e = .returned (.bool false) ∧ Below w.heap.size w w' := by
  have := rowP_zero hk
  have b1 : (k == 1) = false := by simp; omega
  have b2 : (k == 2) = false := by simp; omega
  clear this hk
  go_enter Tryz.func134, Tryz.ntmps134
  go_wp2
  go_ret
  exact ⟨rfl, (Below.refl _ _).alloc (Nat.le_refl _) _⟩

theorem acts_1 (p c q s : Int) (w : World) : Calls Tryz.prog 134 #[.agg #[.int .i64 1, .int .i64 p, .int .u8 c, .int .i64 q, .int .i64 s]] w fun e w' =>
    e = .returned (.bool true) ∧ Below w.heap.size w w' := by
  go_enter Tryz.func134, Tryz.ntmps134
  go_wp2
  go_ret
  exact ⟨rfl, (Below.refl _ _).alloc (Nat.le_refl _) _⟩
theorem acts_2 (p c q s : Int) (w : World) : Calls Tryz.prog 134 #[.agg #[.int .i64 2, .int .i64 p, .int .u8 c, .int .i64 q, .int .i64 s]] w fun e w' =>
    e = .returned (.bool true) ∧ Below w.heap.size w w' := by
  go_enter Tryz.func134, Tryz.ntmps134
  go_wp2
  go_ret
  exact ⟨rfl, (Below.refl _ _).alloc (Nat.le_refl _) _⟩

def aheadP (k' p' k p : Int) (f : Bool) : Bool := if p' = p then (if k' = 1 ∧ k = 1 then !f else decide (k' = 1 ∧ k = 2)) else decide (p' < p)

set_option maxHeartbeats 4000000 in
theorem ahead_any (k' p' c' q' s' k p c q s : Int) (f : Bool) (w : World) (hk : k = 1 ∨ k = 2) (hk' : k' = 1 ∨ k' = 2) : Calls Tryz.prog 135 #[.agg #[.int .i64 k', .int .i64 p', .int .u8 c', .int .i64 q', .int .i64 s'], .agg #[.int .i64 k, .int .i64 p, .int .u8 c, .int .i64 q, .int .i64 s], .bool f] w fun e w' =>
    e = .returned (.bool (aheadP k' p' k p f)) ∧ Below w.heap.size w w' := by
  by_cases he : p' = p
  · subst he
    rcases hk with rfl | rfl <;> rcases hk' with rfl | rfl <;>
    · simp only [aheadP, if_true]
      go_enter Tryz.func135, Tryz.ntmps135
      go_wp2
      go_ret
      exact ⟨rfl, ((Below.refl _ _).alloc (Nat.le_refl _) _).alloc (by simp) _⟩
  · have he' : (p' != p) = true := by simpa using he
    have H : aheadP k' p' k p f = decide (p' < p) := by simp [aheadP, he]
    rw [H]
    clear he hk hk' H
    go_enter Tryz.func135, Tryz.ntmps135
    go_wp2
    go_ret
    exact ⟨rfl, ((Below.refl _ _).alloc (Nat.le_refl _) _).alloc (by simp) _⟩

end Go.Proofs.YtfhghijefjhehaaGreatDoor
