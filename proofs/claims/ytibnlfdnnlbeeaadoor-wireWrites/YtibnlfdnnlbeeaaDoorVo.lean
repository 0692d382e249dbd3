/-
  wire: OnesCount16 at the four numbers that are asked.
-/
import Derived.Test.YtibnlfdnnlbeeaaDoorVa
namespace Go.Proofs.YtibnlfdnnlbeeaaDoor
open Go.RowKit
set_option linter.unusedVariables false

set_option maxRecDepth 100000 in
set_option maxHeartbeats 2000000 in
theorem ones_16128 (w : World) : Calls Tryd.prog 58 #[.int .u16 16128] w fun e w' => e = .returned (.int .i64 6) ∧ ∃ m, w' = w.drewN m := by
  have hb : bits .and .u16 16128 255 = 0 := by decide
  go_enter Tryd.func58, Tryd.ntmps58
  go_wp2
  go_quiet (fail)
  go_wp2
  go_ret
  exact ⟨rfl, _, rfl⟩

set_option maxRecDepth 100000 in
set_option maxHeartbeats 2000000 in
theorem ones_1280 (w : World) : Calls Tryd.prog 58 #[.int .u16 1280] w fun e w' => e = .returned (.int .i64 2) ∧ ∃ m, w' = w.drewN m := by
  have hb : bits .and .u16 1280 255 = 0 := by decide
  go_enter Tryd.func58, Tryd.ntmps58
  go_wp2
  go_quiet (fail)
  go_wp2
  go_ret
  exact ⟨rfl, _, rfl⟩

set_option maxRecDepth 100000 in
set_option maxHeartbeats 2000000 in
theorem ones_2 (w : World) : Calls Tryd.prog 58 #[.int .u16 2] w fun e w' => e = .returned (.int .i64 1) ∧ ∃ m, w' = w.drewN m := by
  have hb : bits .and .u16 2 255 = 2 := by decide
  go_enter Tryd.func58, Tryd.ntmps58
  go_wp2
  go_quiet (fail)
  go_wp2
  go_ret
  exact ⟨rfl, _, rfl⟩

set_option maxRecDepth 100000 in
set_option maxHeartbeats 2000000 in
theorem ones_0 (w : World) : Calls Tryd.prog 58 #[.int .u16 0] w fun e w' => e = .returned (.int .i64 0) ∧ ∃ m, w' = w.drewN m := by
  have hb : bits .and .u16 0 255 = 0 := by decide
  go_enter Tryd.func58, Tryd.ntmps58
  go_wp2
  go_quiet (fail)
  go_wp2
  go_ret
  exact ⟨rfl, _, rfl⟩

set_option maxHeartbeats 2000000 in
theorem size_edit (w : World) : Calls Tryd.prog 42 #[.agg #[.int .u16 16128, .bool false]] w fun e w' => e = .returned (.int .i64 9) ∧ Below w.heap.size w w' := by
  have hb : bits .and .u16 16128 1512 = 1280 := by decide
  have bz : Below w.heap.size w (w.alloc (.cells #[.int .u16 16128, .bool false] 79)) := (Below.refl _ _).alloc (Nat.le_refl _) _
  have c0 : (w.alloc (.cells #[.int .u16 16128, .bool false] 79)).cell? ⟨w.heap.size, 0, none⟩ = some (.int .u16 16128) := by simp
  have BZ := hd bz
  clear bz
  go_enter Tryd.func42, Tryd.ntmps42
  go_wp2_with fail
  generalize w.alloc (.cells #[.int .u16 16128, .bool false] 79) = w0 at *
  go_quiet (first | (go_at_call_of 58 (Value.int IntKind.u16 16128); exact Calls.quiet_of (ones_16128 _)) | (go_at_call_of 58 (Value.int IntKind.u16 1280); exact Calls.quiet_of (ones_1280 _)))
  go_wp2
  go_ret
  exact ⟨rfl, below_drewN BZ.out _⟩

set_option maxHeartbeats 2000000 in
theorem size_boot (w : World) : Calls Tryd.prog 42 #[.agg #[.int .u16 2, .bool false]] w fun e w' => e = .returned (.int .i64 2) ∧ Below w.heap.size w w' := by
  have hb : bits .and .u16 2 1512 = 0 := by decide
  have bz : Below w.heap.size w (w.alloc (.cells #[.int .u16 2, .bool false] 79)) := (Below.refl _ _).alloc (Nat.le_refl _) _
  have c0 : (w.alloc (.cells #[.int .u16 2, .bool false] 79)).cell? ⟨w.heap.size, 0, none⟩ = some (.int .u16 2) := by simp
  have BZ := hd bz
  clear bz
  go_enter Tryd.func42, Tryd.ntmps42
  go_wp2_with fail
  generalize w.alloc (.cells #[.int .u16 2, .bool false] 79) = w0 at *
  go_quiet (first | (go_at_call_of 58 (Value.int IntKind.u16 2); exact Calls.quiet_of (ones_2 _)) | (go_at_call_of 58 (Value.int IntKind.u16 0); exact Calls.quiet_of (ones_0 _)))
  go_wp2
  go_ret
  exact ⟨rfl, below_drewN BZ.out _⟩

end Go.Proofs.YtibnlfdnnlbeeaaDoor
