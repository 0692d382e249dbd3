/-
  The answer of the document: holds, put.
-/
import Derived.Test.YtibnlfdnnlbeeaaDoorXa
namespace Go.Proofs.YtibnlfdnnlbeeaaDoor
open Go.RowKit
set_option linter.unusedVariables false

set_option maxHeartbeats 4000000 in
theorem put_1 (M : Nat → Int) (v : Int) (w : World) (hv : 0 ≤ v ∧ v ≤ 65535) (hc : 1 = 11 → v ≤ 255) : Calls Tryd.prog 49 #[.agg #[.int .i64 (M 0), .int .i64 (M 1), .int .i64 (M 2), .int .i64 (M 3), .int .i64 (M 4), .int .i64 (M 5), .int .i64 (M 6), .int .i64 (M 7), .int .i64 (M 8), .int .i64 (M 9), .int .i64 (M 10), .int .u8 (M 11), .int .i64 (M 12), .int .i64 (M 13)], .int .i64 (1 : Nat), .int .i64 v] w fun e w' => e = .returned (.agg #[.int .i64 (M 0), .int .i64 v, .int .i64 (M 2), .int .i64 (M 3), .int .i64 (M 4), .int .i64 (M 5), .int .i64 (M 6), .int .i64 (M 7), .int .i64 (M 8), .int .i64 (M 9), .int .i64 (M 10), .int .u8 (M 11), .int .i64 (M 12), .int .i64 (M 13)]) ∧ Below w.heap.size w w' := by
  clear hc
  go_enter Tryd.func49, Tryd.ntmps49
  go_wp2
  refine bodyPost_ret (v := .agg #[.int .i64 (M 0), .int .i64 v, .int .i64 (M 2), .int .i64 (M 3), .int .i64 (M 4), .int .i64 (M 5), .int .i64 (M 6), .int .i64 (M 7), .int .i64 (M 8), .int .i64 (M 9), .int .i64 (M 10), .int .u8 (M 11), .int .i64 (M 12), .int .i64 (M 13)]) (by simp [results, Tryd.results49, go_sem]) rfl ?_
  exact ⟨rfl, ((Below.refl _ _).alloc (Nat.le_refl _) _).alloc (by simp) _⟩

set_option maxHeartbeats 4000000 in
theorem put_8 (M : Nat → Int) (v : Int) (w : World) (hv : 0 ≤ v ∧ v ≤ 65535) (hc : 8 = 11 → v ≤ 255) : Calls Tryd.prog 49 #[.agg #[.int .i64 (M 0), .int .i64 (M 1), .int .i64 (M 2), .int .i64 (M 3), .int .i64 (M 4), .int .i64 (M 5), .int .i64 (M 6), .int .i64 (M 7), .int .i64 (M 8), .int .i64 (M 9), .int .i64 (M 10), .int .u8 (M 11), .int .i64 (M 12), .int .i64 (M 13)], .int .i64 (8 : Nat), .int .i64 v] w fun e w' => e = .returned (.agg #[.int .i64 (M 0), .int .i64 (M 1), .int .i64 (M 2), .int .i64 (M 3), .int .i64 (M 4), .int .i64 (M 5), .int .i64 (M 6), .int .i64 (M 7), .int .i64 v, .int .i64 (M 9), .int .i64 (M 10), .int .u8 (M 11), .int .i64 (M 12), .int .i64 (M 13)]) ∧ Below w.heap.size w w' := by
  clear hc
  go_enter Tryd.func49, Tryd.ntmps49
  go_wp2
  refine bodyPost_ret (v := .agg #[.int .i64 (M 0), .int .i64 (M 1), .int .i64 (M 2), .int .i64 (M 3), .int .i64 (M 4), .int .i64 (M 5), .int .i64 (M 6), .int .i64 (M 7), .int .i64 v, .int .i64 (M 9), .int .i64 (M 10), .int .u8 (M 11), .int .i64 (M 12), .int .i64 (M 13)]) (by simp [results, Tryd.results49, go_sem]) rfl ?_
  exact ⟨rfl, ((Below.refl _ _).alloc (Nat.le_refl _) _).alloc (by simp) _⟩

set_option maxHeartbeats 4000000 in
theorem put_9 (M : Nat → Int) (v : Int) (w : World) (hv : 0 ≤ v ∧ v ≤ 65535) (hc : 9 = 11 → v ≤ 255) : Calls Tryd.prog 49 #[.agg #[.int .i64 (M 0), .int .i64 (M 1), .int .i64 (M 2), .int .i64 (M 3), .int .i64 (M 4), .int .i64 (M 5), .int .i64 (M 6), .int .i64 (M 7), .int .i64 (M 8), .int .i64 (M 9), .int .i64 (M 10), .int .u8 (M 11), .int .i64 (M 12), .int .i64 (M 13)], .int .i64 (9 : Nat), .int .i64 v] w fun e w' => e = .returned (.agg #[.int .i64 (M 0), .int .i64 (M 1), .int .i64 (M 2), .int .i64 (M 3), .int .i64 (M 4), .int .i64 (M 5), .int .i64 (M 6), .int .i64 (M 7), .int .i64 (M 8), .int .i64 v, .int .i64 (M 10), .int .u8 (M 11), .int .i64 (M 12), .int .i64 (M 13)]) ∧ Below w.heap.size w w' := by
  clear hc
  go_enter Tryd.func49, Tryd.ntmps49
  go_wp2
  refine bodyPost_ret (v := .agg #[.int .i64 (M 0), .int .i64 (M 1), .int .i64 (M 2), .int .i64 (M 3), .int .i64 (M 4), .int .i64 (M 5), .int .i64 (M 6), .int .i64 (M 7), .int .i64 (M 8), .int .i64 v, .int .i64 (M 10), .int .u8 (M 11), .int .i64 (M 12), .int .i64 (M 13)]) (by simp [results, Tryd.results49, go_sem]) rfl ?_
  exact ⟨rfl, ((Below.refl _ _).alloc (Nat.le_refl _) _).alloc (by simp) _⟩

set_option maxHeartbeats 4000000 in
theorem put_10 (M : Nat → Int) (v : Int) (w : World) (hv : 0 ≤ v ∧ v ≤ 65535) (hc : 10 = 11 → v ≤ 255) : Calls Tryd.prog 49 #[.agg #[.int .i64 (M 0), .int .i64 (M 1), .int .i64 (M 2), .int .i64 (M 3), .int .i64 (M 4), .int .i64 (M 5), .int .i64 (M 6), .int .i64 (M 7), .int .i64 (M 8), .int .i64 (M 9), .int .i64 (M 10), .int .u8 (M 11), .int .i64 (M 12), .int .i64 (M 13)], .int .i64 (10 : Nat), .int .i64 v] w fun e w' => e = .returned (.agg #[.int .i64 (M 0), .int .i64 (M 1), .int .i64 (M 2), .int .i64 (M 3), .int .i64 (M 4), .int .i64 (M 5), .int .i64 (M 6), .int .i64 (M 7), .int .i64 (M 8), .int .i64 (M 9), .int .i64 v, .int .u8 (M 11), .int .i64 (M 12), .int .i64 (M 13)]) ∧ Below w.heap.size w w' := by
  clear hc
  go_enter Tryd.func49, Tryd.ntmps49
  go_wp2
  refine bodyPost_ret (v := .agg #[.int .i64 (M 0), .int .i64 (M 1), .int .i64 (M 2), .int .i64 (M 3), .int .i64 (M 4), .int .i64 (M 5), .int .i64 (M 6), .int .i64 (M 7), .int .i64 (M 8), .int .i64 (M 9), .int .i64 v, .int .u8 (M 11), .int .i64 (M 12), .int .i64 (M 13)]) (by simp [results, Tryd.results49, go_sem]) rfl ?_
  exact ⟨rfl, ((Below.refl _ _).alloc (Nat.le_refl _) _).alloc (by simp) _⟩

set_option maxHeartbeats 4000000 in
theorem put_11 (M : Nat → Int) (v : Int) (w : World) (hv : 0 ≤ v ∧ v ≤ 65535) (hc : 11 = 11 → v ≤ 255) : Calls Tryd.prog 49 #[.agg #[.int .i64 (M 0), .int .i64 (M 1), .int .i64 (M 2), .int .i64 (M 3), .int .i64 (M 4), .int .i64 (M 5), .int .i64 (M 6), .int .i64 (M 7), .int .i64 (M 8), .int .i64 (M 9), .int .i64 (M 10), .int .u8 (M 11), .int .i64 (M 12), .int .i64 (M 13)], .int .i64 (11 : Nat), .int .i64 v] w fun e w' => e = .returned (.agg #[.int .i64 (M 0), .int .i64 (M 1), .int .i64 (M 2), .int .i64 (M 3), .int .i64 (M 4), .int .i64 (M 5), .int .i64 (M 6), .int .i64 (M 7), .int .i64 (M 8), .int .i64 (M 9), .int .i64 (M 10), .int .u8 v, .int .i64 (M 12), .int .i64 (M 13)]) ∧ Below w.heap.size w w' := by
  have hm : v % 256 = v := by have := hc rfl; omega
  clear hc
  go_enter Tryd.func49, Tryd.ntmps49
  go_wp2
  refine bodyPost_ret (v := .agg #[.int .i64 (M 0), .int .i64 (M 1), .int .i64 (M 2), .int .i64 (M 3), .int .i64 (M 4), .int .i64 (M 5), .int .i64 (M 6), .int .i64 (M 7), .int .i64 (M 8), .int .i64 (M 9), .int .i64 (M 10), .int .u8 v, .int .i64 (M 12), .int .i64 (M 13)]) (by simp [results, Tryd.results49, go_sem]) rfl ?_
  exact ⟨rfl, ((Below.refl _ _).alloc (Nat.le_refl _) _).alloc (by simp) _⟩

set_option maxHeartbeats 4000000 in
theorem put_12 (M : Nat → Int) (v : Int) (w : World) (hv : 0 ≤ v ∧ v ≤ 65535) (hc : 12 = 11 → v ≤ 255) : Calls Tryd.prog 49 #[.agg #[.int .i64 (M 0), .int .i64 (M 1), .int .i64 (M 2), .int .i64 (M 3), .int .i64 (M 4), .int .i64 (M 5), .int .i64 (M 6), .int .i64 (M 7), .int .i64 (M 8), .int .i64 (M 9), .int .i64 (M 10), .int .u8 (M 11), .int .i64 (M 12), .int .i64 (M 13)], .int .i64 (12 : Nat), .int .i64 v] w fun e w' => e = .returned (.agg #[.int .i64 (M 0), .int .i64 (M 1), .int .i64 (M 2), .int .i64 (M 3), .int .i64 (M 4), .int .i64 (M 5), .int .i64 (M 6), .int .i64 (M 7), .int .i64 (M 8), .int .i64 (M 9), .int .i64 (M 10), .int .u8 (M 11), .int .i64 v, .int .i64 (M 13)]) ∧ Below w.heap.size w w' := by
  clear hc
  go_enter Tryd.func49, Tryd.ntmps49
  go_wp2
  refine bodyPost_ret (v := .agg #[.int .i64 (M 0), .int .i64 (M 1), .int .i64 (M 2), .int .i64 (M 3), .int .i64 (M 4), .int .i64 (M 5), .int .i64 (M 6), .int .i64 (M 7), .int .i64 (M 8), .int .i64 (M 9), .int .i64 (M 10), .int .u8 (M 11), .int .i64 v, .int .i64 (M 13)]) (by simp [results, Tryd.results49, go_sem]) rfl ?_
  exact ⟨rfl, ((Below.refl _ _).alloc (Nat.le_refl _) _).alloc (by simp) _⟩

set_option maxHeartbeats 4000000 in
theorem put_13 (M : Nat → Int) (v : Int) (w : World) (hv : 0 ≤ v ∧ v ≤ 65535) (hc : 13 = 11 → v ≤ 255) : Calls Tryd.prog 49 #[.agg #[.int .i64 (M 0), .int .i64 (M 1), .int .i64 (M 2), .int .i64 (M 3), .int .i64 (M 4), .int .i64 (M 5), .int .i64 (M 6), .int .i64 (M 7), .int .i64 (M 8), .int .i64 (M 9), .int .i64 (M 10), .int .u8 (M 11), .int .i64 (M 12), .int .i64 (M 13)], .int .i64 (13 : Nat), .int .i64 v] w fun e w' => e = .returned (.agg #[.int .i64 (M 0), .int .i64 (M 1), .int .i64 (M 2), .int .i64 (M 3), .int .i64 (M 4), .int .i64 (M 5), .int .i64 (M 6), .int .i64 (M 7), .int .i64 (M 8), .int .i64 (M 9), .int .i64 (M 10), .int .u8 (M 11), .int .i64 (M 12), .int .i64 v]) ∧ Below w.heap.size w w' := by
  clear hc
  go_enter Tryd.func49, Tryd.ntmps49
  go_wp2
  refine bodyPost_ret (v := .agg #[.int .i64 (M 0), .int .i64 (M 1), .int .i64 (M 2), .int .i64 (M 3), .int .i64 (M 4), .int .i64 (M 5), .int .i64 (M 6), .int .i64 (M 7), .int .i64 (M 8), .int .i64 (M 9), .int .i64 (M 10), .int .u8 (M 11), .int .i64 (M 12), .int .i64 v]) (by simp [results, Tryd.results49, go_sem]) rfl ?_
  exact ⟨rfl, ((Below.refl _ _).alloc (Nat.le_refl _) _).alloc (by simp) _⟩

def upd (M : Nat → Int) (f : Nat) (v : Int) : Nat → Int := fun i => if i = f then v else M i

end Go.Proofs.YtibnlfdnnlbeeaaDoor
