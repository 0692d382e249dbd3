/-
  Shift, of the program.
-/
import Derived.Test.YtilidolbplglcaaGreatDoorMMb
namespace Go.Proofs.YtilidolbplglcaaGreatDoor
open Go.RowKit
set_option linter.unusedVariables false

theorem tb3 (w : World) (o1 o2 o3 : Obj) (h0 : 1 < w.heap.size) {i : Nat} {v : Value} (h : w.cell? ⟨1, i, none⟩ = some v) : (((w.alloc o1).alloc o2).alloc o3).cell? ⟨1, i, none⟩ = some v :=
  ((((Below.refl _ _).alloc (Nat.le_refl _) o1).alloc (by simp) o2).alloc (by simp; omega) o3 : Below w.heap.size w _).cell (p := ⟨1, i, none⟩) h0 |>.trans h

theorem row_is (k r : Int) (w : World) (h : (rowP k : Int) = r) : Calls Tryz.prog 85 #[.int .i64 k] w fun e w' => e = .returned (.int .i64 r) ∧ w' = w := by
  rw [← h]
  exact (row_any k w).mono fun _ _ h => ⟨h.1, h.2.symm⟩

theorem res_below (w : World) (o1 o2 o3 : Obj) (m : Nat) : Below w.heap.size w ((((w.alloc o1).alloc o2).alloc o3).drewN m) :=
  below_drewN ((((Below.refl _ _).alloc (Nat.le_refl _) _).alloc (by simp) _).alloc (by simp; omega) _) m

theorem res_cell {w w1 : World} {o1 o2 : Obj} {cs : Array Value} {t : TypeId} {m : Nat} (b : Below (((w.alloc o1).alloc o2).alloc (.cells cs t (0, 0))).heap.size ((((w.alloc o1).alloc o2).alloc (.cells cs t (0, 0))).drewN m) w1) :
    (∀ i, w1.cell? ⟨w.heap.size + 1 + 1, i, none⟩ = cs[i]?) ∧ (∀ i, w1.frozen? ⟨w.heap.size + 1 + 1, i, none⟩ = false) ∧ Below w.heap.size w w1 := by
  have h : w1.heap[w.heap.size + 1 + 1]? = some (.cells cs t (0, 0)) := by
    rw [b.block (w.heap.size + 1 + 1) (by simp)]
    have := heap_alloc_new ((w.alloc o1).alloc o2) (.cells cs t (0, 0))
    simpa using this
  refine ⟨fun i => ?_, fun i => ?_, ?_⟩
  · simp [World.cell?, h]
  · simp [World.frozen?, h]
  · have b0 : Below w.heap.size w (((w.alloc o1).alloc o2).alloc (.cells cs t (0, 0))) := (((Below.refl _ _).alloc (Nat.le_refl _) _).alloc (by simp) _).alloc (by simp; omega) _
    exact (below_drewN b0 m).trans (b.mono (by simp; omega))

set_option maxHeartbeats 4000000 in
theorem sh_nn (k k' p c q s p' c' q' s' : Int) (f : Bool) (w : World) (hT : Table w) (hk : rowP k = 0) (hk' : rowP k' = 0) : Calls Tryz.prog 84 #[.agg #[.int .i64 k, .int .i64 p, .int .u8 c, .int .i64 q, .int .i64 s], .agg #[.int .i64 k', .int .i64 p', .int .u8 c', .int .i64 q', .int .i64 s'], .bool f] w fun e w' =>
    e = .returned (.agg #[.int .i64 k, .int .i64 p, .int .u8 c, .int .i64 q, .int .i64 s]) ∧ Below w.heap.size w w' := by
  have HK := hd hk
  clear hk
  have HK' := hd hk'
  clear hk'
  obtain ⟨h0, t0, t1, t2, t3, t4, t5, t6, t7, t8⟩ := hT
  have n1 : ¬ (1 = w.heap.size) := by omega
  have n2 : ¬ (1 = w.heap.size + 1) := by omega
  have n3 : ¬ (1 = w.heap.size + 1 + 1) := by omega
  have T0 := tb3 w (.cells #[.int .i64 k, .int .i64 p, .int .u8 c, .int .i64 q, .int .i64 s] 46) (.cells #[.int .i64 k', .int .i64 p', .int .u8 c', .int .i64 q', .int .i64 s'] 46) (.cells #[.int .i64 0, .int .i64 0, .int .u8 0, .int .i64 0, .int .i64 0] 46) h0 t0
  have T1 := tb3 w (.cells #[.int .i64 k, .int .i64 p, .int .u8 c, .int .i64 q, .int .i64 s] 46) (.cells #[.int .i64 k', .int .i64 p', .int .u8 c', .int .i64 q', .int .i64 s'] 46) (.cells #[.int .i64 0, .int .i64 0, .int .u8 0, .int .i64 0, .int .i64 0] 46) h0 t1
  have T2 := tb3 w (.cells #[.int .i64 k, .int .i64 p, .int .u8 c, .int .i64 q, .int .i64 s] 46) (.cells #[.int .i64 k', .int .i64 p', .int .u8 c', .int .i64 q', .int .i64 s'] 46) (.cells #[.int .i64 0, .int .i64 0, .int .u8 0, .int .i64 0, .int .i64 0] 46) h0 t2
  have T3 := tb3 w (.cells #[.int .i64 k, .int .i64 p, .int .u8 c, .int .i64 q, .int .i64 s] 46) (.cells #[.int .i64 k', .int .i64 p', .int .u8 c', .int .i64 q', .int .i64 s'] 46) (.cells #[.int .i64 0, .int .i64 0, .int .u8 0, .int .i64 0, .int .i64 0] 46) h0 t3
  have T4 := tb3 w (.cells #[.int .i64 k, .int .i64 p, .int .u8 c, .int .i64 q, .int .i64 s] 46) (.cells #[.int .i64 k', .int .i64 p', .int .u8 c', .int .i64 q', .int .i64 s'] 46) (.cells #[.int .i64 0, .int .i64 0, .int .u8 0, .int .i64 0, .int .i64 0] 46) h0 t4
  have T5 := tb3 w (.cells #[.int .i64 k, .int .i64 p, .int .u8 c, .int .i64 q, .int .i64 s] 46) (.cells #[.int .i64 k', .int .i64 p', .int .u8 c', .int .i64 q', .int .i64 s'] 46) (.cells #[.int .i64 0, .int .i64 0, .int .u8 0, .int .i64 0, .int .i64 0] 46) h0 t5
  have T6 := tb3 w (.cells #[.int .i64 k, .int .i64 p, .int .u8 c, .int .i64 q, .int .i64 s] 46) (.cells #[.int .i64 k', .int .i64 p', .int .u8 c', .int .i64 q', .int .i64 s'] 46) (.cells #[.int .i64 0, .int .i64 0, .int .u8 0, .int .i64 0, .int .i64 0] 46) h0 t6
  have T7 := tb3 w (.cells #[.int .i64 k, .int .i64 p, .int .u8 c, .int .i64 q, .int .i64 s] 46) (.cells #[.int .i64 k', .int .i64 p', .int .u8 c', .int .i64 q', .int .i64 s'] 46) (.cells #[.int .i64 0, .int .i64 0, .int .u8 0, .int .i64 0, .int .i64 0] 46) h0 t7
  have T8 := tb3 w (.cells #[.int .i64 k, .int .i64 p, .int .u8 c, .int .i64 q, .int .i64 s] 46) (.cells #[.int .i64 k', .int .i64 p', .int .u8 c', .int .i64 q', .int .i64 s'] 46) (.cells #[.int .i64 0, .int .i64 0, .int .u8 0, .int .i64 0, .int .i64 0] 46) h0 t8
  go_enter Tryz.func84, Tryz.ntmps84
  go_wp2_with fail
  go_quiet (first | (go_at_call_of 85 (Value.int .i64 k); exact Calls.quiet_of_same (row_is k 0 _ (by rw [HK.out]; rfl))) | (go_at_call_of 85 (Value.int .i64 k'); exact Calls.quiet_of_same (row_is k' 0 _ (by rw [HK'.out]; rfl))))
  go_wp2
  refine bodyPost_ret (v := .agg #[.int .i64 k, .int .i64 p, .int .u8 c, .int .i64 q, .int .i64 s]) (by simp [results, Tryz.results84, go_sem]) rfl ?_
  exact ⟨rfl, ((((res_below w _ _ _ _).setCell (by simp; omega) _).setCell (by simp; omega) _).setCell (by simp; omega) _).setCell (by simp; omega) _ |>.setCell (by simp; omega) _⟩

set_option maxHeartbeats 4000000 in
theorem sh_n1 (k p c q s p' c' q' s' : Int) (f : Bool) (w : World) (hT : Table w) (hk : rowP k = 0) : Calls Tryz.prog 84 #[.agg #[.int .i64 k, .int .i64 p, .int .u8 c, .int .i64 q, .int .i64 s], .agg #[.int .i64 1, .int .i64 p', .int .u8 c', .int .i64 q', .int .i64 s'], .bool f] w fun e w' =>
    e = .returned (.agg #[.int .i64 k, .int .i64 p, .int .u8 c, .int .i64 q, .int .i64 s]) ∧ Below w.heap.size w w' := by
  have HK := hd hk
  clear hk
  obtain ⟨h0, t0, t1, t2, t3, t4, t5, t6, t7, t8⟩ := hT
  have n1 : ¬ (1 = w.heap.size) := by omega
  have n2 : ¬ (1 = w.heap.size + 1) := by omega
  have n3 : ¬ (1 = w.heap.size + 1 + 1) := by omega
  have T0 := tb3 w (.cells #[.int .i64 k, .int .i64 p, .int .u8 c, .int .i64 q, .int .i64 s] 46) (.cells #[.int .i64 1, .int .i64 p', .int .u8 c', .int .i64 q', .int .i64 s'] 46) (.cells #[.int .i64 0, .int .i64 0, .int .u8 0, .int .i64 0, .int .i64 0] 46) h0 t0
  have T1 := tb3 w (.cells #[.int .i64 k, .int .i64 p, .int .u8 c, .int .i64 q, .int .i64 s] 46) (.cells #[.int .i64 1, .int .i64 p', .int .u8 c', .int .i64 q', .int .i64 s'] 46) (.cells #[.int .i64 0, .int .i64 0, .int .u8 0, .int .i64 0, .int .i64 0] 46) h0 t1
  have T2 := tb3 w (.cells #[.int .i64 k, .int .i64 p, .int .u8 c, .int .i64 q, .int .i64 s] 46) (.cells #[.int .i64 1, .int .i64 p', .int .u8 c', .int .i64 q', .int .i64 s'] 46) (.cells #[.int .i64 0, .int .i64 0, .int .u8 0, .int .i64 0, .int .i64 0] 46) h0 t2
  have T3 := tb3 w (.cells #[.int .i64 k, .int .i64 p, .int .u8 c, .int .i64 q, .int .i64 s] 46) (.cells #[.int .i64 1, .int .i64 p', .int .u8 c', .int .i64 q', .int .i64 s'] 46) (.cells #[.int .i64 0, .int .i64 0, .int .u8 0, .int .i64 0, .int .i64 0] 46) h0 t3
  have T4 := tb3 w (.cells #[.int .i64 k, .int .i64 p, .int .u8 c, .int .i64 q, .int .i64 s] 46) (.cells #[.int .i64 1, .int .i64 p', .int .u8 c', .int .i64 q', .int .i64 s'] 46) (.cells #[.int .i64 0, .int .i64 0, .int .u8 0, .int .i64 0, .int .i64 0] 46) h0 t4
  have T5 := tb3 w (.cells #[.int .i64 k, .int .i64 p, .int .u8 c, .int .i64 q, .int .i64 s] 46) (.cells #[.int .i64 1, .int .i64 p', .int .u8 c', .int .i64 q', .int .i64 s'] 46) (.cells #[.int .i64 0, .int .i64 0, .int .u8 0, .int .i64 0, .int .i64 0] 46) h0 t5
  have T6 := tb3 w (.cells #[.int .i64 k, .int .i64 p, .int .u8 c, .int .i64 q, .int .i64 s] 46) (.cells #[.int .i64 1, .int .i64 p', .int .u8 c', .int .i64 q', .int .i64 s'] 46) (.cells #[.int .i64 0, .int .i64 0, .int .u8 0, .int .i64 0, .int .i64 0] 46) h0 t6
  have T7 := tb3 w (.cells #[.int .i64 k, .int .i64 p, .int .u8 c, .int .i64 q, .int .i64 s] 46) (.cells #[.int .i64 1, .int .i64 p', .int .u8 c', .int .i64 q', .int .i64 s'] 46) (.cells #[.int .i64 0, .int .i64 0, .int .u8 0, .int .i64 0, .int .i64 0] 46) h0 t7
  have T8 := tb3 w (.cells #[.int .i64 k, .int .i64 p, .int .u8 c, .int .i64 q, .int .i64 s] 46) (.cells #[.int .i64 1, .int .i64 p', .int .u8 c', .int .i64 q', .int .i64 s'] 46) (.cells #[.int .i64 0, .int .i64 0, .int .u8 0, .int .i64 0, .int .i64 0] 46) h0 t8
  go_enter Tryz.func84, Tryz.ntmps84
  go_wp2_with fail
  go_quiet (first | (go_at_call_of 85 (Value.int .i64 k); exact Calls.quiet_of_same (row_is k 0 _ (by rw [HK.out]; rfl))) | (go_at_call_of 85 (Value.int .i64 1); exact Calls.quiet_of_same (row_is 1 1 _ rfl)))
  go_wp2
  refine bodyPost_ret (v := .agg #[.int .i64 k, .int .i64 p, .int .u8 c, .int .i64 q, .int .i64 s]) (by simp [results, Tryz.results84, go_sem]) rfl ?_
  exact ⟨rfl, ((((res_below w _ _ _ _).setCell (by simp; omega) _).setCell (by simp; omega) _).setCell (by simp; omega) _).setCell (by simp; omega) _ |>.setCell (by simp; omega) _⟩

set_option maxHeartbeats 4000000 in
theorem sh_n2 (k p c q s p' c' q' s' : Int) (f : Bool) (w : World) (hT : Table w) (hk : rowP k = 0) : Calls Tryz.prog 84 #[.agg #[.int .i64 k, .int .i64 p, .int .u8 c, .int .i64 q, .int .i64 s], .agg #[.int .i64 2, .int .i64 p', .int .u8 c', .int .i64 q', .int .i64 s'], .bool f] w fun e w' =>
    e = .returned (.agg #[.int .i64 k, .int .i64 p, .int .u8 c, .int .i64 q, .int .i64 s]) ∧ Below w.heap.size w w' := by
  have HK := hd hk
  clear hk
  obtain ⟨h0, t0, t1, t2, t3, t4, t5, t6, t7, t8⟩ := hT
  have n1 : ¬ (1 = w.heap.size) := by omega
  have n2 : ¬ (1 = w.heap.size + 1) := by omega
  have n3 : ¬ (1 = w.heap.size + 1 + 1) := by omega
  have T0 := tb3 w (.cells #[.int .i64 k, .int .i64 p, .int .u8 c, .int .i64 q, .int .i64 s] 46) (.cells #[.int .i64 2, .int .i64 p', .int .u8 c', .int .i64 q', .int .i64 s'] 46) (.cells #[.int .i64 0, .int .i64 0, .int .u8 0, .int .i64 0, .int .i64 0] 46) h0 t0
  have T1 := tb3 w (.cells #[.int .i64 k, .int .i64 p, .int .u8 c, .int .i64 q, .int .i64 s] 46) (.cells #[.int .i64 2, .int .i64 p', .int .u8 c', .int .i64 q', .int .i64 s'] 46) (.cells #[.int .i64 0, .int .i64 0, .int .u8 0, .int .i64 0, .int .i64 0] 46) h0 t1
  have T2 := tb3 w (.cells #[.int .i64 k, .int .i64 p, .int .u8 c, .int .i64 q, .int .i64 s] 46) (.cells #[.int .i64 2, .int .i64 p', .int .u8 c', .int .i64 q', .int .i64 s'] 46) (.cells #[.int .i64 0, .int .i64 0, .int .u8 0, .int .i64 0, .int .i64 0] 46) h0 t2
  have T3 := tb3 w (.cells #[.int .i64 k, .int .i64 p, .int .u8 c, .int .i64 q, .int .i64 s] 46) (.cells #[.int .i64 2, .int .i64 p', .int .u8 c', .int .i64 q', .int .i64 s'] 46) (.cells #[.int .i64 0, .int .i64 0, .int .u8 0, .int .i64 0, .int .i64 0] 46) h0 t3
  have T4 := tb3 w (.cells #[.int .i64 k, .int .i64 p, .int .u8 c, .int .i64 q, .int .i64 s] 46) (.cells #[.int .i64 2, .int .i64 p', .int .u8 c', .int .i64 q', .int .i64 s'] 46) (.cells #[.int .i64 0, .int .i64 0, .int .u8 0, .int .i64 0, .int .i64 0] 46) h0 t4
  have T5 := tb3 w (.cells #[.int .i64 k, .int .i64 p, .int .u8 c, .int .i64 q, .int .i64 s] 46) (.cells #[.int .i64 2, .int .i64 p', .int .u8 c', .int .i64 q', .int .i64 s'] 46) (.cells #[.int .i64 0, .int .i64 0, .int .u8 0, .int .i64 0, .int .i64 0] 46) h0 t5
  have T6 := tb3 w (.cells #[.int .i64 k, .int .i64 p, .int .u8 c, .int .i64 q, .int .i64 s] 46) (.cells #[.int .i64 2, .int .i64 p', .int .u8 c', .int .i64 q', .int .i64 s'] 46) (.cells #[.int .i64 0, .int .i64 0, .int .u8 0, .int .i64 0, .int .i64 0] 46) h0 t6
  have T7 := tb3 w (.cells #[.int .i64 k, .int .i64 p, .int .u8 c, .int .i64 q, .int .i64 s] 46) (.cells #[.int .i64 2, .int .i64 p', .int .u8 c', .int .i64 q', .int .i64 s'] 46) (.cells #[.int .i64 0, .int .i64 0, .int .u8 0, .int .i64 0, .int .i64 0] 46) h0 t7
  have T8 := tb3 w (.cells #[.int .i64 k, .int .i64 p, .int .u8 c, .int .i64 q, .int .i64 s] 46) (.cells #[.int .i64 2, .int .i64 p', .int .u8 c', .int .i64 q', .int .i64 s'] 46) (.cells #[.int .i64 0, .int .i64 0, .int .u8 0, .int .i64 0, .int .i64 0] 46) h0 t8
  go_enter Tryz.func84, Tryz.ntmps84
  go_wp2_with fail
  go_quiet (first | (go_at_call_of 85 (Value.int .i64 k); exact Calls.quiet_of_same (row_is k 0 _ (by rw [HK.out]; rfl))) | (go_at_call_of 85 (Value.int .i64 2); exact Calls.quiet_of_same (row_is 2 2 _ rfl)))
  go_wp2
  refine bodyPost_ret (v := .agg #[.int .i64 k, .int .i64 p, .int .u8 c, .int .i64 q, .int .i64 s]) (by simp [results, Tryz.results84, go_sem]) rfl ?_
  exact ⟨rfl, ((((res_below w _ _ _ _).setCell (by simp; omega) _).setCell (by simp; omega) _).setCell (by simp; omega) _).setCell (by simp; omega) _ |>.setCell (by simp; omega) _⟩

set_option maxHeartbeats 4000000 in
theorem sh_1n (k' p c q s p' c' q' s' : Int) (f : Bool) (w : World) (hT : Table w) (hk' : rowP k' = 0) : Calls Tryz.prog 84 #[.agg #[.int .i64 1, .int .i64 p, .int .u8 c, .int .i64 q, .int .i64 s], .agg #[.int .i64 k', .int .i64 p', .int .u8 c', .int .i64 q', .int .i64 s'], .bool f] w fun e w' =>
    e = .returned (.agg #[.int .i64 1, .int .i64 p, .int .u8 c, .int .i64 q, .int .i64 s]) ∧ Below w.heap.size w w' := by
  have HK' := hd hk'
  clear hk'
  obtain ⟨h0, t0, t1, t2, t3, t4, t5, t6, t7, t8⟩ := hT
  have n1 : ¬ (1 = w.heap.size) := by omega
  have n2 : ¬ (1 = w.heap.size + 1) := by omega
  have n3 : ¬ (1 = w.heap.size + 1 + 1) := by omega
  have T0 := tb3 w (.cells #[.int .i64 1, .int .i64 p, .int .u8 c, .int .i64 q, .int .i64 s] 46) (.cells #[.int .i64 k', .int .i64 p', .int .u8 c', .int .i64 q', .int .i64 s'] 46) (.cells #[.int .i64 0, .int .i64 0, .int .u8 0, .int .i64 0, .int .i64 0] 46) h0 t0
  have T1 := tb3 w (.cells #[.int .i64 1, .int .i64 p, .int .u8 c, .int .i64 q, .int .i64 s] 46) (.cells #[.int .i64 k', .int .i64 p', .int .u8 c', .int .i64 q', .int .i64 s'] 46) (.cells #[.int .i64 0, .int .i64 0, .int .u8 0, .int .i64 0, .int .i64 0] 46) h0 t1
  have T2 := tb3 w (.cells #[.int .i64 1, .int .i64 p, .int .u8 c, .int .i64 q, .int .i64 s] 46) (.cells #[.int .i64 k', .int .i64 p', .int .u8 c', .int .i64 q', .int .i64 s'] 46) (.cells #[.int .i64 0, .int .i64 0, .int .u8 0, .int .i64 0, .int .i64 0] 46) h0 t2
  have T3 := tb3 w (.cells #[.int .i64 1, .int .i64 p, .int .u8 c, .int .i64 q, .int .i64 s] 46) (.cells #[.int .i64 k', .int .i64 p', .int .u8 c', .int .i64 q', .int .i64 s'] 46) (.cells #[.int .i64 0, .int .i64 0, .int .u8 0, .int .i64 0, .int .i64 0] 46) h0 t3
  have T4 := tb3 w (.cells #[.int .i64 1, .int .i64 p, .int .u8 c, .int .i64 q, .int .i64 s] 46) (.cells #[.int .i64 k', .int .i64 p', .int .u8 c', .int .i64 q', .int .i64 s'] 46) (.cells #[.int .i64 0, .int .i64 0, .int .u8 0, .int .i64 0, .int .i64 0] 46) h0 t4
  have T5 := tb3 w (.cells #[.int .i64 1, .int .i64 p, .int .u8 c, .int .i64 q, .int .i64 s] 46) (.cells #[.int .i64 k', .int .i64 p', .int .u8 c', .int .i64 q', .int .i64 s'] 46) (.cells #[.int .i64 0, .int .i64 0, .int .u8 0, .int .i64 0, .int .i64 0] 46) h0 t5
  have T6 := tb3 w (.cells #[.int .i64 1, .int .i64 p, .int .u8 c, .int .i64 q, .int .i64 s] 46) (.cells #[.int .i64 k', .int .i64 p', .int .u8 c', .int .i64 q', .int .i64 s'] 46) (.cells #[.int .i64 0, .int .i64 0, .int .u8 0, .int .i64 0, .int .i64 0] 46) h0 t6
  have T7 := tb3 w (.cells #[.int .i64 1, .int .i64 p, .int .u8 c, .int .i64 q, .int .i64 s] 46) (.cells #[.int .i64 k', .int .i64 p', .int .u8 c', .int .i64 q', .int .i64 s'] 46) (.cells #[.int .i64 0, .int .i64 0, .int .u8 0, .int .i64 0, .int .i64 0] 46) h0 t7
  have T8 := tb3 w (.cells #[.int .i64 1, .int .i64 p, .int .u8 c, .int .i64 q, .int .i64 s] 46) (.cells #[.int .i64 k', .int .i64 p', .int .u8 c', .int .i64 q', .int .i64 s'] 46) (.cells #[.int .i64 0, .int .i64 0, .int .u8 0, .int .i64 0, .int .i64 0] 46) h0 t8
  go_enter Tryz.func84, Tryz.ntmps84
  go_wp2_with fail
  go_quiet (first | (go_at_call_of 85 (Value.int .i64 1); exact Calls.quiet_of_same (row_is 1 1 _ rfl)) | (go_at_call_of 85 (Value.int .i64 k'); exact Calls.quiet_of_same (row_is k' 0 _ (by rw [HK'.out]; rfl))))
  go_wp2
  refine bodyPost_ret (v := .agg #[.int .i64 1, .int .i64 p, .int .u8 c, .int .i64 q, .int .i64 s]) (by simp [results, Tryz.results84, go_sem]) rfl ?_
  exact ⟨rfl, ((((res_below w _ _ _ _).setCell (by simp; omega) _).setCell (by simp; omega) _).setCell (by simp; omega) _).setCell (by simp; omega) _ |>.setCell (by simp; omega) _⟩

set_option maxHeartbeats 4000000 in
theorem sh_2n (k' p c q s p' c' q' s' : Int) (f : Bool) (w : World) (hT : Table w) (hk' : rowP k' = 0) : Calls Tryz.prog 84 #[.agg #[.int .i64 2, .int .i64 p, .int .u8 c, .int .i64 q, .int .i64 s], .agg #[.int .i64 k', .int .i64 p', .int .u8 c', .int .i64 q', .int .i64 s'], .bool f] w fun e w' =>
    e = .returned (.agg #[.int .i64 2, .int .i64 p, .int .u8 c, .int .i64 q, .int .i64 s]) ∧ Below w.heap.size w w' := by
  have HK' := hd hk'
  clear hk'
  obtain ⟨h0, t0, t1, t2, t3, t4, t5, t6, t7, t8⟩ := hT
  have n1 : ¬ (1 = w.heap.size) := by omega
  have n2 : ¬ (1 = w.heap.size + 1) := by omega
  have n3 : ¬ (1 = w.heap.size + 1 + 1) := by omega
  have T0 := tb3 w (.cells #[.int .i64 2, .int .i64 p, .int .u8 c, .int .i64 q, .int .i64 s] 46) (.cells #[.int .i64 k', .int .i64 p', .int .u8 c', .int .i64 q', .int .i64 s'] 46) (.cells #[.int .i64 0, .int .i64 0, .int .u8 0, .int .i64 0, .int .i64 0] 46) h0 t0
  have T1 := tb3 w (.cells #[.int .i64 2, .int .i64 p, .int .u8 c, .int .i64 q, .int .i64 s] 46) (.cells #[.int .i64 k', .int .i64 p', .int .u8 c', .int .i64 q', .int .i64 s'] 46) (.cells #[.int .i64 0, .int .i64 0, .int .u8 0, .int .i64 0, .int .i64 0] 46) h0 t1
  have T2 := tb3 w (.cells #[.int .i64 2, .int .i64 p, .int .u8 c, .int .i64 q, .int .i64 s] 46) (.cells #[.int .i64 k', .int .i64 p', .int .u8 c', .int .i64 q', .int .i64 s'] 46) (.cells #[.int .i64 0, .int .i64 0, .int .u8 0, .int .i64 0, .int .i64 0] 46) h0 t2
  have T3 := tb3 w (.cells #[.int .i64 2, .int .i64 p, .int .u8 c, .int .i64 q, .int .i64 s] 46) (.cells #[.int .i64 k', .int .i64 p', .int .u8 c', .int .i64 q', .int .i64 s'] 46) (.cells #[.int .i64 0, .int .i64 0, .int .u8 0, .int .i64 0, .int .i64 0] 46) h0 t3
  have T4 := tb3 w (.cells #[.int .i64 2, .int .i64 p, .int .u8 c, .int .i64 q, .int .i64 s] 46) (.cells #[.int .i64 k', .int .i64 p', .int .u8 c', .int .i64 q', .int .i64 s'] 46) (.cells #[.int .i64 0, .int .i64 0, .int .u8 0, .int .i64 0, .int .i64 0] 46) h0 t4
  have T5 := tb3 w (.cells #[.int .i64 2, .int .i64 p, .int .u8 c, .int .i64 q, .int .i64 s] 46) (.cells #[.int .i64 k', .int .i64 p', .int .u8 c', .int .i64 q', .int .i64 s'] 46) (.cells #[.int .i64 0, .int .i64 0, .int .u8 0, .int .i64 0, .int .i64 0] 46) h0 t5
  have T6 := tb3 w (.cells #[.int .i64 2, .int .i64 p, .int .u8 c, .int .i64 q, .int .i64 s] 46) (.cells #[.int .i64 k', .int .i64 p', .int .u8 c', .int .i64 q', .int .i64 s'] 46) (.cells #[.int .i64 0, .int .i64 0, .int .u8 0, .int .i64 0, .int .i64 0] 46) h0 t6
  have T7 := tb3 w (.cells #[.int .i64 2, .int .i64 p, .int .u8 c, .int .i64 q, .int .i64 s] 46) (.cells #[.int .i64 k', .int .i64 p', .int .u8 c', .int .i64 q', .int .i64 s'] 46) (.cells #[.int .i64 0, .int .i64 0, .int .u8 0, .int .i64 0, .int .i64 0] 46) h0 t7
  have T8 := tb3 w (.cells #[.int .i64 2, .int .i64 p, .int .u8 c, .int .i64 q, .int .i64 s] 46) (.cells #[.int .i64 k', .int .i64 p', .int .u8 c', .int .i64 q', .int .i64 s'] 46) (.cells #[.int .i64 0, .int .i64 0, .int .u8 0, .int .i64 0, .int .i64 0] 46) h0 t8
  go_enter Tryz.func84, Tryz.ntmps84
  go_wp2_with fail
  go_quiet (first | (go_at_call_of 85 (Value.int .i64 2); exact Calls.quiet_of_same (row_is 2 2 _ rfl)) | (go_at_call_of 85 (Value.int .i64 k'); exact Calls.quiet_of_same (row_is k' 0 _ (by rw [HK'.out]; rfl))))
  go_wp2
  refine bodyPost_ret (v := .agg #[.int .i64 2, .int .i64 p, .int .u8 c, .int .i64 q, .int .i64 s]) (by simp [results, Tryz.results84, go_sem]) rfl ?_
  exact ⟨rfl, ((((res_below w _ _ _ _).setCell (by simp; omega) _).setCell (by simp; omega) _).setCell (by simp; omega) _).setCell (by simp; omega) _ |>.setCell (by simp; omega) _⟩

set_option maxHeartbeats 4000000 in
theorem sh_11l (p c q s p' c' q' s' : Int) (f : Bool) (w : World) (hT : Table w) (hl : p' < p) : Calls Tryz.prog 84 #[.agg #[.int .i64 1, .int .i64 p, .int .u8 c, .int .i64 q, .int .i64 s], .agg #[.int .i64 1, .int .i64 p', .int .u8 c', .int .i64 q', .int .i64 s'], .bool f] w fun e w' =>
    e = .returned (.agg #[.int .i64 1, .int .i64 (wrap64 (p + 1)), .int .u8 c, .int .i64 q, .int .i64 s]) ∧ Below w.heap.size w w' := by
  obtain ⟨h0, t0, t1, t2, t3, t4, t5, t6, t7, t8⟩ := hT
  have n1 : ¬ (1 = w.heap.size) := by omega
  have n2 : ¬ (1 = w.heap.size + 1) := by omega
  have n3 : ¬ (1 = w.heap.size + 1 + 1) := by omega
  have T0 := tb3 w (.cells #[.int .i64 1, .int .i64 p, .int .u8 c, .int .i64 q, .int .i64 s] 46) (.cells #[.int .i64 1, .int .i64 p', .int .u8 c', .int .i64 q', .int .i64 s'] 46) (.cells #[.int .i64 0, .int .i64 0, .int .u8 0, .int .i64 0, .int .i64 0] 46) h0 t0
  have T1 := tb3 w (.cells #[.int .i64 1, .int .i64 p, .int .u8 c, .int .i64 q, .int .i64 s] 46) (.cells #[.int .i64 1, .int .i64 p', .int .u8 c', .int .i64 q', .int .i64 s'] 46) (.cells #[.int .i64 0, .int .i64 0, .int .u8 0, .int .i64 0, .int .i64 0] 46) h0 t1
  have T2 := tb3 w (.cells #[.int .i64 1, .int .i64 p, .int .u8 c, .int .i64 q, .int .i64 s] 46) (.cells #[.int .i64 1, .int .i64 p', .int .u8 c', .int .i64 q', .int .i64 s'] 46) (.cells #[.int .i64 0, .int .i64 0, .int .u8 0, .int .i64 0, .int .i64 0] 46) h0 t2
  have T3 := tb3 w (.cells #[.int .i64 1, .int .i64 p, .int .u8 c, .int .i64 q, .int .i64 s] 46) (.cells #[.int .i64 1, .int .i64 p', .int .u8 c', .int .i64 q', .int .i64 s'] 46) (.cells #[.int .i64 0, .int .i64 0, .int .u8 0, .int .i64 0, .int .i64 0] 46) h0 t3
  have T4 := tb3 w (.cells #[.int .i64 1, .int .i64 p, .int .u8 c, .int .i64 q, .int .i64 s] 46) (.cells #[.int .i64 1, .int .i64 p', .int .u8 c', .int .i64 q', .int .i64 s'] 46) (.cells #[.int .i64 0, .int .i64 0, .int .u8 0, .int .i64 0, .int .i64 0] 46) h0 t4
  have T5 := tb3 w (.cells #[.int .i64 1, .int .i64 p, .int .u8 c, .int .i64 q, .int .i64 s] 46) (.cells #[.int .i64 1, .int .i64 p', .int .u8 c', .int .i64 q', .int .i64 s'] 46) (.cells #[.int .i64 0, .int .i64 0, .int .u8 0, .int .i64 0, .int .i64 0] 46) h0 t5
  have T6 := tb3 w (.cells #[.int .i64 1, .int .i64 p, .int .u8 c, .int .i64 q, .int .i64 s] 46) (.cells #[.int .i64 1, .int .i64 p', .int .u8 c', .int .i64 q', .int .i64 s'] 46) (.cells #[.int .i64 0, .int .i64 0, .int .u8 0, .int .i64 0, .int .i64 0] 46) h0 t6
  have T7 := tb3 w (.cells #[.int .i64 1, .int .i64 p, .int .u8 c, .int .i64 q, .int .i64 s] 46) (.cells #[.int .i64 1, .int .i64 p', .int .u8 c', .int .i64 q', .int .i64 s'] 46) (.cells #[.int .i64 0, .int .i64 0, .int .u8 0, .int .i64 0, .int .i64 0] 46) h0 t7
  have T8 := tb3 w (.cells #[.int .i64 1, .int .i64 p, .int .u8 c, .int .i64 q, .int .i64 s] 46) (.cells #[.int .i64 1, .int .i64 p', .int .u8 c', .int .i64 q', .int .i64 s'] 46) (.cells #[.int .i64 0, .int .i64 0, .int .u8 0, .int .i64 0, .int .i64 0] 46) h0 t8
  go_enter Tryz.func84, Tryz.ntmps84
  go_wp2_with fail
  go_quiet (first | (go_at_call_of 85 (Value.int .i64 1); exact Calls.quiet_of_same (row_is 1 1 _ rfl)))
  go_wp2_with fail
  refine (pushed_any ⟨1, p, c, q, s⟩ true _).mono ?_
  rintro e w1 ⟨rfl, b1⟩
  simp only [OpE.val]
  obtain ⟨c1, f1, b2⟩ := res_cell b1
  have B2 := hd b2
  have x0 := c1 0
  have x1 := c1 1
  have x2 := c1 2
  have x3 := c1 3
  have x4 := c1 4
  have y0 := f1 0
  have y1 := f1 1
  have y2 := f1 2
  have y3 := f1 3
  have y4 := f1 4
  simp at x0 x1 x2 x3 x4
  clear c1 f1 b1 b2
  go_wp2
  refine bodyPost_ret (v := .agg #[.int .i64 1, .int .i64 (wrap64 (p + 1)), .int .u8 c, .int .i64 q, .int .i64 s]) (by simp [results, Tryz.results84, go_sem, x0, x1, x2, x3, x4]) rfl ?_
  exact ⟨rfl, ((((B2.out.setCell (by simp; omega) _).setCell (by simp; omega) _).setCell (by simp; omega) _).setCell (by simp; omega) _).setCell (by simp; omega) _⟩

set_option maxHeartbeats 4000000 in
theorem sh_11et (p c q s c' q' s' : Int) (w : World) (hT : Table w) : Calls Tryz.prog 84 #[.agg #[.int .i64 1, .int .i64 p, .int .u8 c, .int .i64 q, .int .i64 s], .agg #[.int .i64 1, .int .i64 p, .int .u8 c', .int .i64 q', .int .i64 s'], .bool true] w fun e w' =>
    e = .returned (.agg #[.int .i64 1, .int .i64 p, .int .u8 c, .int .i64 q, .int .i64 s]) ∧ Below w.heap.size w w' := by
  obtain ⟨h0, t0, t1, t2, t3, t4, t5, t6, t7, t8⟩ := hT
  have n1 : ¬ (1 = w.heap.size) := by omega
  have n2 : ¬ (1 = w.heap.size + 1) := by omega
  have n3 : ¬ (1 = w.heap.size + 1 + 1) := by omega
  have T0 := tb3 w (.cells #[.int .i64 1, .int .i64 p, .int .u8 c, .int .i64 q, .int .i64 s] 46) (.cells #[.int .i64 1, .int .i64 p, .int .u8 c', .int .i64 q', .int .i64 s'] 46) (.cells #[.int .i64 0, .int .i64 0, .int .u8 0, .int .i64 0, .int .i64 0] 46) h0 t0
  have T1 := tb3 w (.cells #[.int .i64 1, .int .i64 p, .int .u8 c, .int .i64 q, .int .i64 s] 46) (.cells #[.int .i64 1, .int .i64 p, .int .u8 c', .int .i64 q', .int .i64 s'] 46) (.cells #[.int .i64 0, .int .i64 0, .int .u8 0, .int .i64 0, .int .i64 0] 46) h0 t1
  have T2 := tb3 w (.cells #[.int .i64 1, .int .i64 p, .int .u8 c, .int .i64 q, .int .i64 s] 46) (.cells #[.int .i64 1, .int .i64 p, .int .u8 c', .int .i64 q', .int .i64 s'] 46) (.cells #[.int .i64 0, .int .i64 0, .int .u8 0, .int .i64 0, .int .i64 0] 46) h0 t2
  have T3 := tb3 w (.cells #[.int .i64 1, .int .i64 p, .int .u8 c, .int .i64 q, .int .i64 s] 46) (.cells #[.int .i64 1, .int .i64 p, .int .u8 c', .int .i64 q', .int .i64 s'] 46) (.cells #[.int .i64 0, .int .i64 0, .int .u8 0, .int .i64 0, .int .i64 0] 46) h0 t3
  have T4 := tb3 w (.cells #[.int .i64 1, .int .i64 p, .int .u8 c, .int .i64 q, .int .i64 s] 46) (.cells #[.int .i64 1, .int .i64 p, .int .u8 c', .int .i64 q', .int .i64 s'] 46) (.cells #[.int .i64 0, .int .i64 0, .int .u8 0, .int .i64 0, .int .i64 0] 46) h0 t4
  have T5 := tb3 w (.cells #[.int .i64 1, .int .i64 p, .int .u8 c, .int .i64 q, .int .i64 s] 46) (.cells #[.int .i64 1, .int .i64 p, .int .u8 c', .int .i64 q', .int .i64 s'] 46) (.cells #[.int .i64 0, .int .i64 0, .int .u8 0, .int .i64 0, .int .i64 0] 46) h0 t5
  have T6 := tb3 w (.cells #[.int .i64 1, .int .i64 p, .int .u8 c, .int .i64 q, .int .i64 s] 46) (.cells #[.int .i64 1, .int .i64 p, .int .u8 c', .int .i64 q', .int .i64 s'] 46) (.cells #[.int .i64 0, .int .i64 0, .int .u8 0, .int .i64 0, .int .i64 0] 46) h0 t6
  have T7 := tb3 w (.cells #[.int .i64 1, .int .i64 p, .int .u8 c, .int .i64 q, .int .i64 s] 46) (.cells #[.int .i64 1, .int .i64 p, .int .u8 c', .int .i64 q', .int .i64 s'] 46) (.cells #[.int .i64 0, .int .i64 0, .int .u8 0, .int .i64 0, .int .i64 0] 46) h0 t7
  have T8 := tb3 w (.cells #[.int .i64 1, .int .i64 p, .int .u8 c, .int .i64 q, .int .i64 s] 46) (.cells #[.int .i64 1, .int .i64 p, .int .u8 c', .int .i64 q', .int .i64 s'] 46) (.cells #[.int .i64 0, .int .i64 0, .int .u8 0, .int .i64 0, .int .i64 0] 46) h0 t8
  go_enter Tryz.func84, Tryz.ntmps84
  go_wp2_with fail
  go_quiet (first | (go_at_call_of 85 (Value.int .i64 1); exact Calls.quiet_of_same (row_is 1 1 _ rfl)))
  go_wp2_with fail
  refine (pushed_any ⟨1, p, c, q, s⟩ false _).mono ?_
  rintro e w1 ⟨rfl, b1⟩
  simp only [OpE.val]
  obtain ⟨c1, f1, b2⟩ := res_cell b1
  have B2 := hd b2
  have x0 := c1 0
  have x1 := c1 1
  have x2 := c1 2
  have x3 := c1 3
  have x4 := c1 4
  have y0 := f1 0
  have y1 := f1 1
  have y2 := f1 2
  have y3 := f1 3
  have y4 := f1 4
  simp at x0 x1 x2 x3 x4
  clear c1 f1 b1 b2
  go_wp2
  refine bodyPost_ret (v := .agg #[.int .i64 1, .int .i64 p, .int .u8 c, .int .i64 q, .int .i64 s]) (by simp [results, Tryz.results84, go_sem, x0, x1, x2, x3, x4]) rfl ?_
  exact ⟨rfl, ((((B2.out.setCell (by simp; omega) _).setCell (by simp; omega) _).setCell (by simp; omega) _).setCell (by simp; omega) _).setCell (by simp; omega) _⟩

set_option maxHeartbeats 4000000 in
theorem sh_11ef (p c q s c' q' s' : Int) (w : World) (hT : Table w) : Calls Tryz.prog 84 #[.agg #[.int .i64 1, .int .i64 p, .int .u8 c, .int .i64 q, .int .i64 s], .agg #[.int .i64 1, .int .i64 p, .int .u8 c', .int .i64 q', .int .i64 s'], .bool false] w fun e w' =>
    e = .returned (.agg #[.int .i64 1, .int .i64 (wrap64 (p + 1)), .int .u8 c, .int .i64 q, .int .i64 s]) ∧ Below w.heap.size w w' := by
  obtain ⟨h0, t0, t1, t2, t3, t4, t5, t6, t7, t8⟩ := hT
  have n1 : ¬ (1 = w.heap.size) := by omega
  have n2 : ¬ (1 = w.heap.size + 1) := by omega
  have n3 : ¬ (1 = w.heap.size + 1 + 1) := by omega
  have T0 := tb3 w (.cells #[.int .i64 1, .int .i64 p, .int .u8 c, .int .i64 q, .int .i64 s] 46) (.cells #[.int .i64 1, .int .i64 p, .int .u8 c', .int .i64 q', .int .i64 s'] 46) (.cells #[.int .i64 0, .int .i64 0, .int .u8 0, .int .i64 0, .int .i64 0] 46) h0 t0
  have T1 := tb3 w (.cells #[.int .i64 1, .int .i64 p, .int .u8 c, .int .i64 q, .int .i64 s] 46) (.cells #[.int .i64 1, .int .i64 p, .int .u8 c', .int .i64 q', .int .i64 s'] 46) (.cells #[.int .i64 0, .int .i64 0, .int .u8 0, .int .i64 0, .int .i64 0] 46) h0 t1
  have T2 := tb3 w (.cells #[.int .i64 1, .int .i64 p, .int .u8 c, .int .i64 q, .int .i64 s] 46) (.cells #[.int .i64 1, .int .i64 p, .int .u8 c', .int .i64 q', .int .i64 s'] 46) (.cells #[.int .i64 0, .int .i64 0, .int .u8 0, .int .i64 0, .int .i64 0] 46) h0 t2
  have T3 := tb3 w (.cells #[.int .i64 1, .int .i64 p, .int .u8 c, .int .i64 q, .int .i64 s] 46) (.cells #[.int .i64 1, .int .i64 p, .int .u8 c', .int .i64 q', .int .i64 s'] 46) (.cells #[.int .i64 0, .int .i64 0, .int .u8 0, .int .i64 0, .int .i64 0] 46) h0 t3
  have T4 := tb3 w (.cells #[.int .i64 1, .int .i64 p, .int .u8 c, .int .i64 q, .int .i64 s] 46) (.cells #[.int .i64 1, .int .i64 p, .int .u8 c', .int .i64 q', .int .i64 s'] 46) (.cells #[.int .i64 0, .int .i64 0, .int .u8 0, .int .i64 0, .int .i64 0] 46) h0 t4
  have T5 := tb3 w (.cells #[.int .i64 1, .int .i64 p, .int .u8 c, .int .i64 q, .int .i64 s] 46) (.cells #[.int .i64 1, .int .i64 p, .int .u8 c', .int .i64 q', .int .i64 s'] 46) (.cells #[.int .i64 0, .int .i64 0, .int .u8 0, .int .i64 0, .int .i64 0] 46) h0 t5
  have T6 := tb3 w (.cells #[.int .i64 1, .int .i64 p, .int .u8 c, .int .i64 q, .int .i64 s] 46) (.cells #[.int .i64 1, .int .i64 p, .int .u8 c', .int .i64 q', .int .i64 s'] 46) (.cells #[.int .i64 0, .int .i64 0, .int .u8 0, .int .i64 0, .int .i64 0] 46) h0 t6
  have T7 := tb3 w (.cells #[.int .i64 1, .int .i64 p, .int .u8 c, .int .i64 q, .int .i64 s] 46) (.cells #[.int .i64 1, .int .i64 p, .int .u8 c', .int .i64 q', .int .i64 s'] 46) (.cells #[.int .i64 0, .int .i64 0, .int .u8 0, .int .i64 0, .int .i64 0] 46) h0 t7
  have T8 := tb3 w (.cells #[.int .i64 1, .int .i64 p, .int .u8 c, .int .i64 q, .int .i64 s] 46) (.cells #[.int .i64 1, .int .i64 p, .int .u8 c', .int .i64 q', .int .i64 s'] 46) (.cells #[.int .i64 0, .int .i64 0, .int .u8 0, .int .i64 0, .int .i64 0] 46) h0 t8
  go_enter Tryz.func84, Tryz.ntmps84
  go_wp2_with fail
  go_quiet (first | (go_at_call_of 85 (Value.int .i64 1); exact Calls.quiet_of_same (row_is 1 1 _ rfl)))
  go_wp2_with fail
  refine (pushed_any ⟨1, p, c, q, s⟩ true _).mono ?_
  rintro e w1 ⟨rfl, b1⟩
  simp only [OpE.val]
  obtain ⟨c1, f1, b2⟩ := res_cell b1
  have B2 := hd b2
  have x0 := c1 0
  have x1 := c1 1
  have x2 := c1 2
  have x3 := c1 3
  have x4 := c1 4
  have y0 := f1 0
  have y1 := f1 1
  have y2 := f1 2
  have y3 := f1 3
  have y4 := f1 4
  simp at x0 x1 x2 x3 x4
  clear c1 f1 b1 b2
  go_wp2
  refine bodyPost_ret (v := .agg #[.int .i64 1, .int .i64 (wrap64 (p + 1)), .int .u8 c, .int .i64 q, .int .i64 s]) (by simp [results, Tryz.results84, go_sem, x0, x1, x2, x3, x4]) rfl ?_
  exact ⟨rfl, ((((B2.out.setCell (by simp; omega) _).setCell (by simp; omega) _).setCell (by simp; omega) _).setCell (by simp; omega) _).setCell (by simp; omega) _⟩

set_option maxHeartbeats 4000000 in
theorem sh_11g (p c q s p' c' q' s' : Int) (f : Bool) (w : World) (hT : Table w) (hl : decide (p' < p) = false) (he : (p' == p) = false) : Calls Tryz.prog 84 #[.agg #[.int .i64 1, .int .i64 p, .int .u8 c, .int .i64 q, .int .i64 s], .agg #[.int .i64 1, .int .i64 p', .int .u8 c', .int .i64 q', .int .i64 s'], .bool f] w fun e w' =>
    e = .returned (.agg #[.int .i64 1, .int .i64 p, .int .u8 c, .int .i64 q, .int .i64 s]) ∧ Below w.heap.size w w' := by
  obtain ⟨h0, t0, t1, t2, t3, t4, t5, t6, t7, t8⟩ := hT
  have n1 : ¬ (1 = w.heap.size) := by omega
  have n2 : ¬ (1 = w.heap.size + 1) := by omega
  have n3 : ¬ (1 = w.heap.size + 1 + 1) := by omega
  have T0 := tb3 w (.cells #[.int .i64 1, .int .i64 p, .int .u8 c, .int .i64 q, .int .i64 s] 46) (.cells #[.int .i64 1, .int .i64 p', .int .u8 c', .int .i64 q', .int .i64 s'] 46) (.cells #[.int .i64 0, .int .i64 0, .int .u8 0, .int .i64 0, .int .i64 0] 46) h0 t0
  have T1 := tb3 w (.cells #[.int .i64 1, .int .i64 p, .int .u8 c, .int .i64 q, .int .i64 s] 46) (.cells #[.int .i64 1, .int .i64 p', .int .u8 c', .int .i64 q', .int .i64 s'] 46) (.cells #[.int .i64 0, .int .i64 0, .int .u8 0, .int .i64 0, .int .i64 0] 46) h0 t1
  have T2 := tb3 w (.cells #[.int .i64 1, .int .i64 p, .int .u8 c, .int .i64 q, .int .i64 s] 46) (.cells #[.int .i64 1, .int .i64 p', .int .u8 c', .int .i64 q', .int .i64 s'] 46) (.cells #[.int .i64 0, .int .i64 0, .int .u8 0, .int .i64 0, .int .i64 0] 46) h0 t2
  have T3 := tb3 w (.cells #[.int .i64 1, .int .i64 p, .int .u8 c, .int .i64 q, .int .i64 s] 46) (.cells #[.int .i64 1, .int .i64 p', .int .u8 c', .int .i64 q', .int .i64 s'] 46) (.cells #[.int .i64 0, .int .i64 0, .int .u8 0, .int .i64 0, .int .i64 0] 46) h0 t3
  have T4 := tb3 w (.cells #[.int .i64 1, .int .i64 p, .int .u8 c, .int .i64 q, .int .i64 s] 46) (.cells #[.int .i64 1, .int .i64 p', .int .u8 c', .int .i64 q', .int .i64 s'] 46) (.cells #[.int .i64 0, .int .i64 0, .int .u8 0, .int .i64 0, .int .i64 0] 46) h0 t4
  have T5 := tb3 w (.cells #[.int .i64 1, .int .i64 p, .int .u8 c, .int .i64 q, .int .i64 s] 46) (.cells #[.int .i64 1, .int .i64 p', .int .u8 c', .int .i64 q', .int .i64 s'] 46) (.cells #[.int .i64 0, .int .i64 0, .int .u8 0, .int .i64 0, .int .i64 0] 46) h0 t5
  have T6 := tb3 w (.cells #[.int .i64 1, .int .i64 p, .int .u8 c, .int .i64 q, .int .i64 s] 46) (.cells #[.int .i64 1, .int .i64 p', .int .u8 c', .int .i64 q', .int .i64 s'] 46) (.cells #[.int .i64 0, .int .i64 0, .int .u8 0, .int .i64 0, .int .i64 0] 46) h0 t6
  have T7 := tb3 w (.cells #[.int .i64 1, .int .i64 p, .int .u8 c, .int .i64 q, .int .i64 s] 46) (.cells #[.int .i64 1, .int .i64 p', .int .u8 c', .int .i64 q', .int .i64 s'] 46) (.cells #[.int .i64 0, .int .i64 0, .int .u8 0, .int .i64 0, .int .i64 0] 46) h0 t7
  have T8 := tb3 w (.cells #[.int .i64 1, .int .i64 p, .int .u8 c, .int .i64 q, .int .i64 s] 46) (.cells #[.int .i64 1, .int .i64 p', .int .u8 c', .int .i64 q', .int .i64 s'] 46) (.cells #[.int .i64 0, .int .i64 0, .int .u8 0, .int .i64 0, .int .i64 0] 46) h0 t8
  go_enter Tryz.func84, Tryz.ntmps84
  go_wp2_with fail
  go_quiet (first | (go_at_call_of 85 (Value.int .i64 1); exact Calls.quiet_of_same (row_is 1 1 _ rfl)))
  go_wp2_with fail
  refine (pushed_any ⟨1, p, c, q, s⟩ false _).mono ?_
  rintro e w1 ⟨rfl, b1⟩
  simp only [OpE.val]
  obtain ⟨c1, f1, b2⟩ := res_cell b1
  have B2 := hd b2
  have x0 := c1 0
  have x1 := c1 1
  have x2 := c1 2
  have x3 := c1 3
  have x4 := c1 4
  have y0 := f1 0
  have y1 := f1 1
  have y2 := f1 2
  have y3 := f1 3
  have y4 := f1 4
  simp at x0 x1 x2 x3 x4
  clear c1 f1 b1 b2
  go_wp2
  refine bodyPost_ret (v := .agg #[.int .i64 1, .int .i64 p, .int .u8 c, .int .i64 q, .int .i64 s]) (by simp [results, Tryz.results84, go_sem, x0, x1, x2, x3, x4]) rfl ?_
  exact ⟨rfl, ((((B2.out.setCell (by simp; omega) _).setCell (by simp; omega) _).setCell (by simp; omega) _).setCell (by simp; omega) _).setCell (by simp; omega) _⟩

set_option maxHeartbeats 4000000 in
theorem sh_12l (p c q s p' c' q' s' : Int) (f : Bool) (w : World) (hT : Table w) (hl : p' < p) : Calls Tryz.prog 84 #[.agg #[.int .i64 1, .int .i64 p, .int .u8 c, .int .i64 q, .int .i64 s], .agg #[.int .i64 2, .int .i64 p', .int .u8 c', .int .i64 q', .int .i64 s'], .bool f] w fun e w' =>
    e = .returned (.agg #[.int .i64 1, .int .i64 (wrap64 (p - 1)), .int .u8 c, .int .i64 q, .int .i64 s]) ∧ Below w.heap.size w w' := by
  obtain ⟨h0, t0, t1, t2, t3, t4, t5, t6, t7, t8⟩ := hT
  have n1 : ¬ (1 = w.heap.size) := by omega
  have n2 : ¬ (1 = w.heap.size + 1) := by omega
  have n3 : ¬ (1 = w.heap.size + 1 + 1) := by omega
  have T0 := tb3 w (.cells #[.int .i64 1, .int .i64 p, .int .u8 c, .int .i64 q, .int .i64 s] 46) (.cells #[.int .i64 2, .int .i64 p', .int .u8 c', .int .i64 q', .int .i64 s'] 46) (.cells #[.int .i64 0, .int .i64 0, .int .u8 0, .int .i64 0, .int .i64 0] 46) h0 t0
  have T1 := tb3 w (.cells #[.int .i64 1, .int .i64 p, .int .u8 c, .int .i64 q, .int .i64 s] 46) (.cells #[.int .i64 2, .int .i64 p', .int .u8 c', .int .i64 q', .int .i64 s'] 46) (.cells #[.int .i64 0, .int .i64 0, .int .u8 0, .int .i64 0, .int .i64 0] 46) h0 t1
  have T2 := tb3 w (.cells #[.int .i64 1, .int .i64 p, .int .u8 c, .int .i64 q, .int .i64 s] 46) (.cells #[.int .i64 2, .int .i64 p', .int .u8 c', .int .i64 q', .int .i64 s'] 46) (.cells #[.int .i64 0, .int .i64 0, .int .u8 0, .int .i64 0, .int .i64 0] 46) h0 t2
  have T3 := tb3 w (.cells #[.int .i64 1, .int .i64 p, .int .u8 c, .int .i64 q, .int .i64 s] 46) (.cells #[.int .i64 2, .int .i64 p', .int .u8 c', .int .i64 q', .int .i64 s'] 46) (.cells #[.int .i64 0, .int .i64 0, .int .u8 0, .int .i64 0, .int .i64 0] 46) h0 t3
  have T4 := tb3 w (.cells #[.int .i64 1, .int .i64 p, .int .u8 c, .int .i64 q, .int .i64 s] 46) (.cells #[.int .i64 2, .int .i64 p', .int .u8 c', .int .i64 q', .int .i64 s'] 46) (.cells #[.int .i64 0, .int .i64 0, .int .u8 0, .int .i64 0, .int .i64 0] 46) h0 t4
  have T5 := tb3 w (.cells #[.int .i64 1, .int .i64 p, .int .u8 c, .int .i64 q, .int .i64 s] 46) (.cells #[.int .i64 2, .int .i64 p', .int .u8 c', .int .i64 q', .int .i64 s'] 46) (.cells #[.int .i64 0, .int .i64 0, .int .u8 0, .int .i64 0, .int .i64 0] 46) h0 t5
  have T6 := tb3 w (.cells #[.int .i64 1, .int .i64 p, .int .u8 c, .int .i64 q, .int .i64 s] 46) (.cells #[.int .i64 2, .int .i64 p', .int .u8 c', .int .i64 q', .int .i64 s'] 46) (.cells #[.int .i64 0, .int .i64 0, .int .u8 0, .int .i64 0, .int .i64 0] 46) h0 t6
  have T7 := tb3 w (.cells #[.int .i64 1, .int .i64 p, .int .u8 c, .int .i64 q, .int .i64 s] 46) (.cells #[.int .i64 2, .int .i64 p', .int .u8 c', .int .i64 q', .int .i64 s'] 46) (.cells #[.int .i64 0, .int .i64 0, .int .u8 0, .int .i64 0, .int .i64 0] 46) h0 t7
  have T8 := tb3 w (.cells #[.int .i64 1, .int .i64 p, .int .u8 c, .int .i64 q, .int .i64 s] 46) (.cells #[.int .i64 2, .int .i64 p', .int .u8 c', .int .i64 q', .int .i64 s'] 46) (.cells #[.int .i64 0, .int .i64 0, .int .u8 0, .int .i64 0, .int .i64 0] 46) h0 t8
  go_enter Tryz.func84, Tryz.ntmps84
  go_wp2_with fail
  go_quiet (first | (go_at_call_of 85 (Value.int .i64 1); exact Calls.quiet_of_same (row_is 1 1 _ rfl)) | (go_at_call_of 85 (Value.int .i64 2); exact Calls.quiet_of_same (row_is 2 2 _ rfl)))
  go_wp2_with fail
  refine (pulled_any ⟨1, p, c, q, s⟩ true _).mono ?_
  rintro e w1 ⟨rfl, b1⟩
  simp only [OpE.val]
  obtain ⟨c1, f1, b2⟩ := res_cell b1
  have B2 := hd b2
  have x0 := c1 0
  have x1 := c1 1
  have x2 := c1 2
  have x3 := c1 3
  have x4 := c1 4
  have y0 := f1 0
  have y1 := f1 1
  have y2 := f1 2
  have y3 := f1 3
  have y4 := f1 4
  simp at x0 x1 x2 x3 x4
  clear c1 f1 b1 b2
  go_wp2
  refine bodyPost_ret (v := .agg #[.int .i64 1, .int .i64 (wrap64 (p - 1)), .int .u8 c, .int .i64 q, .int .i64 s]) (by simp [results, Tryz.results84, go_sem, x0, x1, x2, x3, x4]) rfl ?_
  exact ⟨rfl, ((((B2.out.setCell (by simp; omega) _).setCell (by simp; omega) _).setCell (by simp; omega) _).setCell (by simp; omega) _).setCell (by simp; omega) _⟩

set_option maxHeartbeats 4000000 in
theorem sh_12g (p c q s p' c' q' s' : Int) (f : Bool) (w : World) (hT : Table w) (hl : decide (p' < p) = false) : Calls Tryz.prog 84 #[.agg #[.int .i64 1, .int .i64 p, .int .u8 c, .int .i64 q, .int .i64 s], .agg #[.int .i64 2, .int .i64 p', .int .u8 c', .int .i64 q', .int .i64 s'], .bool f] w fun e w' =>
    e = .returned (.agg #[.int .i64 1, .int .i64 p, .int .u8 c, .int .i64 q, .int .i64 s]) ∧ Below w.heap.size w w' := by
  obtain ⟨h0, t0, t1, t2, t3, t4, t5, t6, t7, t8⟩ := hT
  have n1 : ¬ (1 = w.heap.size) := by omega
  have n2 : ¬ (1 = w.heap.size + 1) := by omega
  have n3 : ¬ (1 = w.heap.size + 1 + 1) := by omega
  have T0 := tb3 w (.cells #[.int .i64 1, .int .i64 p, .int .u8 c, .int .i64 q, .int .i64 s] 46) (.cells #[.int .i64 2, .int .i64 p', .int .u8 c', .int .i64 q', .int .i64 s'] 46) (.cells #[.int .i64 0, .int .i64 0, .int .u8 0, .int .i64 0, .int .i64 0] 46) h0 t0
  have T1 := tb3 w (.cells #[.int .i64 1, .int .i64 p, .int .u8 c, .int .i64 q, .int .i64 s] 46) (.cells #[.int .i64 2, .int .i64 p', .int .u8 c', .int .i64 q', .int .i64 s'] 46) (.cells #[.int .i64 0, .int .i64 0, .int .u8 0, .int .i64 0, .int .i64 0] 46) h0 t1
  have T2 := tb3 w (.cells #[.int .i64 1, .int .i64 p, .int .u8 c, .int .i64 q, .int .i64 s] 46) (.cells #[.int .i64 2, .int .i64 p', .int .u8 c', .int .i64 q', .int .i64 s'] 46) (.cells #[.int .i64 0, .int .i64 0, .int .u8 0, .int .i64 0, .int .i64 0] 46) h0 t2
  have T3 := tb3 w (.cells #[.int .i64 1, .int .i64 p, .int .u8 c, .int .i64 q, .int .i64 s] 46) (.cells #[.int .i64 2, .int .i64 p', .int .u8 c', .int .i64 q', .int .i64 s'] 46) (.cells #[.int .i64 0, .int .i64 0, .int .u8 0, .int .i64 0, .int .i64 0] 46) h0 t3
  have T4 := tb3 w (.cells #[.int .i64 1, .int .i64 p, .int .u8 c, .int .i64 q, .int .i64 s] 46) (.cells #[.int .i64 2, .int .i64 p', .int .u8 c', .int .i64 q', .int .i64 s'] 46) (.cells #[.int .i64 0, .int .i64 0, .int .u8 0, .int .i64 0, .int .i64 0] 46) h0 t4
  have T5 := tb3 w (.cells #[.int .i64 1, .int .i64 p, .int .u8 c, .int .i64 q, .int .i64 s] 46) (.cells #[.int .i64 2, .int .i64 p', .int .u8 c', .int .i64 q', .int .i64 s'] 46) (.cells #[.int .i64 0, .int .i64 0, .int .u8 0, .int .i64 0, .int .i64 0] 46) h0 t5
  have T6 := tb3 w (.cells #[.int .i64 1, .int .i64 p, .int .u8 c, .int .i64 q, .int .i64 s] 46) (.cells #[.int .i64 2, .int .i64 p', .int .u8 c', .int .i64 q', .int .i64 s'] 46) (.cells #[.int .i64 0, .int .i64 0, .int .u8 0, .int .i64 0, .int .i64 0] 46) h0 t6
  have T7 := tb3 w (.cells #[.int .i64 1, .int .i64 p, .int .u8 c, .int .i64 q, .int .i64 s] 46) (.cells #[.int .i64 2, .int .i64 p', .int .u8 c', .int .i64 q', .int .i64 s'] 46) (.cells #[.int .i64 0, .int .i64 0, .int .u8 0, .int .i64 0, .int .i64 0] 46) h0 t7
  have T8 := tb3 w (.cells #[.int .i64 1, .int .i64 p, .int .u8 c, .int .i64 q, .int .i64 s] 46) (.cells #[.int .i64 2, .int .i64 p', .int .u8 c', .int .i64 q', .int .i64 s'] 46) (.cells #[.int .i64 0, .int .i64 0, .int .u8 0, .int .i64 0, .int .i64 0] 46) h0 t8
  go_enter Tryz.func84, Tryz.ntmps84
  go_wp2_with fail
  go_quiet (first | (go_at_call_of 85 (Value.int .i64 1); exact Calls.quiet_of_same (row_is 1 1 _ rfl)) | (go_at_call_of 85 (Value.int .i64 2); exact Calls.quiet_of_same (row_is 2 2 _ rfl)))
  go_wp2_with fail
  refine (pulled_any ⟨1, p, c, q, s⟩ false _).mono ?_
  rintro e w1 ⟨rfl, b1⟩
  simp only [OpE.val]
  obtain ⟨c1, f1, b2⟩ := res_cell b1
  have B2 := hd b2
  have x0 := c1 0
  have x1 := c1 1
  have x2 := c1 2
  have x3 := c1 3
  have x4 := c1 4
  have y0 := f1 0
  have y1 := f1 1
  have y2 := f1 2
  have y3 := f1 3
  have y4 := f1 4
  simp at x0 x1 x2 x3 x4
  clear c1 f1 b1 b2
  go_wp2
  refine bodyPost_ret (v := .agg #[.int .i64 1, .int .i64 p, .int .u8 c, .int .i64 q, .int .i64 s]) (by simp [results, Tryz.results84, go_sem, x0, x1, x2, x3, x4]) rfl ?_
  exact ⟨rfl, ((((B2.out.setCell (by simp; omega) _).setCell (by simp; omega) _).setCell (by simp; omega) _).setCell (by simp; omega) _).setCell (by simp; omega) _⟩

set_option maxHeartbeats 4000000 in
theorem sh_21l (p c q s p' c' q' s' : Int) (f : Bool) (w : World) (hT : Table w) (hl : p' ≤ p) : Calls Tryz.prog 84 #[.agg #[.int .i64 2, .int .i64 p, .int .u8 c, .int .i64 q, .int .i64 s], .agg #[.int .i64 1, .int .i64 p', .int .u8 c', .int .i64 q', .int .i64 s'], .bool f] w fun e w' =>
    e = .returned (.agg #[.int .i64 2, .int .i64 (wrap64 (p + 1)), .int .u8 c, .int .i64 q, .int .i64 s]) ∧ Below w.heap.size w w' := by
  obtain ⟨h0, t0, t1, t2, t3, t4, t5, t6, t7, t8⟩ := hT
  have n1 : ¬ (1 = w.heap.size) := by omega
  have n2 : ¬ (1 = w.heap.size + 1) := by omega
  have n3 : ¬ (1 = w.heap.size + 1 + 1) := by omega
  have T0 := tb3 w (.cells #[.int .i64 2, .int .i64 p, .int .u8 c, .int .i64 q, .int .i64 s] 46) (.cells #[.int .i64 1, .int .i64 p', .int .u8 c', .int .i64 q', .int .i64 s'] 46) (.cells #[.int .i64 0, .int .i64 0, .int .u8 0, .int .i64 0, .int .i64 0] 46) h0 t0
  have T1 := tb3 w (.cells #[.int .i64 2, .int .i64 p, .int .u8 c, .int .i64 q, .int .i64 s] 46) (.cells #[.int .i64 1, .int .i64 p', .int .u8 c', .int .i64 q', .int .i64 s'] 46) (.cells #[.int .i64 0, .int .i64 0, .int .u8 0, .int .i64 0, .int .i64 0] 46) h0 t1
  have T2 := tb3 w (.cells #[.int .i64 2, .int .i64 p, .int .u8 c, .int .i64 q, .int .i64 s] 46) (.cells #[.int .i64 1, .int .i64 p', .int .u8 c', .int .i64 q', .int .i64 s'] 46) (.cells #[.int .i64 0, .int .i64 0, .int .u8 0, .int .i64 0, .int .i64 0] 46) h0 t2
  have T3 := tb3 w (.cells #[.int .i64 2, .int .i64 p, .int .u8 c, .int .i64 q, .int .i64 s] 46) (.cells #[.int .i64 1, .int .i64 p', .int .u8 c', .int .i64 q', .int .i64 s'] 46) (.cells #[.int .i64 0, .int .i64 0, .int .u8 0, .int .i64 0, .int .i64 0] 46) h0 t3
  have T4 := tb3 w (.cells #[.int .i64 2, .int .i64 p, .int .u8 c, .int .i64 q, .int .i64 s] 46) (.cells #[.int .i64 1, .int .i64 p', .int .u8 c', .int .i64 q', .int .i64 s'] 46) (.cells #[.int .i64 0, .int .i64 0, .int .u8 0, .int .i64 0, .int .i64 0] 46) h0 t4
  have T5 := tb3 w (.cells #[.int .i64 2, .int .i64 p, .int .u8 c, .int .i64 q, .int .i64 s] 46) (.cells #[.int .i64 1, .int .i64 p', .int .u8 c', .int .i64 q', .int .i64 s'] 46) (.cells #[.int .i64 0, .int .i64 0, .int .u8 0, .int .i64 0, .int .i64 0] 46) h0 t5
  have T6 := tb3 w (.cells #[.int .i64 2, .int .i64 p, .int .u8 c, .int .i64 q, .int .i64 s] 46) (.cells #[.int .i64 1, .int .i64 p', .int .u8 c', .int .i64 q', .int .i64 s'] 46) (.cells #[.int .i64 0, .int .i64 0, .int .u8 0, .int .i64 0, .int .i64 0] 46) h0 t6
  have T7 := tb3 w (.cells #[.int .i64 2, .int .i64 p, .int .u8 c, .int .i64 q, .int .i64 s] 46) (.cells #[.int .i64 1, .int .i64 p', .int .u8 c', .int .i64 q', .int .i64 s'] 46) (.cells #[.int .i64 0, .int .i64 0, .int .u8 0, .int .i64 0, .int .i64 0] 46) h0 t7
  have T8 := tb3 w (.cells #[.int .i64 2, .int .i64 p, .int .u8 c, .int .i64 q, .int .i64 s] 46) (.cells #[.int .i64 1, .int .i64 p', .int .u8 c', .int .i64 q', .int .i64 s'] 46) (.cells #[.int .i64 0, .int .i64 0, .int .u8 0, .int .i64 0, .int .i64 0] 46) h0 t8
  go_enter Tryz.func84, Tryz.ntmps84
  go_wp2_with fail
  go_quiet (first | (go_at_call_of 85 (Value.int .i64 2); exact Calls.quiet_of_same (row_is 2 2 _ rfl)) | (go_at_call_of 85 (Value.int .i64 1); exact Calls.quiet_of_same (row_is 1 1 _ rfl)))
  go_wp2_with fail
  refine (pushed_any ⟨2, p, c, q, s⟩ true _).mono ?_
  rintro e w1 ⟨rfl, b1⟩
  simp only [OpE.val]
  obtain ⟨c1, f1, b2⟩ := res_cell b1
  have B2 := hd b2
  have x0 := c1 0
  have x1 := c1 1
  have x2 := c1 2
  have x3 := c1 3
  have x4 := c1 4
  have y0 := f1 0
  have y1 := f1 1
  have y2 := f1 2
  have y3 := f1 3
  have y4 := f1 4
  simp at x0 x1 x2 x3 x4
  clear c1 f1 b1 b2
  go_wp2
  refine bodyPost_ret (v := .agg #[.int .i64 2, .int .i64 (wrap64 (p + 1)), .int .u8 c, .int .i64 q, .int .i64 s]) (by simp [results, Tryz.results84, go_sem, x0, x1, x2, x3, x4]) rfl ?_
  exact ⟨rfl, ((((B2.out.setCell (by simp; omega) _).setCell (by simp; omega) _).setCell (by simp; omega) _).setCell (by simp; omega) _).setCell (by simp; omega) _⟩

set_option maxHeartbeats 4000000 in
theorem sh_21g (p c q s p' c' q' s' : Int) (f : Bool) (w : World) (hT : Table w) (hl : decide (p' ≤ p) = false) : Calls Tryz.prog 84 #[.agg #[.int .i64 2, .int .i64 p, .int .u8 c, .int .i64 q, .int .i64 s], .agg #[.int .i64 1, .int .i64 p', .int .u8 c', .int .i64 q', .int .i64 s'], .bool f] w fun e w' =>
    e = .returned (.agg #[.int .i64 2, .int .i64 p, .int .u8 c, .int .i64 q, .int .i64 s]) ∧ Below w.heap.size w w' := by
  obtain ⟨h0, t0, t1, t2, t3, t4, t5, t6, t7, t8⟩ := hT
  have n1 : ¬ (1 = w.heap.size) := by omega
  have n2 : ¬ (1 = w.heap.size + 1) := by omega
  have n3 : ¬ (1 = w.heap.size + 1 + 1) := by omega
  have T0 := tb3 w (.cells #[.int .i64 2, .int .i64 p, .int .u8 c, .int .i64 q, .int .i64 s] 46) (.cells #[.int .i64 1, .int .i64 p', .int .u8 c', .int .i64 q', .int .i64 s'] 46) (.cells #[.int .i64 0, .int .i64 0, .int .u8 0, .int .i64 0, .int .i64 0] 46) h0 t0
  have T1 := tb3 w (.cells #[.int .i64 2, .int .i64 p, .int .u8 c, .int .i64 q, .int .i64 s] 46) (.cells #[.int .i64 1, .int .i64 p', .int .u8 c', .int .i64 q', .int .i64 s'] 46) (.cells #[.int .i64 0, .int .i64 0, .int .u8 0, .int .i64 0, .int .i64 0] 46) h0 t1
  have T2 := tb3 w (.cells #[.int .i64 2, .int .i64 p, .int .u8 c, .int .i64 q, .int .i64 s] 46) (.cells #[.int .i64 1, .int .i64 p', .int .u8 c', .int .i64 q', .int .i64 s'] 46) (.cells #[.int .i64 0, .int .i64 0, .int .u8 0, .int .i64 0, .int .i64 0] 46) h0 t2
  have T3 := tb3 w (.cells #[.int .i64 2, .int .i64 p, .int .u8 c, .int .i64 q, .int .i64 s] 46) (.cells #[.int .i64 1, .int .i64 p', .int .u8 c', .int .i64 q', .int .i64 s'] 46) (.cells #[.int .i64 0, .int .i64 0, .int .u8 0, .int .i64 0, .int .i64 0] 46) h0 t3
  have T4 := tb3 w (.cells #[.int .i64 2, .int .i64 p, .int .u8 c, .int .i64 q, .int .i64 s] 46) (.cells #[.int .i64 1, .int .i64 p', .int .u8 c', .int .i64 q', .int .i64 s'] 46) (.cells #[.int .i64 0, .int .i64 0, .int .u8 0, .int .i64 0, .int .i64 0] 46) h0 t4
  have T5 := tb3 w (.cells #[.int .i64 2, .int .i64 p, .int .u8 c, .int .i64 q, .int .i64 s] 46) (.cells #[.int .i64 1, .int .i64 p', .int .u8 c', .int .i64 q', .int .i64 s'] 46) (.cells #[.int .i64 0, .int .i64 0, .int .u8 0, .int .i64 0, .int .i64 0] 46) h0 t5
  have T6 := tb3 w (.cells #[.int .i64 2, .int .i64 p, .int .u8 c, .int .i64 q, .int .i64 s] 46) (.cells #[.int .i64 1, .int .i64 p', .int .u8 c', .int .i64 q', .int .i64 s'] 46) (.cells #[.int .i64 0, .int .i64 0, .int .u8 0, .int .i64 0, .int .i64 0] 46) h0 t6
  have T7 := tb3 w (.cells #[.int .i64 2, .int .i64 p, .int .u8 c, .int .i64 q, .int .i64 s] 46) (.cells #[.int .i64 1, .int .i64 p', .int .u8 c', .int .i64 q', .int .i64 s'] 46) (.cells #[.int .i64 0, .int .i64 0, .int .u8 0, .int .i64 0, .int .i64 0] 46) h0 t7
  have T8 := tb3 w (.cells #[.int .i64 2, .int .i64 p, .int .u8 c, .int .i64 q, .int .i64 s] 46) (.cells #[.int .i64 1, .int .i64 p', .int .u8 c', .int .i64 q', .int .i64 s'] 46) (.cells #[.int .i64 0, .int .i64 0, .int .u8 0, .int .i64 0, .int .i64 0] 46) h0 t8
  go_enter Tryz.func84, Tryz.ntmps84
  go_wp2_with fail
  go_quiet (first | (go_at_call_of 85 (Value.int .i64 2); exact Calls.quiet_of_same (row_is 2 2 _ rfl)) | (go_at_call_of 85 (Value.int .i64 1); exact Calls.quiet_of_same (row_is 1 1 _ rfl)))
  go_wp2_with fail
  refine (pushed_any ⟨2, p, c, q, s⟩ false _).mono ?_
  rintro e w1 ⟨rfl, b1⟩
  simp only [OpE.val]
  obtain ⟨c1, f1, b2⟩ := res_cell b1
  have B2 := hd b2
  have x0 := c1 0
  have x1 := c1 1
  have x2 := c1 2
  have x3 := c1 3
  have x4 := c1 4
  have y0 := f1 0
  have y1 := f1 1
  have y2 := f1 2
  have y3 := f1 3
  have y4 := f1 4
  simp at x0 x1 x2 x3 x4
  clear c1 f1 b1 b2
  go_wp2
  refine bodyPost_ret (v := .agg #[.int .i64 2, .int .i64 p, .int .u8 c, .int .i64 q, .int .i64 s]) (by simp [results, Tryz.results84, go_sem, x0, x1, x2, x3, x4]) rfl ?_
  exact ⟨rfl, ((((B2.out.setCell (by simp; omega) _).setCell (by simp; omega) _).setCell (by simp; omega) _).setCell (by simp; omega) _).setCell (by simp; omega) _⟩

set_option maxHeartbeats 4000000 in
theorem sh_22e (p c q s c' q' s' : Int) (f : Bool) (w : World) (hT : Table w) : Calls Tryz.prog 84 #[.agg #[.int .i64 2, .int .i64 p, .int .u8 c, .int .i64 q, .int .i64 s], .agg #[.int .i64 2, .int .i64 p, .int .u8 c', .int .i64 q', .int .i64 s'], .bool f] w fun e w' =>
    e = .returned (.agg #[.int .i64 0, .int .i64 0, .int .u8 0, .int .i64 q, .int .i64 s]) ∧ Below w.heap.size w w' := by
  obtain ⟨h0, t0, t1, t2, t3, t4, t5, t6, t7, t8⟩ := hT
  have n1 : ¬ (1 = w.heap.size) := by omega
  have n2 : ¬ (1 = w.heap.size + 1) := by omega
  have n3 : ¬ (1 = w.heap.size + 1 + 1) := by omega
  have T0 := tb3 w (.cells #[.int .i64 2, .int .i64 p, .int .u8 c, .int .i64 q, .int .i64 s] 46) (.cells #[.int .i64 2, .int .i64 p, .int .u8 c', .int .i64 q', .int .i64 s'] 46) (.cells #[.int .i64 0, .int .i64 0, .int .u8 0, .int .i64 0, .int .i64 0] 46) h0 t0
  have T1 := tb3 w (.cells #[.int .i64 2, .int .i64 p, .int .u8 c, .int .i64 q, .int .i64 s] 46) (.cells #[.int .i64 2, .int .i64 p, .int .u8 c', .int .i64 q', .int .i64 s'] 46) (.cells #[.int .i64 0, .int .i64 0, .int .u8 0, .int .i64 0, .int .i64 0] 46) h0 t1
  have T2 := tb3 w (.cells #[.int .i64 2, .int .i64 p, .int .u8 c, .int .i64 q, .int .i64 s] 46) (.cells #[.int .i64 2, .int .i64 p, .int .u8 c', .int .i64 q', .int .i64 s'] 46) (.cells #[.int .i64 0, .int .i64 0, .int .u8 0, .int .i64 0, .int .i64 0] 46) h0 t2
  have T3 := tb3 w (.cells #[.int .i64 2, .int .i64 p, .int .u8 c, .int .i64 q, .int .i64 s] 46) (.cells #[.int .i64 2, .int .i64 p, .int .u8 c', .int .i64 q', .int .i64 s'] 46) (.cells #[.int .i64 0, .int .i64 0, .int .u8 0, .int .i64 0, .int .i64 0] 46) h0 t3
  have T4 := tb3 w (.cells #[.int .i64 2, .int .i64 p, .int .u8 c, .int .i64 q, .int .i64 s] 46) (.cells #[.int .i64 2, .int .i64 p, .int .u8 c', .int .i64 q', .int .i64 s'] 46) (.cells #[.int .i64 0, .int .i64 0, .int .u8 0, .int .i64 0, .int .i64 0] 46) h0 t4
  have T5 := tb3 w (.cells #[.int .i64 2, .int .i64 p, .int .u8 c, .int .i64 q, .int .i64 s] 46) (.cells #[.int .i64 2, .int .i64 p, .int .u8 c', .int .i64 q', .int .i64 s'] 46) (.cells #[.int .i64 0, .int .i64 0, .int .u8 0, .int .i64 0, .int .i64 0] 46) h0 t5
  have T6 := tb3 w (.cells #[.int .i64 2, .int .i64 p, .int .u8 c, .int .i64 q, .int .i64 s] 46) (.cells #[.int .i64 2, .int .i64 p, .int .u8 c', .int .i64 q', .int .i64 s'] 46) (.cells #[.int .i64 0, .int .i64 0, .int .u8 0, .int .i64 0, .int .i64 0] 46) h0 t6
  have T7 := tb3 w (.cells #[.int .i64 2, .int .i64 p, .int .u8 c, .int .i64 q, .int .i64 s] 46) (.cells #[.int .i64 2, .int .i64 p, .int .u8 c', .int .i64 q', .int .i64 s'] 46) (.cells #[.int .i64 0, .int .i64 0, .int .u8 0, .int .i64 0, .int .i64 0] 46) h0 t7
  have T8 := tb3 w (.cells #[.int .i64 2, .int .i64 p, .int .u8 c, .int .i64 q, .int .i64 s] 46) (.cells #[.int .i64 2, .int .i64 p, .int .u8 c', .int .i64 q', .int .i64 s'] 46) (.cells #[.int .i64 0, .int .i64 0, .int .u8 0, .int .i64 0, .int .i64 0] 46) h0 t8
  go_enter Tryz.func84, Tryz.ntmps84
  go_wp2_with fail
  go_quiet (first | (go_at_call_of 85 (Value.int .i64 2); exact Calls.quiet_of_same (row_is 2 2 _ rfl)))
  go_wp2_with fail
  refine (nothing_any ⟨2, p, c, q, s⟩ _).mono ?_
  rintro e w1 ⟨rfl, b1⟩
  simp only [OpE.val]
  obtain ⟨c1, f1, b2⟩ := res_cell b1
  have B2 := hd b2
  have x0 := c1 0
  have x1 := c1 1
  have x2 := c1 2
  have x3 := c1 3
  have x4 := c1 4
  have y0 := f1 0
  have y1 := f1 1
  have y2 := f1 2
  have y3 := f1 3
  have y4 := f1 4
  simp at x0 x1 x2 x3 x4
  clear c1 f1 b1 b2
  go_wp2
  refine bodyPost_ret (v := .agg #[.int .i64 0, .int .i64 0, .int .u8 0, .int .i64 q, .int .i64 s]) (by simp [results, Tryz.results84, go_sem, x0, x1, x2, x3, x4]) rfl ?_
  exact ⟨rfl, ((((B2.out.setCell (by simp; omega) _).setCell (by simp; omega) _).setCell (by simp; omega) _).setCell (by simp; omega) _).setCell (by simp; omega) _⟩

set_option maxHeartbeats 4000000 in
theorem sh_22l (p c q s p' c' q' s' : Int) (f : Bool) (w : World) (hT : Table w) (hl : p' < p) (he : (p' == p) = false) : Calls Tryz.prog 84 #[.agg #[.int .i64 2, .int .i64 p, .int .u8 c, .int .i64 q, .int .i64 s], .agg #[.int .i64 2, .int .i64 p', .int .u8 c', .int .i64 q', .int .i64 s'], .bool f] w fun e w' =>
    e = .returned (.agg #[.int .i64 2, .int .i64 (wrap64 (p - 1)), .int .u8 c, .int .i64 q, .int .i64 s]) ∧ Below w.heap.size w w' := by
  obtain ⟨h0, t0, t1, t2, t3, t4, t5, t6, t7, t8⟩ := hT
  have n1 : ¬ (1 = w.heap.size) := by omega
  have n2 : ¬ (1 = w.heap.size + 1) := by omega
  have n3 : ¬ (1 = w.heap.size + 1 + 1) := by omega
  have T0 := tb3 w (.cells #[.int .i64 2, .int .i64 p, .int .u8 c, .int .i64 q, .int .i64 s] 46) (.cells #[.int .i64 2, .int .i64 p', .int .u8 c', .int .i64 q', .int .i64 s'] 46) (.cells #[.int .i64 0, .int .i64 0, .int .u8 0, .int .i64 0, .int .i64 0] 46) h0 t0
  have T1 := tb3 w (.cells #[.int .i64 2, .int .i64 p, .int .u8 c, .int .i64 q, .int .i64 s] 46) (.cells #[.int .i64 2, .int .i64 p', .int .u8 c', .int .i64 q', .int .i64 s'] 46) (.cells #[.int .i64 0, .int .i64 0, .int .u8 0, .int .i64 0, .int .i64 0] 46) h0 t1
  have T2 := tb3 w (.cells #[.int .i64 2, .int .i64 p, .int .u8 c, .int .i64 q, .int .i64 s] 46) (.cells #[.int .i64 2, .int .i64 p', .int .u8 c', .int .i64 q', .int .i64 s'] 46) (.cells #[.int .i64 0, .int .i64 0, .int .u8 0, .int .i64 0, .int .i64 0] 46) h0 t2
  have T3 := tb3 w (.cells #[.int .i64 2, .int .i64 p, .int .u8 c, .int .i64 q, .int .i64 s] 46) (.cells #[.int .i64 2, .int .i64 p', .int .u8 c', .int .i64 q', .int .i64 s'] 46) (.cells #[.int .i64 0, .int .i64 0, .int .u8 0, .int .i64 0, .int .i64 0] 46) h0 t3
  have T4 := tb3 w (.cells #[.int .i64 2, .int .i64 p, .int .u8 c, .int .i64 q, .int .i64 s] 46) (.cells #[.int .i64 2, .int .i64 p', .int .u8 c', .int .i64 q', .int .i64 s'] 46) (.cells #[.int .i64 0, .int .i64 0, .int .u8 0, .int .i64 0, .int .i64 0] 46) h0 t4
  have T5 := tb3 w (.cells #[.int .i64 2, .int .i64 p, .int .u8 c, .int .i64 q, .int .i64 s] 46) (.cells #[.int .i64 2, .int .i64 p', .int .u8 c', .int .i64 q', .int .i64 s'] 46) (.cells #[.int .i64 0, .int .i64 0, .int .u8 0, .int .i64 0, .int .i64 0] 46) h0 t5
  have T6 := tb3 w (.cells #[.int .i64 2, .int .i64 p, .int .u8 c, .int .i64 q, .int .i64 s] 46) (.cells #[.int .i64 2, .int .i64 p', .int .u8 c', .int .i64 q', .int .i64 s'] 46) (.cells #[.int .i64 0, .int .i64 0, .int .u8 0, .int .i64 0, .int .i64 0] 46) h0 t6
  have T7 := tb3 w (.cells #[.int .i64 2, .int .i64 p, .int .u8 c, .int .i64 q, .int .i64 s] 46) (.cells #[.int .i64 2, .int .i64 p', .int .u8 c', .int .i64 q', .int .i64 s'] 46) (.cells #[.int .i64 0, .int .i64 0, .int .u8 0, .int .i64 0, .int .i64 0] 46) h0 t7
  have T8 := tb3 w (.cells #[.int .i64 2, .int .i64 p, .int .u8 c, .int .i64 q, .int .i64 s] 46) (.cells #[.int .i64 2, .int .i64 p', .int .u8 c', .int .i64 q', .int .i64 s'] 46) (.cells #[.int .i64 0, .int .i64 0, .int .u8 0, .int .i64 0, .int .i64 0] 46) h0 t8
  go_enter Tryz.func84, Tryz.ntmps84
  go_wp2_with fail
  go_quiet (first | (go_at_call_of 85 (Value.int .i64 2); exact Calls.quiet_of_same (row_is 2 2 _ rfl)))
  go_wp2_with fail
  refine (pulled_any ⟨2, p, c, q, s⟩ true _).mono ?_
  rintro e w1 ⟨rfl, b1⟩
  simp only [OpE.val]
  obtain ⟨c1, f1, b2⟩ := res_cell b1
  have B2 := hd b2
  have x0 := c1 0
  have x1 := c1 1
  have x2 := c1 2
  have x3 := c1 3
  have x4 := c1 4
  have y0 := f1 0
  have y1 := f1 1
  have y2 := f1 2
  have y3 := f1 3
  have y4 := f1 4
  simp at x0 x1 x2 x3 x4
  clear c1 f1 b1 b2
  go_wp2
  refine bodyPost_ret (v := .agg #[.int .i64 2, .int .i64 (wrap64 (p - 1)), .int .u8 c, .int .i64 q, .int .i64 s]) (by simp [results, Tryz.results84, go_sem, x0, x1, x2, x3, x4]) rfl ?_
  exact ⟨rfl, ((((B2.out.setCell (by simp; omega) _).setCell (by simp; omega) _).setCell (by simp; omega) _).setCell (by simp; omega) _).setCell (by simp; omega) _⟩

set_option maxHeartbeats 4000000 in
theorem sh_22g (p c q s p' c' q' s' : Int) (f : Bool) (w : World) (hT : Table w) (hl : decide (p' < p) = false) (he : (p' == p) = false) : Calls Tryz.prog 84 #[.agg #[.int .i64 2, .int .i64 p, .int .u8 c, .int .i64 q, .int .i64 s], .agg #[.int .i64 2, .int .i64 p', .int .u8 c', .int .i64 q', .int .i64 s'], .bool f] w fun e w' =>
    e = .returned (.agg #[.int .i64 2, .int .i64 p, .int .u8 c, .int .i64 q, .int .i64 s]) ∧ Below w.heap.size w w' := by
  obtain ⟨h0, t0, t1, t2, t3, t4, t5, t6, t7, t8⟩ := hT
  have n1 : ¬ (1 = w.heap.size) := by omega
  have n2 : ¬ (1 = w.heap.size + 1) := by omega
  have n3 : ¬ (1 = w.heap.size + 1 + 1) := by omega
  have T0 := tb3 w (.cells #[.int .i64 2, .int .i64 p, .int .u8 c, .int .i64 q, .int .i64 s] 46) (.cells #[.int .i64 2, .int .i64 p', .int .u8 c', .int .i64 q', .int .i64 s'] 46) (.cells #[.int .i64 0, .int .i64 0, .int .u8 0, .int .i64 0, .int .i64 0] 46) h0 t0
  have T1 := tb3 w (.cells #[.int .i64 2, .int .i64 p, .int .u8 c, .int .i64 q, .int .i64 s] 46) (.cells #[.int .i64 2, .int .i64 p', .int .u8 c', .int .i64 q', .int .i64 s'] 46) (.cells #[.int .i64 0, .int .i64 0, .int .u8 0, .int .i64 0, .int .i64 0] 46) h0 t1
  have T2 := tb3 w (.cells #[.int .i64 2, .int .i64 p, .int .u8 c, .int .i64 q, .int .i64 s] 46) (.cells #[.int .i64 2, .int .i64 p', .int .u8 c', .int .i64 q', .int .i64 s'] 46) (.cells #[.int .i64 0, .int .i64 0, .int .u8 0, .int .i64 0, .int .i64 0] 46) h0 t2
  have T3 := tb3 w (.cells #[.int .i64 2, .int .i64 p, .int .u8 c, .int .i64 q, .int .i64 s] 46) (.cells #[.int .i64 2, .int .i64 p', .int .u8 c', .int .i64 q', .int .i64 s'] 46) (.cells #[.int .i64 0, .int .i64 0, .int .u8 0, .int .i64 0, .int .i64 0] 46) h0 t3
  have T4 := tb3 w (.cells #[.int .i64 2, .int .i64 p, .int .u8 c, .int .i64 q, .int .i64 s] 46) (.cells #[.int .i64 2, .int .i64 p', .int .u8 c', .int .i64 q', .int .i64 s'] 46) (.cells #[.int .i64 0, .int .i64 0, .int .u8 0, .int .i64 0, .int .i64 0] 46) h0 t4
  have T5 := tb3 w (.cells #[.int .i64 2, .int .i64 p, .int .u8 c, .int .i64 q, .int .i64 s] 46) (.cells #[.int .i64 2, .int .i64 p', .int .u8 c', .int .i64 q', .int .i64 s'] 46) (.cells #[.int .i64 0, .int .i64 0, .int .u8 0, .int .i64 0, .int .i64 0] 46) h0 t5
  have T6 := tb3 w (.cells #[.int .i64 2, .int .i64 p, .int .u8 c, .int .i64 q, .int .i64 s] 46) (.cells #[.int .i64 2, .int .i64 p', .int .u8 c', .int .i64 q', .int .i64 s'] 46) (.cells #[.int .i64 0, .int .i64 0, .int .u8 0, .int .i64 0, .int .i64 0] 46) h0 t6
  have T7 := tb3 w (.cells #[.int .i64 2, .int .i64 p, .int .u8 c, .int .i64 q, .int .i64 s] 46) (.cells #[.int .i64 2, .int .i64 p', .int .u8 c', .int .i64 q', .int .i64 s'] 46) (.cells #[.int .i64 0, .int .i64 0, .int .u8 0, .int .i64 0, .int .i64 0] 46) h0 t7
  have T8 := tb3 w (.cells #[.int .i64 2, .int .i64 p, .int .u8 c, .int .i64 q, .int .i64 s] 46) (.cells #[.int .i64 2, .int .i64 p', .int .u8 c', .int .i64 q', .int .i64 s'] 46) (.cells #[.int .i64 0, .int .i64 0, .int .u8 0, .int .i64 0, .int .i64 0] 46) h0 t8
  go_enter Tryz.func84, Tryz.ntmps84
  go_wp2_with fail
  go_quiet (first | (go_at_call_of 85 (Value.int .i64 2); exact Calls.quiet_of_same (row_is 2 2 _ rfl)))
  go_wp2_with fail
  refine (pulled_any ⟨2, p, c, q, s⟩ false _).mono ?_
  rintro e w1 ⟨rfl, b1⟩
  simp only [OpE.val]
  obtain ⟨c1, f1, b2⟩ := res_cell b1
  have B2 := hd b2
  have x0 := c1 0
  have x1 := c1 1
  have x2 := c1 2
  have x3 := c1 3
  have x4 := c1 4
  have y0 := f1 0
  have y1 := f1 1
  have y2 := f1 2
  have y3 := f1 3
  have y4 := f1 4
  simp at x0 x1 x2 x3 x4
  clear c1 f1 b1 b2
  go_wp2
  refine bodyPost_ret (v := .agg #[.int .i64 2, .int .i64 p, .int .u8 c, .int .i64 q, .int .i64 s]) (by simp [results, Tryz.results84, go_sem, x0, x1, x2, x3, x4]) rfl ?_
  exact ⟨rfl, ((((B2.out.setCell (by simp; omega) _).setCell (by simp; omega) _).setCell (by simp; omega) _).setCell (by simp; omega) _).setCell (by simp; omega) _⟩

theorem rowP_zero {k : Int} (h : rowP k = 0) : ¬ (k = 1 ∨ k = 2) := by
  unfold rowP at h
  split at h
  · omega
  · split at h
    · omega
    · omega
theorem rowP_cases (k : Int) : k = 1 ∨ k = 2 ∨ rowP k = 0 := by
  unfold rowP
  by_cases h1 : k = 1
  · exact .inl h1
  · by_cases h2 : k = 2
    · exact .inr (.inl h2)
    · exact .inr (.inr (by rw [if_neg h1, if_neg h2]))

theorem shiftP_none {a b : OpE} {f : Bool} (h : ¬ ((a.kind = 1 ∨ a.kind = 2) ∧ (b.kind = 1 ∨ b.kind = 2))) : shiftP a b f = a := by
  unfold shiftP
  rw [if_pos h]

theorem shift_any (a b : OpE) (f : Bool) (w : World) (hT : Table w) : Calls Tryz.prog 84 #[a.val, b.val, .bool f] w fun e w' =>
    e = .returned (shiftP a b f).val ∧ Below w.heap.size w w' := by
  obtain ⟨k, p, c, q, s⟩ := a
  obtain ⟨k', p', c', q', s'⟩ := b
  rcases rowP_cases k with rfl | rfl | hk
  · rcases rowP_cases k' with rfl | rfl | hk'
    · by_cases hl : p' < p
      · rw [show shiftP ⟨1, p, c, q, s⟩ ⟨1, p', c', q', s'⟩ f = ⟨1, wrap64 (p + 1), c, q, s⟩ from by simp [shiftP, hl]]
        exact sh_11l _ _ _ _ _ _ _ _ _ w hT hl
      · by_cases he : p' = p
        · subst he
          cases f
          · rw [show shiftP ⟨1, p', c, q, s⟩ ⟨1, p', c', q', s'⟩ false = ⟨1, wrap64 (p' + 1), c, q, s⟩ from by simp [shiftP]]
            exact sh_11ef _ _ _ _ _ _ _ w hT
          · rw [show shiftP ⟨1, p', c, q, s⟩ ⟨1, p', c', q', s'⟩ true = ⟨1, p', c, q, s⟩ from by simp [shiftP]]
            exact sh_11et _ _ _ _ _ _ _ w hT
        · rw [show shiftP ⟨1, p, c, q, s⟩ ⟨1, p', c', q', s'⟩ f = ⟨1, p, c, q, s⟩ from by simp [shiftP, hl, he]]
          exact sh_11g _ _ _ _ _ _ _ _ _ w hT (by simpa using hl) (by simpa using he)
    · by_cases hl : p' < p
      · rw [show shiftP ⟨1, p, c, q, s⟩ ⟨2, p', c', q', s'⟩ f = ⟨1, wrap64 (p - 1), c, q, s⟩ from by simp [shiftP, hl]]
        exact sh_12l _ _ _ _ _ _ _ _ _ w hT hl
      · rw [show shiftP ⟨1, p, c, q, s⟩ ⟨2, p', c', q', s'⟩ f = ⟨1, p, c, q, s⟩ from by simp [shiftP, hl]]
        exact sh_12g _ _ _ _ _ _ _ _ _ w hT (by simpa using hl)
    · rw [shiftP_none (by have := rowP_zero hk'; simp only; omega)]
      exact sh_1n k' _ _ _ _ _ _ _ _ _ w hT hk'
  · rcases rowP_cases k' with rfl | rfl | hk'
    · by_cases hl : p' ≤ p
      · rw [show shiftP ⟨2, p, c, q, s⟩ ⟨1, p', c', q', s'⟩ f = ⟨2, wrap64 (p + 1), c, q, s⟩ from by
          unfold shiftP; rw [if_neg (by simp), if_neg (by simp), if_pos (by simp; omega)]; simp]
        exact sh_21l _ _ _ _ _ _ _ _ _ w hT hl
      · rw [show shiftP ⟨2, p, c, q, s⟩ ⟨1, p', c', q', s'⟩ f = ⟨2, p, c, q, s⟩ from by
          unfold shiftP; rw [if_neg (by simp), if_neg (by simp), if_neg (by simp; omega)]]
        exact sh_21g _ _ _ _ _ _ _ _ _ w hT (by simpa using hl)
    · by_cases he : p' = p
      · subst he
        rw [show shiftP ⟨2, p', c, q, s⟩ ⟨2, p', c', q', s'⟩ f = ⟨0, 0, 0, q, s⟩ from by simp [shiftP]]
        exact sh_22e _ _ _ _ _ _ _ _ w hT
      · have he' : ¬ p = p' := fun h => he h.symm
        by_cases hl : p' < p
        · rw [show shiftP ⟨2, p, c, q, s⟩ ⟨2, p', c', q', s'⟩ f = ⟨2, wrap64 (p - 1), c, q, s⟩ from by simp [shiftP, hl, he']]
          exact sh_22l _ _ _ _ _ _ _ _ _ w hT hl (by simpa using he)
        · rw [show shiftP ⟨2, p, c, q, s⟩ ⟨2, p', c', q', s'⟩ f = ⟨2, p, c, q, s⟩ from by simp [shiftP, hl, he']]
          exact sh_22g _ _ _ _ _ _ _ _ _ w hT (by simpa using hl) (by simpa using he)
    · rw [shiftP_none (by have := rowP_zero hk'; simp only; omega)]
      exact sh_2n k' _ _ _ _ _ _ _ _ _ w hT hk'
  · rw [shiftP_none (by have := rowP_zero hk; simp only; omega)]
    rcases rowP_cases k' with rfl | rfl | hk'
    · exact sh_n1 k _ _ _ _ _ _ _ _ _ w hT hk
    · exact sh_n2 k _ _ _ _ _ _ _ _ _ w hT hk
    · exact sh_nn k k' _ _ _ _ _ _ _ _ _ w hT hk hk'

end Go.Proofs.YtilidolbplglcaaGreatDoor
