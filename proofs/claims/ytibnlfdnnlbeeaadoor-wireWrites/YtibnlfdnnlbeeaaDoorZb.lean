/-
  The answer of the document: asMsg, among.
-/
import Derived.Test.YtibnlfdnnlbeeaaDoorZa
namespace Go.Proofs.YtibnlfdnnlbeeaaDoor
open Go.RowKit
set_option linter.unusedVariables false

set_option maxRecDepth 100000 in
set_option maxHeartbeats 4000000 in
theorem asMsg_any (x : It) (w : World) : Calls Tryd.prog 26 #[x.val] w fun e w' => e = .returned (.agg #[.int .i64 ((MI x) 0), .int .i64 ((MI x) 1), .int .i64 ((MI x) 2), .int .i64 ((MI x) 3), .int .i64 ((MI x) 4), .int .i64 ((MI x) 5), .int .i64 ((MI x) 6), .int .i64 ((MI x) 7), .int .i64 ((MI x) 8), .int .i64 ((MI x) 9), .int .i64 ((MI x) 10), .int .u8 ((MI x) 11), .int .i64 ((MI x) 12), .int .i64 ((MI x) 13)]) ∧ Below w.heap.size w w' := by
  obtain ⟨k, ep, tg, ok, ps, ch, cl, sq⟩ := x
  show Calls Tryd.prog 26 #[.agg #[.int .i64 k, .int .i64 ep, .int .i64 tg, .int .i64 ok, .int .i64 ps, .int .u8 ch, .int .i64 cl, .int .i64 sq]] w fun e w' => e = .returned (.agg #[.int .i64 5, .int .i64 ep, .int .i64 0, .int .i64 0, .int .i64 0, .int .i64 0, .int .i64 0, .int .i64 0, .int .i64 tg, .int .i64 ok, .int .i64 ps, .int .u8 ch, .int .i64 cl, .int .i64 sq]) ∧ Below w.heap.size w w'
  have X2 : ((w.alloc (.cells #[.int .i64 k, .int .i64 ep, .int .i64 tg, .int .i64 ok, .int .i64 ps, .int .u8 ch, .int .i64 cl, .int .i64 sq] 26)).alloc (.cells #[.int .i64 5, .int .i64 ep, .int .i64 0, .int .i64 0, .int .i64 0, .int .i64 0, .int .i64 0, .int .i64 0, .int .i64 tg, .int .i64 ok, .int .i64 ps, .int .u8 ch, .int .i64 cl, .int .i64 sq] 63)).heap[w.heap.size + 1]? = some (.cells #[.int .i64 5, .int .i64 ep, .int .i64 0, .int .i64 0, .int .i64 0, .int .i64 0, .int .i64 0, .int .i64 0, .int .i64 tg, .int .i64 ok, .int .i64 ps, .int .u8 ch, .int .i64 cl, .int .i64 sq] 63 (0, 0)) := by
    have := heap_alloc_new (w.alloc (.cells #[.int .i64 k, .int .i64 ep, .int .i64 tg, .int .i64 ok, .int .i64 ps, .int .u8 ch, .int .i64 cl, .int .i64 sq] 26)) (.cells #[.int .i64 5, .int .i64 ep, .int .i64 0, .int .i64 0, .int .i64 0, .int .i64 0, .int .i64 0, .int .i64 0, .int .i64 tg, .int .i64 ok, .int .i64 ps, .int .u8 ch, .int .i64 cl, .int .i64 sq] 63)
    rw [World.size_alloc] at this
    exact this
  have Z : Hid (Below w.heap.size w ((w.alloc (.cells #[.int .i64 k, .int .i64 ep, .int .i64 tg, .int .i64 ok, .int .i64 ps, .int .u8 ch, .int .i64 cl, .int .i64 sq] 26)).alloc (.cells #[.int .i64 5, .int .i64 ep, .int .i64 0, .int .i64 0, .int .i64 0, .int .i64 0, .int .i64 0, .int .i64 0, .int .i64 tg, .int .i64 ok, .int .i64 ps, .int .u8 ch, .int .i64 cl, .int .i64 sq] 63))) := hd (((Below.refl _ _).alloc (Nat.le_refl _) _).alloc (by simp) _)
  have HX := hd X2
  clear X2
  go_enter Tryd.func26, Tryd.ntmps26
  go_wp2_with fail
  have X2 := HX.out
  generalize (w.alloc (.cells #[.int .i64 k, .int .i64 ep, .int .i64 tg, .int .i64 ok, .int .i64 ps, .int .u8 ch, .int .i64 cl, .int .i64 sq] 26)).alloc (.cells #[.int .i64 5, .int .i64 ep, .int .i64 0, .int .i64 0, .int .i64 0, .int .i64 0, .int .i64 0, .int .i64 0, .int .i64 tg, .int .i64 ok, .int .i64 ps, .int .u8 ch, .int .i64 cl, .int .i64 sq] 63) = w2 at *
  have z0 := cell_row X2 0
  simp at z0
  have z1 := cell_row X2 1
  simp at z1
  have z2 := cell_row X2 2
  simp at z2
  have z3 := cell_row X2 3
  simp at z3
  have z4 := cell_row X2 4
  simp at z4
  have z5 := cell_row X2 5
  simp at z5
  have z6 := cell_row X2 6
  simp at z6
  have z7 := cell_row X2 7
  simp at z7
  have z8 := cell_row X2 8
  simp at z8
  have z9 := cell_row X2 9
  simp at z9
  have z10 := cell_row X2 10
  simp at z10
  have z11 := cell_row X2 11
  simp at z11
  have z12 := cell_row X2 12
  simp at z12
  have z13 := cell_row X2 13
  simp at z13
  refine bodyPost_ret (v := .agg #[.int .i64 5, .int .i64 ep, .int .i64 0, .int .i64 0, .int .i64 0, .int .i64 0, .int .i64 0, .int .i64 0, .int .i64 tg, .int .i64 ok, .int .i64 ps, .int .u8 ch, .int .i64 cl, .int .i64 sq]) (by simp [results, Tryd.results26, go_sem, z0, z1, z2, z3, z4, z5, z6, z7, z8, z9, z10, z11, z12, z13]) rfl ?_
  exact ⟨rfl, Z.out⟩

end Go.Proofs.YtibnlfdnnlbeeaaDoor
