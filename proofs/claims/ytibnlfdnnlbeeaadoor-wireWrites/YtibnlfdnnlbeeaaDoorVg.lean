/-
  wire.ofItem.
-/
import Derived.Test.YtibnlfdnnlbeeaaDoorVf
import Derived.Test.YtibnlfdnnlbeeaaDoorVw
import Derived.Deep.RegionWith
namespace Go.Proofs.YtibnlfdnnlbeeaaDoor
open Go.RowKit
set_option linter.unusedVariables false

set_option maxHeartbeats 2000000 in
theorem ofItem_any (x : It) (w : World) (hc : 0 ≤ x.ch ∧ x.ch ≤ 255) :
    Calls Tryd.prog 21 #[.agg #[.int .i64 x.kind, .int .i64 x.epoch, .int .i64 x.tag, .int .i64 x.ok, .int .i64 x.pos, .int .u8 x.ch, .int .i64 x.cl, .int .i64 x.sq]] w fun e w' => e = .returned (.agg #[.int .i64 ((VX x) 0), .int .i64 ((VX x) 1), .int .i64 ((VX x) 2), .int .i64 ((VX x) 3), .int .i64 ((VX x) 4), .int .i64 ((VX x) 5), .int .i64 ((VX x) 6), .int .i64 ((VX x) 7), .int .i64 ((VX x) 8), .int .i64 ((VX x) 9), .int .i64 ((VX x) 10), .int .i64 ((VX x) 11), .int .i64 ((VX x) 12), .int .i64 ((VX x) 13)]) ∧ Below w.heap.size w w' := by
  have C : Hid (∀ W : World, Calls Tryd.prog 39 #[.agg #[.int .i64 x.kind, .int .i64 x.epoch, .int .i64 0, .int .i64 0, .int .i64 0, .int .i64 0, .int .i64 0, .int .i64 0, .int .i64 x.tag, .int .i64 0, .int .i64 0, .int .i64 0, .int .i64 0, .int .i64 0], .agg #[.int .i64 x.ok, .int .i64 x.pos, .int .u8 x.ch, .int .i64 x.cl, .int .i64 x.sq]] W fun e w' => e = .returned (.agg #[.int .i64 ((VX x) 0), .int .i64 ((VX x) 1), .int .i64 ((VX x) 2), .int .i64 ((VX x) 3), .int .i64 ((VX x) 4), .int .i64 ((VX x) 5), .int .i64 ((VX x) 6), .int .i64 ((VX x) 7), .int .i64 ((VX x) 8), .int .i64 ((VX x) 9), .int .i64 ((VX x) 10), .int .i64 ((VX x) 11), .int .i64 ((VX x) 12), .int .i64 ((VX x) 13)]) ∧ Below W.heap.size W w') :=
    fun W => with_any (fun f => if f = 0 then x.kind else if f = 1 then x.epoch else if f = 8 then x.tag else 0) x.ok x.pos x.ch x.cl x.sq W hc
  have hv : VB (((w.alloc (.cells #[.int .i64 x.kind, .int .i64 x.epoch, .int .i64 x.tag, .int .i64 x.ok, .int .i64 x.pos, .int .u8 x.ch, .int .i64 x.cl, .int .i64 x.sq] 26)).alloc (.cells #[.int .i64 0, .int .i64 0, .int .i64 0, .int .i64 0, .int .i64 0, .int .i64 0, .int .i64 0, .int .i64 0, .int .i64 0, .int .i64 0, .int .i64 0, .int .i64 0, .int .i64 0, .int .i64 0] 52)).alloc (.cells #[.int .i64 x.kind, .int .i64 x.epoch, .int .i64 0, .int .i64 0, .int .i64 0, .int .i64 0, .int .i64 0, .int .i64 0, .int .i64 x.tag, .int .i64 0, .int .i64 0, .int .i64 0, .int .i64 0, .int .i64 0] 52)) (w.heap.size + 1) (fun _ => 0) := by
    refine (heap_alloc_old _ _ (by simp)).trans ?_
    have := heap_alloc_new (w.alloc (.cells #[.int .i64 x.kind, .int .i64 x.epoch, .int .i64 x.tag, .int .i64 x.ok, .int .i64 x.pos, .int .u8 x.ch, .int .i64 x.cl, .int .i64 x.sq] 26)) (.cells #[.int .i64 0, .int .i64 0, .int .i64 0, .int .i64 0, .int .i64 0, .int .i64 0, .int .i64 0, .int .i64 0, .int .i64 0, .int .i64 0, .int .i64 0, .int .i64 0, .int .i64 0, .int .i64 0] 52)
    rwa [World.size_alloc] at this
  have bz : Below w.heap.size w (((w.alloc (.cells #[.int .i64 x.kind, .int .i64 x.epoch, .int .i64 x.tag, .int .i64 x.ok, .int .i64 x.pos, .int .u8 x.ch, .int .i64 x.cl, .int .i64 x.sq] 26)).alloc (.cells #[.int .i64 0, .int .i64 0, .int .i64 0, .int .i64 0, .int .i64 0, .int .i64 0, .int .i64 0, .int .i64 0, .int .i64 0, .int .i64 0, .int .i64 0, .int .i64 0, .int .i64 0, .int .i64 0] 52)).alloc (.cells #[.int .i64 x.kind, .int .i64 x.epoch, .int .i64 0, .int .i64 0, .int .i64 0, .int .i64 0, .int .i64 0, .int .i64 0, .int .i64 x.tag, .int .i64 0, .int .i64 0, .int .i64 0, .int .i64 0, .int .i64 0] 52)) := (((Below.refl _ _).alloc (Nat.le_refl _) _).alloc (by simp) _).alloc (by simp; omega) _
  have HV := hd hv
  have BZ := hd bz
  clear hv bz
  go_enter Tryd.func21, Tryd.ntmps21
  go_wp2_with fail
  generalize ((w.alloc (.cells #[.int .i64 x.kind, .int .i64 x.epoch, .int .i64 x.tag, .int .i64 x.ok, .int .i64 x.pos, .int .u8 x.ch, .int .i64 x.cl, .int .i64 x.sq] 26)).alloc (.cells #[.int .i64 0, .int .i64 0, .int .i64 0, .int .i64 0, .int .i64 0, .int .i64 0, .int .i64 0, .int .i64 0, .int .i64 0, .int .i64 0, .int .i64 0, .int .i64 0, .int .i64 0, .int .i64 0] 52)).alloc (.cells #[.int .i64 x.kind, .int .i64 x.epoch, .int .i64 0, .int .i64 0, .int .i64 0, .int .i64 0, .int .i64 0, .int .i64 0, .int .i64 x.tag, .int .i64 0, .int .i64 0, .int .i64 0, .int .i64 0, .int .i64 0] 52) = w0 at *
  refine (C.out _).mono ?_
  rintro e w1 ⟨rfl, b1⟩
  have hv1 := HV.out.below b1
  have c0 := hv1.at 0 (by omega)
  have g0 := hv1.frozen 0
  have c1 := hv1.at 1 (by omega)
  have g1 := hv1.frozen 1
  have c2 := hv1.at 2 (by omega)
  have g2 := hv1.frozen 2
  have c3 := hv1.at 3 (by omega)
  have g3 := hv1.frozen 3
  have c4 := hv1.at 4 (by omega)
  have g4 := hv1.frozen 4
  have c5 := hv1.at 5 (by omega)
  have g5 := hv1.frozen 5
  have c6 := hv1.at 6 (by omega)
  have g6 := hv1.frozen 6
  have c7 := hv1.at 7 (by omega)
  have g7 := hv1.frozen 7
  have c8 := hv1.at 8 (by omega)
  have g8 := hv1.frozen 8
  have c9 := hv1.at 9 (by omega)
  have g9 := hv1.frozen 9
  have c10 := hv1.at 10 (by omega)
  have g10 := hv1.frozen 10
  have c11 := hv1.at 11 (by omega)
  have g11 := hv1.frozen 11
  have c12 := hv1.at 12 (by omega)
  have g12 := hv1.frozen 12
  have c13 := hv1.at 13 (by omega)
  have g13 := hv1.frozen 13
  obtain ⟨A1, A2⟩ := hv1.all (VX x)
  have q0 := A1.at 0 (by omega)
  have q1 := A1.at 1 (by omega)
  have q2 := A1.at 2 (by omega)
  have q3 := A1.at 3 (by omega)
  have q4 := A1.at 4 (by omega)
  have q5 := A1.at 5 (by omega)
  have q6 := A1.at 6 (by omega)
  have q7 := A1.at 7 (by omega)
  have q8 := A1.at 8 (by omega)
  have q9 := A1.at 9 (by omega)
  have q10 := A1.at 10 (by omega)
  have q11 := A1.at 11 (by omega)
  have q12 := A1.at 12 (by omega)
  have q13 := A1.at 13 (by omega)
  have R : Hid (Below w.heap.size w ((((((((((((((w1.setCell ⟨w.heap.size + 1, 0, none⟩ (.int .i64 ((VX x) 0))).setCell ⟨w.heap.size + 1, 1, none⟩ (.int .i64 ((VX x) 1))).setCell ⟨w.heap.size + 1, 2, none⟩ (.int .i64 ((VX x) 2))).setCell ⟨w.heap.size + 1, 3, none⟩ (.int .i64 ((VX x) 3))).setCell ⟨w.heap.size + 1, 4, none⟩ (.int .i64 ((VX x) 4))).setCell ⟨w.heap.size + 1, 5, none⟩ (.int .i64 ((VX x) 5))).setCell ⟨w.heap.size + 1, 6, none⟩ (.int .i64 ((VX x) 6))).setCell ⟨w.heap.size + 1, 7, none⟩ (.int .i64 ((VX x) 7))).setCell ⟨w.heap.size + 1, 8, none⟩ (.int .i64 ((VX x) 8))).setCell ⟨w.heap.size + 1, 9, none⟩ (.int .i64 ((VX x) 9))).setCell ⟨w.heap.size + 1, 10, none⟩ (.int .i64 ((VX x) 10))).setCell ⟨w.heap.size + 1, 11, none⟩ (.int .i64 ((VX x) 11))).setCell ⟨w.heap.size + 1, 12, none⟩ (.int .i64 ((VX x) 12))).setCell ⟨w.heap.size + 1, 13, none⟩ (.int .i64 ((VX x) 13)))) := (BZ.out.trans (b1.mono BZ.out.size)).trans (A2.below (Nat.le_trans BZ.out.size b1.size) (by omega))
  clear hv1 A1 A2 b1
  generalize hVX : VX x = V at *
  have HVX := hd hVX
  clear hVX
  go_wp2
  refine bodyPost_ret (v := .agg #[.int .i64 (V 0), .int .i64 (V 1), .int .i64 (V 2), .int .i64 (V 3), .int .i64 (V 4), .int .i64 (V 5), .int .i64 (V 6), .int .i64 (V 7), .int .i64 (V 8), .int .i64 (V 9), .int .i64 (V 10), .int .i64 (V 11), .int .i64 (V 12), .int .i64 (V 13)]) (by simp [results, Tryd.results21, go_sem, q0, q1, q2, q3, q4, q5, q6, q7, q8, q9, q10, q11, q12, q13]) rfl ?_
  exact ⟨by rw [HVX.out], R.out⟩

end Go.Proofs.YtibnlfdnnlbeeaaDoor
