/-
  values.item.
-/
import Derived.Test.YtibnlfdnnlbeeaaDoorVf
import Derived.Deep.RegionHeld3
namespace Go.Proofs.YtibnlfdnnlbeeaaDoor
open Go.RowKit
set_option linter.unusedVariables false

theorem VB.range {w : World} {vb : Nat} {V : Nat → Int} (h : VB w vb V) : w.rangeAt vb 0 [.int .i64 (V 0), .int .i64 (V 1), .int .i64 (V 2), .int .i64 (V 3), .int .i64 (V 4), .int .i64 (V 5), .int .i64 (V 6), .int .i64 (V 7), .int .i64 (V 8), .int .i64 (V 9), .int .i64 (V 10), .int .i64 (V 11), .int .i64 (V 12), .int .i64 (V 13)] := fun j v hj => by
  rw [Nat.zero_add, cell_row h]
  simpa using hj

theorem item_set {w : World} {b : Nat} {V : Nat → Int} (h : w.heap[b]? = some (.cells #[.int .i64 0, .int .i64 0, .int .i64 0, .int .i64 0, .int .i64 0, .int .u8 0, .int .i64 0, .int .i64 0] 26 (0, 0))) :
    ((((((((w.setCell ⟨b, 0, none⟩ (.int .i64 (V 0))).setCell ⟨b, 1, none⟩ (.int .i64 (V 1))).setCell ⟨b, 2, none⟩ (.int .i64 (V 8))).setCell ⟨b, 3, none⟩ (.int .i64 (V 9))).setCell ⟨b, 4, none⟩ (.int .i64 (V 10))).setCell ⟨b, 5, none⟩ (.int .u8 (V 11))).setCell ⟨b, 6, none⟩ (.int .i64 (V 12))).setCell ⟨b, 7, none⟩ (.int .i64 (V 13))).heap[b]? = some (.cells #[.int .i64 (V 0), .int .i64 (V 1), .int .i64 (V 8), .int .i64 (V 9), .int .i64 (V 10), .int .u8 (V 11), .int .i64 (V 12), .int .i64 (V 13)] 26 (0, 0)) ∧ But b w ((((((((w.setCell ⟨b, 0, none⟩ (.int .i64 (V 0))).setCell ⟨b, 1, none⟩ (.int .i64 (V 1))).setCell ⟨b, 2, none⟩ (.int .i64 (V 8))).setCell ⟨b, 3, none⟩ (.int .i64 (V 9))).setCell ⟨b, 4, none⟩ (.int .i64 (V 10))).setCell ⟨b, 5, none⟩ (.int .u8 (V 11))).setCell ⟨b, 6, none⟩ (.int .i64 (V 12))).setCell ⟨b, 7, none⟩ (.int .i64 (V 13))) := by
  constructor
  · have h0 := set_row h 0 (.int .i64 (V 0))
    have h1 := set_row h0 1 (.int .i64 (V 1))
    have h2 := set_row h1 2 (.int .i64 (V 8))
    have h3 := set_row h2 3 (.int .i64 (V 9))
    have h4 := set_row h3 4 (.int .i64 (V 10))
    have h5 := set_row h4 5 (.int .u8 (V 11))
    have h6 := set_row h5 6 (.int .i64 (V 12))
    have h7 := set_row h6 7 (.int .i64 (V 13))
    refine h7.trans ?_
    simp
  · exact (((((((But.setCell b _ 0 _).trans (But.setCell b _ 1 _)).trans (But.setCell b _ 2 _)).trans (But.setCell b _ 3 _)).trans (But.setCell b _ 4 _)).trans (But.setCell b _ 5 _)).trans (But.setCell b _ 6 _)).trans (But.setCell b _ 7 _)

set_option maxRecDepth 100000 in
set_option maxHeartbeats 4000000 in
theorem item_any (V : Nat → Int) (w : World) (h11 : 0 ≤ V 11 ∧ V 11 ≤ 255) : Calls Tryd.prog 24 #[.agg #[.int .i64 (V 0), .int .i64 (V 1), .int .i64 (V 2), .int .i64 (V 3), .int .i64 (V 4), .int .i64 (V 5), .int .i64 (V 6), .int .i64 (V 7), .int .i64 (V 8), .int .i64 (V 9), .int .i64 (V 10), .int .i64 (V 11), .int .i64 (V 12), .int .i64 (V 13)]] w fun e w' => e = .returned (.agg #[.int .i64 (V 0), .int .i64 (V 1), .int .i64 (V 8), .int .i64 (V 9), .int .i64 (V 10), .int .u8 (V 11), .int .i64 (V 12), .int .i64 (V 13)]) ∧ Below w.heap.size w w' := by
  have hv : VB ((w.alloc (.cells #[.int .i64 (V 0), .int .i64 (V 1), .int .i64 (V 2), .int .i64 (V 3), .int .i64 (V 4), .int .i64 (V 5), .int .i64 (V 6), .int .i64 (V 7), .int .i64 (V 8), .int .i64 (V 9), .int .i64 (V 10), .int .i64 (V 11), .int .i64 (V 12), .int .i64 (V 13)] 52)).alloc (.cells #[.int .i64 0, .int .i64 0, .int .i64 0, .int .i64 0, .int .i64 0, .int .u8 0, .int .i64 0, .int .i64 0] 26)) w.heap.size V := (heap_alloc_old _ _ (by simp)).trans (heap_alloc_new _ _)
  have hi : ((w.alloc (.cells #[.int .i64 (V 0), .int .i64 (V 1), .int .i64 (V 2), .int .i64 (V 3), .int .i64 (V 4), .int .i64 (V 5), .int .i64 (V 6), .int .i64 (V 7), .int .i64 (V 8), .int .i64 (V 9), .int .i64 (V 10), .int .i64 (V 11), .int .i64 (V 12), .int .i64 (V 13)] 52)).alloc (.cells #[.int .i64 0, .int .i64 0, .int .i64 0, .int .i64 0, .int .i64 0, .int .u8 0, .int .i64 0, .int .i64 0] 26)).heap[w.heap.size + 1]? = some (.cells #[.int .i64 0, .int .i64 0, .int .i64 0, .int .i64 0, .int .i64 0, .int .u8 0, .int .i64 0, .int .i64 0] 26 (0, 0)) := by
    have := heap_alloc_new (w.alloc (.cells #[.int .i64 (V 0), .int .i64 (V 1), .int .i64 (V 2), .int .i64 (V 3), .int .i64 (V 4), .int .i64 (V 5), .int .i64 (V 6), .int .i64 (V 7), .int .i64 (V 8), .int .i64 (V 9), .int .i64 (V 10), .int .i64 (V 11), .int .i64 (V 12), .int .i64 (V 13)] 52)) (.cells #[.int .i64 0, .int .i64 0, .int .i64 0, .int .i64 0, .int .i64 0, .int .u8 0, .int .i64 0, .int .i64 0] 26)
    rwa [World.size_alloc] at this
  have bz : Below w.heap.size w ((w.alloc (.cells #[.int .i64 (V 0), .int .i64 (V 1), .int .i64 (V 2), .int .i64 (V 3), .int .i64 (V 4), .int .i64 (V 5), .int .i64 (V 6), .int .i64 (V 7), .int .i64 (V 8), .int .i64 (V 9), .int .i64 (V 10), .int .i64 (V 11), .int .i64 (V 12), .int .i64 (V 13)] 52)).alloc (.cells #[.int .i64 0, .int .i64 0, .int .i64 0, .int .i64 0, .int .i64 0, .int .u8 0, .int .i64 0, .int .i64 0] 26)) := ((Below.refl _ _).alloc (Nat.le_refl _) _).alloc (by simp) _
  have HV := hd hv
  have HI := hd hi
  have BZ := hd bz
  have c0 := hv.at 0 (by omega)
  have c1 := hv.at 1 (by omega)
  have c2 := hv.at 2 (by omega)
  have c3 := hv.at 3 (by omega)
  have c4 := hv.at 4 (by omega)
  have c5 := hv.at 5 (by omega)
  have c6 := hv.at 6 (by omega)
  have c7 := hv.at 7 (by omega)
  have c8 := hv.at 8 (by omega)
  have c9 := hv.at 9 (by omega)
  have c10 := hv.at 10 (by omega)
  have c11 := hv.at 11 (by omega)
  have c12 := hv.at 12 (by omega)
  have c13 := hv.at 13 (by omega)
  clear hv hi bz
  go_enter Tryd.func24, Tryd.ntmps24
  go_wp2_with fail
  generalize (w.alloc (.cells #[.int .i64 (V 0), .int .i64 (V 1), .int .i64 (V 2), .int .i64 (V 3), .int .i64 (V 4), .int .i64 (V 5), .int .i64 (V 6), .int .i64 (V 7), .int .i64 (V 8), .int .i64 (V 9), .int .i64 (V 10), .int .i64 (V 11), .int .i64 (V 12), .int .i64 (V 13)] 52)).alloc (.cells #[.int .i64 0, .int .i64 0, .int .i64 0, .int .i64 0, .int .i64 0, .int .u8 0, .int .i64 0, .int .i64 0] 26) = w0 at *
  have C : Hid (∀ U, Below w0.heap.size w0 U → Calls Tryd.prog 45 #[.agg #[.int .i64 (V 0), .int .i64 (V 1), .int .i64 (V 2), .int .i64 (V 3), .int .i64 (V 4), .int .i64 (V 5), .int .i64 (V 6), .int .i64 (V 7), .int .i64 (V 8), .int .i64 (V 9), .int .i64 (V 10), .int .i64 (V 11), .int .i64 (V 12), .int .i64 (V 13)]] U fun e w' => e = .returned (.agg #[.int .i64 (V 9), .int .i64 (V 10), .int .u8 (V 11), .int .i64 (V 12), .int .i64 (V 13)]) ∧ Below w0.heap.size w0 w') := fun U hU => (op_any V U h11).mono (fun e w' h => ⟨h.1, hU.trans (h.2.mono hU.size)⟩)
  have hu := Tryd.underlying52
  have hi : (Tryd.prog.info? 52).map (·.size) = some ([.int .i64 (V 0), .int .i64 (V 1), .int .i64 (V 2), .int .i64 (V 3), .int .i64 (V 4), .int .i64 (V 5), .int .i64 (V 6), .int .i64 (V 7), .int .i64 (V 8), .int .i64 (V 9), .int .i64 (V 10), .int .i64 (V 11), .int .i64 (V 12), .int .i64 (V 13)] : List Value).length := by
    have : (Tryd.prog.info? 52).map (·.size) = some 14 := by kernel_rfl
    exact this
  have r0 := HV.out.range
  clear c2 c3 c4 c5 c6 c7 c9 c10 c11 c12 c13
  go_region_held3 (fun U => U.rangeAt w.heap.size 0 [.int .i64 (V 0), .int .i64 (V 1), .int .i64 (V 2), .int .i64 (V 3), .int .i64 (V 4), .int .i64 (V 5), .int .i64 (V 6), .int .i64 (V 7), .int .i64 (V 8), .int .i64 (V 9), .int .i64 (V 10), .int .i64 (V 11), .int .i64 (V 12), .int .i64 (V 13)] ∧ U.cell? ⟨w.heap.size, 0, none⟩ = some (.int .i64 (V 0)) ∧ U.cell? ⟨w.heap.size, 1, none⟩ = some (.int .i64 (V 1)) ∧ U.cell? ⟨w.heap.size, 8, none⟩ = some (.int .i64 (V 8))) (first | (with_reducible exact ⟨by assumption, by assumption, by assumption, by assumption⟩) | (go_keep; done)) (first | (go_at_call 45; refine (C.out _ ?_).mono ?_; (first | exact Below.refl _ _ | exact (Below.refl _ _).drew | exact below_drewN (Below.refl _ _) _); rintro e u ⟨rfl, bu⟩; have hv1 := HV.out.below bu; have hi1 := (bu.block _ (block_lt HI.out)).trans HI.out; have r1 := hv1.range; have hz := hv1.but (item_set (V := V) hi1).2 (by omega); have rz := hz.range; have z0 := hz.at 0 (by omega); have z1 := hz.at 1 (by omega); have z8 := hz.at 8 (by omega); have d0 := hv1.at 0 (by omega); have d1 := hv1.at 1 (by omega); have d8 := hv1.at 8 (by omega); have e0 := cell_row hi1 0; simp at e0; have f0 := frozen_row hi1 0; have e1 := cell_row hi1 1; simp at e1; have f1 := frozen_row hi1 1; have e2 := cell_row hi1 2; simp at e2; have f2 := frozen_row hi1 2; have e3 := cell_row hi1 3; simp at e3; have f3 := frozen_row hi1 3; have e4 := cell_row hi1 4; simp at e4; have f4 := frozen_row hi1 4; have e5 := cell_row hi1 5; simp at e5; have f5 := frozen_row hi1 5; have e6 := cell_row hi1 6; simp at e6; have f6 := frozen_row hi1 6; have e7 := cell_row hi1 7; simp at e7; have f7 := frozen_row hi1 7))
  all_goals
    obtain ⟨A1, A2⟩ := item_set (V := V) hi1
    have q0 := cell_row A1 0
    simp at q0
    have q1 := cell_row A1 1
    simp at q1
    have q2 := cell_row A1 2
    simp at q2
    have q3 := cell_row A1 3
    simp at q3
    have q4 := cell_row A1 4
    simp at q4
    have q5 := cell_row A1 5
    simp at q5
    have q6 := cell_row A1 6
    simp at q6
    have q7 := cell_row A1 7
    simp at q7
    have R : Hid (Below w.heap.size w ((((((((u.setCell ⟨w.heap.size + 1, 0, none⟩ (.int .i64 (V 0))).setCell ⟨w.heap.size + 1, 1, none⟩ (.int .i64 (V 1))).setCell ⟨w.heap.size + 1, 2, none⟩ (.int .i64 (V 8))).setCell ⟨w.heap.size + 1, 3, none⟩ (.int .i64 (V 9))).setCell ⟨w.heap.size + 1, 4, none⟩ (.int .i64 (V 10))).setCell ⟨w.heap.size + 1, 5, none⟩ (.int .u8 (V 11))).setCell ⟨w.heap.size + 1, 6, none⟩ (.int .i64 (V 12))).setCell ⟨w.heap.size + 1, 7, none⟩ (.int .i64 (V 13)))) := (BZ.out.trans (bu.mono BZ.out.size)).trans (A2.below (Nat.le_trans BZ.out.size bu.size) (by omega))
    clear A1 A2 bu hi1 hv1
    go_wp2
    refine bodyPost_ret (v := .agg #[.int .i64 (V 0), .int .i64 (V 1), .int .i64 (V 8), .int .i64 (V 9), .int .i64 (V 10), .int .u8 (V 11), .int .i64 (V 12), .int .i64 (V 13)]) (by simp [results, Tryd.results24, go_sem, q0, q1, q2, q3, q4, q5, q6, q7]) rfl ?_
    exact ⟨rfl, R.out⟩

end Go.Proofs.YtibnlfdnnlbeeaaDoor
