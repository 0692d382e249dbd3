/-
  Of the laws: item.
-/
import Derived.Test.YtibnlfdnnlbeeaaDoorVk
import Derived.Deep.RegionHeld3
namespace Go.Proofs.YtibnlfdnnlbeeaaDoor
open Go.RowKit
set_option linter.unusedVariables false

structure OkX (x : It) : Prop where
  k : I64 x.kind
  e : I64 x.epoch
  t : I64 x.tag
  o : I64 x.ok
  p : I64 x.pos
  c : 0 ≤ x.ch ∧ x.ch ≤ 255
  l : I64 x.cl
  s : I64 x.sq

theorem item_put {w : World} {b : Nat} {T K pp cc L S : Int} (h : w.heap[b]? = some (.cells #[.int .i64 0, .int .i64 0, .int .i64 0, .int .i64 0, .int .i64 0, .int .u8 0, .int .i64 0, .int .i64 0] 26 (0, 0))) :
    ((((((((w.setCell ⟨b, 0, none⟩ (.int .i64 2)).setCell ⟨b, 1, none⟩ (.int .i64 0)).setCell ⟨b, 2, none⟩ (.int .i64 T)).setCell ⟨b, 3, none⟩ (.int .i64 K)).setCell ⟨b, 4, none⟩ (.int .i64 pp)).setCell ⟨b, 5, none⟩ (.int .u8 cc)).setCell ⟨b, 6, none⟩ (.int .i64 L)).setCell ⟨b, 7, none⟩ (.int .i64 S)).heap[b]? = some (.cells #[.int .i64 2, .int .i64 0, .int .i64 T, .int .i64 K, .int .i64 pp, .int .u8 cc, .int .i64 L, .int .i64 S] 26 (0, 0)) ∧ But b w ((((((((w.setCell ⟨b, 0, none⟩ (.int .i64 2)).setCell ⟨b, 1, none⟩ (.int .i64 0)).setCell ⟨b, 2, none⟩ (.int .i64 T)).setCell ⟨b, 3, none⟩ (.int .i64 K)).setCell ⟨b, 4, none⟩ (.int .i64 pp)).setCell ⟨b, 5, none⟩ (.int .u8 cc)).setCell ⟨b, 6, none⟩ (.int .i64 L)).setCell ⟨b, 7, none⟩ (.int .i64 S)) := by
  constructor
  · have h0 := set_row h 0 (.int .i64 2)
    have h1 := set_row h0 1 (.int .i64 0)
    have h2 := set_row h1 2 (.int .i64 T)
    have h3 := set_row h2 3 (.int .i64 K)
    have h4 := set_row h3 4 (.int .i64 pp)
    have h5 := set_row h4 5 (.int .u8 cc)
    have h6 := set_row h5 6 (.int .i64 L)
    have h7 := set_row h6 7 (.int .i64 S)
    refine h7.trans ?_
    simp
  · exact (((((((But.setCell b _ 0 _).trans (But.setCell b _ 1 _)).trans (But.setCell b _ 2 _)).trans (But.setCell b _ 3 _)).trans (But.setCell b _ 4 _)).trans (But.setCell b _ 5 _)).trans (But.setCell b _ 6 _)).trans (But.setCell b _ 7 _)

set_option maxRecDepth 100000 in
set_option maxHeartbeats 4000000 in
theorem litem_any (x : It) (w : World) (hx : OkX x) : Calls Tryd.prog 7 #[x.val] w fun e w' => e = .returned (itemP x).val ∧ Below w.heap.size w w' := by
  have C1 := hd (within_any x.kind 1 2 · (by omega) (by omega) (by omega) hx.k)
  have C2 := hd (within_any x.epoch 1 255 · (by omega) (by omega) (by omega) hx.e)
  have C3 := hd (within_any x.tag 0 4096 · (by omega) (by omega) (by omega) hx.t)
  have C4 := hd (operation_any x.ok x.pos x.ch x.cl x.sq · hx.o hx.p hx.c hx.l hx.s)
  show Calls Tryd.prog 7 #[.agg #[.int .i64 x.kind, .int .i64 x.epoch, .int .i64 x.tag, .int .i64 x.ok, .int .i64 x.pos, .int .u8 x.ch, .int .i64 x.cl, .int .i64 x.sq]] w fun e w' => e = .returned (itemP x).val ∧ Below w.heap.size w w'
  obtain ⟨r, hr⟩ : ∃ r, itemP x = r := ⟨_, rfl⟩
  rw [hr]
  by_cases h1 : withinP x.kind 1 2 = 1
  · rw [h1] at C1
    obtain rfl : r = ⟨1, withinP x.epoch 1 255, 0, 0, 0, 0, 0, 0⟩ := by rw [← hr, itemP, if_pos h1]
    clear hr h1
    generalize withinP x.epoch 1 255 = E at *
    show Calls Tryd.prog 7 #[.agg #[.int .i64 x.kind, .int .i64 x.epoch, .int .i64 x.tag, .int .i64 x.ok, .int .i64 x.pos, .int .u8 x.ch, .int .i64 x.cl, .int .i64 x.sq]] w fun e w' => e = .returned (.agg #[.int .i64 1, .int .i64 E, .int .i64 0, .int .i64 0, .int .i64 0, .int .u8 0, .int .i64 0, .int .i64 0]) ∧ Below w.heap.size w w'
    go_enter Tryd.func7, Tryd.ntmps7
    go_wp2_with fail
    refine (C1.out _).mono ?_
    rintro e w1 ⟨rfl, rfl⟩
    go_wp2_with fail
    refine (C2.out _).mono ?_
    rintro e w2 ⟨rfl, rfl⟩
    go_wp2
    refine bodyPost_ret (v := .agg #[.int .i64 1, .int .i64 E, .int .i64 0, .int .i64 0, .int .i64 0, .int .u8 0, .int .i64 0, .int .i64 0]) (by simp [results, Tryd.results7, go_sem]) rfl ?_
    exact ⟨rfl, ((Below.refl _ _).alloc (Nat.le_refl _) _).alloc (by simp) _⟩
  · have hx2 : Hid (r = ⟨2, 0, withinP x.tag 0 4096, withinP x.ok 0 2, posP (withinP x.ok 0 2) x.pos, chP (withinP x.ok 0 2) x.ch, withinP x.cl 1 64, withinP x.sq 1 64⟩) := hd (by rw [← hr, itemP, if_neg h1])
    clear hr
    generalize withinP x.kind 1 2 = Kd at *
    generalize withinP x.tag 0 4096 = T at *
    generalize posP (withinP x.ok 0 2) x.pos = pp at *
    generalize chP (withinP x.ok 0 2) x.ch = cc at *
    generalize withinP x.ok 0 2 = K at *
    generalize withinP x.cl 1 64 = L at *
    generalize withinP x.sq 1 64 = S at *
    obtain rfl := hx2.out
    clear hx2
    show Calls Tryd.prog 7 #[.agg #[.int .i64 x.kind, .int .i64 x.epoch, .int .i64 x.tag, .int .i64 x.ok, .int .i64 x.pos, .int .u8 x.ch, .int .i64 x.cl, .int .i64 x.sq]] w fun e w' => e = .returned (.agg #[.int .i64 2, .int .i64 0, .int .i64 T, .int .i64 K, .int .i64 pp, .int .u8 cc, .int .i64 L, .int .i64 S]) ∧ Below w.heap.size w w'
    have hi : ((w.alloc (.cells #[.int .i64 x.kind, .int .i64 x.epoch, .int .i64 x.tag, .int .i64 x.ok, .int .i64 x.pos, .int .u8 x.ch, .int .i64 x.cl, .int .i64 x.sq] 26)).alloc (.cells #[.int .i64 0, .int .i64 0, .int .i64 0, .int .i64 0, .int .i64 0, .int .u8 0, .int .i64 0, .int .i64 0] 26)).heap[w.heap.size + 1]? = some (.cells #[.int .i64 0, .int .i64 0, .int .i64 0, .int .i64 0, .int .i64 0, .int .u8 0, .int .i64 0, .int .i64 0] 26 (0, 0)) := by
      have := heap_alloc_new (w.alloc (.cells #[.int .i64 x.kind, .int .i64 x.epoch, .int .i64 x.tag, .int .i64 x.ok, .int .i64 x.pos, .int .u8 x.ch, .int .i64 x.cl, .int .i64 x.sq] 26)) (.cells #[.int .i64 0, .int .i64 0, .int .i64 0, .int .i64 0, .int .i64 0, .int .u8 0, .int .i64 0, .int .i64 0] 26)
      rwa [World.size_alloc] at this
    have hv : ((w.alloc (.cells #[.int .i64 x.kind, .int .i64 x.epoch, .int .i64 x.tag, .int .i64 x.ok, .int .i64 x.pos, .int .u8 x.ch, .int .i64 x.cl, .int .i64 x.sq] 26)).alloc (.cells #[.int .i64 0, .int .i64 0, .int .i64 0, .int .i64 0, .int .i64 0, .int .u8 0, .int .i64 0, .int .i64 0] 26)).heap[w.heap.size]? = some (.cells #[.int .i64 x.kind, .int .i64 x.epoch, .int .i64 x.tag, .int .i64 x.ok, .int .i64 x.pos, .int .u8 x.ch, .int .i64 x.cl, .int .i64 x.sq] 26 (0, 0)) := (heap_alloc_old _ _ (by simp)).trans (heap_alloc_new _ _)
    have bz : Below w.heap.size w ((w.alloc (.cells #[.int .i64 x.kind, .int .i64 x.epoch, .int .i64 x.tag, .int .i64 x.ok, .int .i64 x.pos, .int .u8 x.ch, .int .i64 x.cl, .int .i64 x.sq] 26)).alloc (.cells #[.int .i64 0, .int .i64 0, .int .i64 0, .int .i64 0, .int .i64 0, .int .u8 0, .int .i64 0, .int .i64 0] 26)) := ((Below.refl _ _).alloc (Nat.le_refl _) _).alloc (by simp) _
    have HI := hd hi
    have HV := hd hv
    have BZ := hd bz
    clear hi hv bz
    go_enter Tryd.func7, Tryd.ntmps7
    go_wp2_with fail
    refine (C1.out _).mono ?_
    rintro e w1 ⟨rfl, hw1⟩
    subst hw1
    go_wp2_with fail
    generalize (w.alloc (.cells #[.int .i64 x.kind, .int .i64 x.epoch, .int .i64 x.tag, .int .i64 x.ok, .int .i64 x.pos, .int .u8 x.ch, .int .i64 x.cl, .int .i64 x.sq] 26)).alloc (.cells #[.int .i64 0, .int .i64 0, .int .i64 0, .int .i64 0, .int .i64 0, .int .u8 0, .int .i64 0, .int .i64 0] 26) = w0 at *
    have c2 : w0.cell? ⟨w.heap.size, 2, none⟩ = some (.int .i64 x.tag) := by rw [cell_row HV.out]; rfl
    have c3 : w0.cell? ⟨w.heap.size, 3, none⟩ = some (.int .i64 x.ok) := by rw [cell_row HV.out]; rfl
    have c4 : w0.cell? ⟨w.heap.size, 4, none⟩ = some (.int .i64 x.pos) := by rw [cell_row HV.out]; rfl
    have c5 : w0.cell? ⟨w.heap.size, 5, none⟩ = some (.int .u8 x.ch) := by rw [cell_row HV.out]; rfl
    have c6 : w0.cell? ⟨w.heap.size, 6, none⟩ = some (.int .i64 x.cl) := by rw [cell_row HV.out]; rfl
    have c7 : w0.cell? ⟨w.heap.size, 7, none⟩ = some (.int .i64 x.sq) := by rw [cell_row HV.out]; rfl
    have D3 : Hid (∀ U, Calls Tryd.prog 18 #[.int .i64 x.tag, .int .i64 0, .int .i64 4096] U fun e w' => e = .returned (.int .i64 T) ∧ w' = U) := C3
    have D4 : Hid (∀ U, Below w0.heap.size w0 U → Calls Tryd.prog 19 #[.agg #[.int .i64 x.ok, .int .i64 x.pos, .int .u8 x.ch, .int .i64 x.cl, .int .i64 x.sq]] U fun e w' => e = .returned (.agg #[.int .i64 K, .int .i64 pp, .int .u8 cc, .int .i64 L, .int .i64 S]) ∧ Below w0.heap.size w0 w') := fun U hU => (C4.out U).mono (fun e w' h => ⟨h.1, hU.trans (h.2.mono hU.size)⟩)
    clear C1 C2 C3 C4
    go_region_held3 (fun U => U.cell? ⟨w.heap.size, 2, none⟩ = some (.int .i64 x.tag) ∧ U.cell? ⟨w.heap.size, 3, none⟩ = some (.int .i64 x.ok) ∧ U.cell? ⟨w.heap.size, 4, none⟩ = some (.int .i64 x.pos) ∧ U.cell? ⟨w.heap.size, 5, none⟩ = some (.int .u8 x.ch) ∧ U.cell? ⟨w.heap.size, 6, none⟩ = some (.int .i64 x.cl) ∧ U.cell? ⟨w.heap.size, 7, none⟩ = some (.int .i64 x.sq)) (first | (with_reducible exact ⟨by assumption, by assumption, by assumption, by assumption, by assumption, by assumption⟩) | (go_keep; done)) (first | (go_at_call 18; refine (D3.out _).mono ?_; rintro e u1 ⟨rfl, hu1⟩; subst hu1) | (go_at_call 19; refine (D4.out _ ?_).mono ?_; (first | exact Below.refl _ _ | exact (Below.refl _ _).drew | exact below_drewN (Below.refl _ _) _); rintro e u ⟨rfl, bu⟩; have hi1 := (bu.block _ (block_lt HI.out)).trans HI.out; have hv1 := (bu.block _ (block_lt HV.out)).trans HV.out; have hz := ((item_put (T := T) (K := K) (pp := pp) (cc := cc) (L := L) (S := S) hi1).2.block w.heap.size (block_lt hv1) (by omega)).trans hv1; have d2 := (cell_row hv1 2).trans (show _ = some (.int .i64 x.tag) from rfl); have z2 := (cell_row hz 2).trans (show _ = some (.int .i64 x.tag) from rfl); have d3 := (cell_row hv1 3).trans (show _ = some (.int .i64 x.ok) from rfl); have z3 := (cell_row hz 3).trans (show _ = some (.int .i64 x.ok) from rfl); have d4 := (cell_row hv1 4).trans (show _ = some (.int .i64 x.pos) from rfl); have z4 := (cell_row hz 4).trans (show _ = some (.int .i64 x.pos) from rfl); have d5 := (cell_row hv1 5).trans (show _ = some (.int .u8 x.ch) from rfl); have z5 := (cell_row hz 5).trans (show _ = some (.int .u8 x.ch) from rfl); have d6 := (cell_row hv1 6).trans (show _ = some (.int .i64 x.cl) from rfl); have z6 := (cell_row hz 6).trans (show _ = some (.int .i64 x.cl) from rfl); have d7 := (cell_row hv1 7).trans (show _ = some (.int .i64 x.sq) from rfl); have z7 := (cell_row hz 7).trans (show _ = some (.int .i64 x.sq) from rfl); have e0 := cell_row hi1 0; simp at e0; have f0 := frozen_row hi1 0; have e1 := cell_row hi1 1; simp at e1; have f1 := frozen_row hi1 1; have e2 := cell_row hi1 2; simp at e2; have f2 := frozen_row hi1 2; have e3 := cell_row hi1 3; simp at e3; have f3 := frozen_row hi1 3; have e4 := cell_row hi1 4; simp at e4; have f4 := frozen_row hi1 4; have e5 := cell_row hi1 5; simp at e5; have f5 := frozen_row hi1 5; have e6 := cell_row hi1 6; simp at e6; have f6 := frozen_row hi1 6; have e7 := cell_row hi1 7; simp at e7; have f7 := frozen_row hi1 7))
    all_goals
      obtain ⟨A1, A2⟩ := item_put (T := T) (K := K) (pp := pp) (cc := cc) (L := L) (S := S) hi1
      have q0 := cell_row A1 0
      simp at q0
      have q1 := cell_row A1 1
      simp at q1
      have q2 := cell_row A1 2
      simp at q2
      have q3 := cell_row A1 3
      simp at q3
      have q4 := cell_row A1 4
      simp at q4
      have q5 := cell_row A1 5
      simp at q5
      have q6 := cell_row A1 6
      simp at q6
      have q7 := cell_row A1 7
      simp at q7
      have R : Hid (Below w.heap.size w ((((((((u.setCell ⟨w.heap.size + 1, 0, none⟩ (.int .i64 2)).setCell ⟨w.heap.size + 1, 1, none⟩ (.int .i64 0)).setCell ⟨w.heap.size + 1, 2, none⟩ (.int .i64 T)).setCell ⟨w.heap.size + 1, 3, none⟩ (.int .i64 K)).setCell ⟨w.heap.size + 1, 4, none⟩ (.int .i64 pp)).setCell ⟨w.heap.size + 1, 5, none⟩ (.int .u8 cc)).setCell ⟨w.heap.size + 1, 6, none⟩ (.int .i64 L)).setCell ⟨w.heap.size + 1, 7, none⟩ (.int .i64 S))) := (BZ.out.trans (bu.mono BZ.out.size)).trans (A2.below (Nat.le_trans BZ.out.size bu.size) (by omega))
      clear A1 A2 bu hi1 hv1 hz
      go_wp2
      refine bodyPost_ret (v := .agg #[.int .i64 2, .int .i64 0, .int .i64 T, .int .i64 K, .int .i64 pp, .int .u8 cc, .int .i64 L, .int .i64 S]) (by simp [results, Tryd.results7, go_sem, q0, q1, q2, q3, q4, q5, q6, q7]) rfl ?_
      exact ⟨rfl, R.out⟩

end Go.Proofs.YtibnlfdnnlbeeaaDoor
