/-
  Shift, of the document.
-/
import Derived.Test.YtilidolbplglcaaGreatDoorMFo
namespace Go.Proofs.YtilidolbplglcaaGreatDoor
open Go.RowKit
set_option linter.unusedVariables false

theorem three_cells {w w1 : World} {ca cb cr : Array Value} {t t' t'' : TypeId} (b : Below (((w.alloc (.cells ca t (0, 0))).alloc (.cells cb t' (0, 0))).alloc (.cells cr t'' (0, 0))).heap.size (((w.alloc (.cells ca t (0, 0))).alloc (.cells cb t' (0, 0))).alloc (.cells cr t'' (0, 0))) w1) :
    (∀ i, w1.cell? ⟨w.heap.size, i, none⟩ = ca[i]?) ∧ (∀ i, w1.cell? ⟨w.heap.size + 1, i, none⟩ = cb[i]?) ∧ (∀ i, w1.cell? ⟨w.heap.size + 1 + 1, i, none⟩ = cr[i]?) ∧
      (∀ i, w1.frozen? ⟨w.heap.size, i, none⟩ = false) ∧ (∀ i, w1.frozen? ⟨w.heap.size + 1 + 1, i, none⟩ = false) ∧ Below w.heap.size w w1 := by
  have h2 : w1.heap[w.heap.size + 1 + 1]? = some (.cells cr t'' (0, 0)) := by
    rw [b.block (w.heap.size + 1 + 1) (by simp)]
    have := heap_alloc_new ((w.alloc (.cells ca t (0, 0))).alloc (.cells cb t' (0, 0))) (.cells cr t'' (0, 0))
    simpa using this
  have h1 : w1.heap[w.heap.size + 1]? = some (.cells cb t' (0, 0)) := by
    rw [b.block (w.heap.size + 1) (by simp)]
    have := heap_alloc_new (w.alloc (.cells ca t (0, 0))) (.cells cb t' (0, 0))
    have k := ((Below.refl ((w.alloc (.cells ca t (0, 0))).alloc (.cells cb t' (0, 0))).heap.size _).alloc (Nat.le_refl _) (.cells cr t'' (0, 0))).block (w.heap.size + 1) (by simp)
    rw [k]
    simpa using this
  have h0 : w1.heap[w.heap.size]? = some (.cells ca t (0, 0)) := by
    rw [b.block (w.heap.size) (by simp; omega)]
    have := heap_alloc_new w (.cells ca t (0, 0))
    have k := (((Below.refl (w.alloc (.cells ca t (0, 0))).heap.size _).alloc (Nat.le_refl _) (.cells cb t' (0, 0))).alloc (by simp) (.cells cr t'' (0, 0))).block (w.heap.size) (by simp)
    rw [k]
    exact this
  refine ⟨fun i => ?_, fun i => ?_, fun i => ?_, fun i => ?_, fun i => ?_, ?_⟩
  · simp [World.cell?, h0]
  · simp [World.cell?, h1]
  · simp [World.cell?, h2]
  · simp [World.frozen?, h0]
  · simp [World.frozen?, h2]
  · have b0 : Below w.heap.size w (((w.alloc (.cells ca t (0, 0))).alloc (.cells cb t' (0, 0))).alloc (.cells cr t'' (0, 0))) := (((Below.refl _ _).alloc (Nat.le_refl _) _).alloc (by simp) _).alloc (by simp; omega) _
    exact b0.trans (b.mono (by simp; omega))

set_option maxHeartbeats 4000000 in
theorem rs_n (k k' p c q s p' c' q' s' : Int) (f : Bool) (w : World) (hk : rowP k = 0) : Calls Tryz.prog 55 #[.agg #[.int .i64 k, .int .i64 p, .int .u8 c, .int .i64 q, .int .i64 s], .agg #[.int .i64 k', .int .i64 p', .int .u8 c', .int .i64 q', .int .i64 s'], .bool f] w fun e w' =>
    e = .returned (.agg #[.int .i64 k, .int .i64 p, .int .u8 c, .int .i64 q, .int .i64 s]) ∧ Below w.heap.size w w' := by
  have HK := hd hk
  clear hk
  go_enter Tryz.func55, Tryz.ntmps55
  go_wp2_with fail
  refine (acts_no k p c q s _ HK.out).mono ?_
  rintro e w1 ⟨rfl, b⟩
  have B1 := hd b
  clear b
  obtain ⟨ca, cb, cr, fa, fr, bb⟩ := three_cells B1.out
  have a0 := ca 0
  have b0 := cb 0
  have r0 := cr 0
  have g0 := fr 0
  have a1 := ca 1
  have b1 := cb 1
  have r1 := cr 1
  have g1 := fr 1
  have a2 := ca 2
  have b2 := cb 2
  have r2 := cr 2
  have g2 := fr 2
  have a3 := ca 3
  have b3 := cb 3
  have r3 := cr 3
  have g3 := fr 3
  have a4 := ca 4
  have b4 := cb 4
  have r4 := cr 4
  have g4 := fr 4
  have f1 := fa 1
  simp at a0 a1 a2 a3 a4 b0 b1 b2 b3 b4 r0 r1 r2 r3 r4
  have BB := hd bb
  clear ca cb cr fa fr bb
  go_wp2
  refine bodyPost_ret (v := .agg #[.int .i64 k, .int .i64 p, .int .u8 c, .int .i64 q, .int .i64 s]) (by simp [results, Tryz.results55, go_sem, r0, r1, r2, r3, r4]) rfl ?_
  exact ⟨rfl, (((((BB.out.setCell (by simp <;> omega) _).setCell (by simp <;> omega) _).setCell (by simp <;> omega) _).setCell (by simp <;> omega) _).setCell (by simp <;> omega) _)⟩

set_option maxHeartbeats 4000000 in
theorem rs_1n (k' p c q s p' c' q' s' : Int) (f : Bool) (w : World) (hk' : rowP k' = 0) : Calls Tryz.prog 55 #[.agg #[.int .i64 1, .int .i64 p, .int .u8 c, .int .i64 q, .int .i64 s], .agg #[.int .i64 k', .int .i64 p', .int .u8 c', .int .i64 q', .int .i64 s'], .bool f] w fun e w' =>
    e = .returned (.agg #[.int .i64 1, .int .i64 p, .int .u8 c, .int .i64 q, .int .i64 s]) ∧ Below w.heap.size w w' := by
  have HK' := hd hk'
  clear hk'
  go_enter Tryz.func55, Tryz.ntmps55
  go_wp2_with fail
  refine (acts_1 p c q s _).mono ?_
  rintro e w1 ⟨rfl, b⟩
  have B1 := hd b
  clear b
  obtain ⟨ca, cb, cr, fa, fr, bb⟩ := three_cells B1.out
  have a0 := ca 0
  have b0 := cb 0
  have r0 := cr 0
  have g0 := fr 0
  have a1 := ca 1
  have b1 := cb 1
  have r1 := cr 1
  have g1 := fr 1
  have a2 := ca 2
  have b2 := cb 2
  have r2 := cr 2
  have g2 := fr 2
  have a3 := ca 3
  have b3 := cb 3
  have r3 := cr 3
  have g3 := fr 3
  have a4 := ca 4
  have b4 := cb 4
  have r4 := cr 4
  have g4 := fr 4
  have f1 := fa 1
  simp at a0 a1 a2 a3 a4 b0 b1 b2 b3 b4 r0 r1 r2 r3 r4
  have BB := hd bb
  clear ca cb cr fa fr bb
  go_wp2_with fail
  refine (acts_no k' p' c' q' s' _ HK'.out).mono ?_
  rintro e w2 ⟨rfl, b⟩
  have B2 := hd (B1.out.trans (b.mono B1.out.size))
  clear a0 a1 a2 a3 a4 b0 b1 b2 b3 b4 r0 r1 r2 r3 r4 g0 g1 g2 g3 g4 f1 BB
  clear b B1
  obtain ⟨ca, cb, cr, fa, fr, bb⟩ := three_cells B2.out
  have a0 := ca 0
  have b0 := cb 0
  have r0 := cr 0
  have g0 := fr 0
  have a1 := ca 1
  have b1 := cb 1
  have r1 := cr 1
  have g1 := fr 1
  have a2 := ca 2
  have b2 := cb 2
  have r2 := cr 2
  have g2 := fr 2
  have a3 := ca 3
  have b3 := cb 3
  have r3 := cr 3
  have g3 := fr 3
  have a4 := ca 4
  have b4 := cb 4
  have r4 := cr 4
  have g4 := fr 4
  have f1 := fa 1
  simp at a0 a1 a2 a3 a4 b0 b1 b2 b3 b4 r0 r1 r2 r3 r4
  have BB := hd bb
  clear ca cb cr fa fr bb
  go_wp2
  refine bodyPost_ret (v := .agg #[.int .i64 1, .int .i64 p, .int .u8 c, .int .i64 q, .int .i64 s]) (by simp [results, Tryz.results55, go_sem, r0, r1, r2, r3, r4]) rfl ?_
  exact ⟨rfl, (((((BB.out.setCell (by simp <;> omega) _).setCell (by simp <;> omega) _).setCell (by simp <;> omega) _).setCell (by simp <;> omega) _).setCell (by simp <;> omega) _)⟩

set_option maxHeartbeats 4000000 in
theorem rs_2n (k' p c q s p' c' q' s' : Int) (f : Bool) (w : World) (hk' : rowP k' = 0) : Calls Tryz.prog 55 #[.agg #[.int .i64 2, .int .i64 p, .int .u8 c, .int .i64 q, .int .i64 s], .agg #[.int .i64 k', .int .i64 p', .int .u8 c', .int .i64 q', .int .i64 s'], .bool f] w fun e w' =>
    e = .returned (.agg #[.int .i64 2, .int .i64 p, .int .u8 c, .int .i64 q, .int .i64 s]) ∧ Below w.heap.size w w' := by
  have HK' := hd hk'
  clear hk'
  go_enter Tryz.func55, Tryz.ntmps55
  go_wp2_with fail
  refine (acts_2 p c q s _).mono ?_
  rintro e w1 ⟨rfl, b⟩
  have B1 := hd b
  clear b
  obtain ⟨ca, cb, cr, fa, fr, bb⟩ := three_cells B1.out
  have a0 := ca 0
  have b0 := cb 0
  have r0 := cr 0
  have g0 := fr 0
  have a1 := ca 1
  have b1 := cb 1
  have r1 := cr 1
  have g1 := fr 1
  have a2 := ca 2
  have b2 := cb 2
  have r2 := cr 2
  have g2 := fr 2
  have a3 := ca 3
  have b3 := cb 3
  have r3 := cr 3
  have g3 := fr 3
  have a4 := ca 4
  have b4 := cb 4
  have r4 := cr 4
  have g4 := fr 4
  have f1 := fa 1
  simp at a0 a1 a2 a3 a4 b0 b1 b2 b3 b4 r0 r1 r2 r3 r4
  have BB := hd bb
  clear ca cb cr fa fr bb
  go_wp2_with fail
  refine (acts_no k' p' c' q' s' _ HK'.out).mono ?_
  rintro e w2 ⟨rfl, b⟩
  have B2 := hd (B1.out.trans (b.mono B1.out.size))
  clear a0 a1 a2 a3 a4 b0 b1 b2 b3 b4 r0 r1 r2 r3 r4 g0 g1 g2 g3 g4 f1 BB
  clear b B1
  obtain ⟨ca, cb, cr, fa, fr, bb⟩ := three_cells B2.out
  have a0 := ca 0
  have b0 := cb 0
  have r0 := cr 0
  have g0 := fr 0
  have a1 := ca 1
  have b1 := cb 1
  have r1 := cr 1
  have g1 := fr 1
  have a2 := ca 2
  have b2 := cb 2
  have r2 := cr 2
  have g2 := fr 2
  have a3 := ca 3
  have b3 := cb 3
  have r3 := cr 3
  have g3 := fr 3
  have a4 := ca 4
  have b4 := cb 4
  have r4 := cr 4
  have g4 := fr 4
  have f1 := fa 1
  simp at a0 a1 a2 a3 a4 b0 b1 b2 b3 b4 r0 r1 r2 r3 r4
  have BB := hd bb
  clear ca cb cr fa fr bb
  go_wp2
  refine bodyPost_ret (v := .agg #[.int .i64 2, .int .i64 p, .int .u8 c, .int .i64 q, .int .i64 s]) (by simp [results, Tryz.results55, go_sem, r0, r1, r2, r3, r4]) rfl ?_
  exact ⟨rfl, (((((BB.out.setCell (by simp <;> omega) _).setCell (by simp <;> omega) _).setCell (by simp <;> omega) _).setCell (by simp <;> omega) _).setCell (by simp <;> omega) _)⟩

set_option maxHeartbeats 4000000 in
theorem rs_11t (p c q s p' c' q' s' : Int) (f : Bool) (w : World) (hA : aheadP 1 p' 1 p f = true) : Calls Tryz.prog 55 #[.agg #[.int .i64 1, .int .i64 p, .int .u8 c, .int .i64 q, .int .i64 s], .agg #[.int .i64 1, .int .i64 p', .int .u8 c', .int .i64 q', .int .i64 s'], .bool f] w fun e w' =>
    e = .returned (.agg #[.int .i64 1, .int .i64 (wrap64 (p + 1)), .int .u8 c, .int .i64 q, .int .i64 s]) ∧ Below w.heap.size w w' := by
  have HA := hd hA
  clear hA
  go_enter Tryz.func55, Tryz.ntmps55
  go_wp2_with fail
  refine (acts_1 p c q s _).mono ?_
  rintro e w1 ⟨rfl, b⟩
  have B1 := hd b
  clear b
  obtain ⟨ca, cb, cr, fa, fr, bb⟩ := three_cells B1.out
  have a0 := ca 0
  have b0 := cb 0
  have r0 := cr 0
  have g0 := fr 0
  have a1 := ca 1
  have b1 := cb 1
  have r1 := cr 1
  have g1 := fr 1
  have a2 := ca 2
  have b2 := cb 2
  have r2 := cr 2
  have g2 := fr 2
  have a3 := ca 3
  have b3 := cb 3
  have r3 := cr 3
  have g3 := fr 3
  have a4 := ca 4
  have b4 := cb 4
  have r4 := cr 4
  have g4 := fr 4
  have f1 := fa 1
  simp at a0 a1 a2 a3 a4 b0 b1 b2 b3 b4 r0 r1 r2 r3 r4
  have BB := hd bb
  clear ca cb cr fa fr bb
  go_wp2_with fail
  refine (acts_1 p' c' q' s' _).mono ?_
  rintro e w2 ⟨rfl, b⟩
  have B2 := hd (B1.out.trans (b.mono B1.out.size))
  clear a0 a1 a2 a3 a4 b0 b1 b2 b3 b4 r0 r1 r2 r3 r4 g0 g1 g2 g3 g4 f1 BB
  clear b B1
  obtain ⟨ca, cb, cr, fa, fr, bb⟩ := three_cells B2.out
  have a0 := ca 0
  have b0 := cb 0
  have r0 := cr 0
  have g0 := fr 0
  have a1 := ca 1
  have b1 := cb 1
  have r1 := cr 1
  have g1 := fr 1
  have a2 := ca 2
  have b2 := cb 2
  have r2 := cr 2
  have g2 := fr 2
  have a3 := ca 3
  have b3 := cb 3
  have r3 := cr 3
  have g3 := fr 3
  have a4 := ca 4
  have b4 := cb 4
  have r4 := cr 4
  have g4 := fr 4
  have f1 := fa 1
  simp at a0 a1 a2 a3 a4 b0 b1 b2 b3 b4 r0 r1 r2 r3 r4
  have BB := hd bb
  clear ca cb cr fa fr bb
  go_wp2_with fail
  refine (ahead_any 1 p' c' q' s' 1 p c q s f _ (by simp) (by simp)).mono ?_
  rintro e w3 ⟨rfl, b⟩
  rw [HA.out]
  have B3 := hd (B2.out.trans (b.mono B2.out.size))
  clear a0 a1 a2 a3 a4 b0 b1 b2 b3 b4 r0 r1 r2 r3 r4 g0 g1 g2 g3 g4 f1 BB
  clear b B2
  obtain ⟨ca, cb, cr, fa, fr, bb⟩ := three_cells B3.out
  have a0 := ca 0
  have b0 := cb 0
  have r0 := cr 0
  have g0 := fr 0
  have a1 := ca 1
  have b1 := cb 1
  have r1 := cr 1
  have g1 := fr 1
  have a2 := ca 2
  have b2 := cb 2
  have r2 := cr 2
  have g2 := fr 2
  have a3 := ca 3
  have b3 := cb 3
  have r3 := cr 3
  have g3 := fr 3
  have a4 := ca 4
  have b4 := cb 4
  have r4 := cr 4
  have g4 := fr 4
  have f1 := fa 1
  simp at a0 a1 a2 a3 a4 b0 b1 b2 b3 b4 r0 r1 r2 r3 r4
  have BB := hd bb
  clear ca cb cr fa fr bb
  go_wp2
  refine bodyPost_ret (v := .agg #[.int .i64 1, .int .i64 (wrap64 (p + 1)), .int .u8 c, .int .i64 q, .int .i64 s]) (by simp [results, Tryz.results55, go_sem, r0, r1, r2, r3, r4]) rfl ?_
  exact ⟨rfl, ((((((BB.out.setCell (by simp <;> omega) _).setCell (by simp <;> omega) _).setCell (by simp <;> omega) _).setCell (by simp <;> omega) _).setCell (by simp <;> omega) _).setCell (by simp <;> omega) _)⟩

set_option maxHeartbeats 4000000 in
theorem rs_11f (p c q s p' c' q' s' : Int) (f : Bool) (w : World) (hA : aheadP 1 p' 1 p f = false) : Calls Tryz.prog 55 #[.agg #[.int .i64 1, .int .i64 p, .int .u8 c, .int .i64 q, .int .i64 s], .agg #[.int .i64 1, .int .i64 p', .int .u8 c', .int .i64 q', .int .i64 s'], .bool f] w fun e w' =>
    e = .returned (.agg #[.int .i64 1, .int .i64 p, .int .u8 c, .int .i64 q, .int .i64 s]) ∧ Below w.heap.size w w' := by
  have HA := hd hA
  clear hA
  go_enter Tryz.func55, Tryz.ntmps55
  go_wp2_with fail
  refine (acts_1 p c q s _).mono ?_
  rintro e w1 ⟨rfl, b⟩
  have B1 := hd b
  clear b
  obtain ⟨ca, cb, cr, fa, fr, bb⟩ := three_cells B1.out
  have a0 := ca 0
  have b0 := cb 0
  have r0 := cr 0
  have g0 := fr 0
  have a1 := ca 1
  have b1 := cb 1
  have r1 := cr 1
  have g1 := fr 1
  have a2 := ca 2
  have b2 := cb 2
  have r2 := cr 2
  have g2 := fr 2
  have a3 := ca 3
  have b3 := cb 3
  have r3 := cr 3
  have g3 := fr 3
  have a4 := ca 4
  have b4 := cb 4
  have r4 := cr 4
  have g4 := fr 4
  have f1 := fa 1
  simp at a0 a1 a2 a3 a4 b0 b1 b2 b3 b4 r0 r1 r2 r3 r4
  have BB := hd bb
  clear ca cb cr fa fr bb
  go_wp2_with fail
  refine (acts_1 p' c' q' s' _).mono ?_
  rintro e w2 ⟨rfl, b⟩
  have B2 := hd (B1.out.trans (b.mono B1.out.size))
  clear a0 a1 a2 a3 a4 b0 b1 b2 b3 b4 r0 r1 r2 r3 r4 g0 g1 g2 g3 g4 f1 BB
  clear b B1
  obtain ⟨ca, cb, cr, fa, fr, bb⟩ := three_cells B2.out
  have a0 := ca 0
  have b0 := cb 0
  have r0 := cr 0
  have g0 := fr 0
  have a1 := ca 1
  have b1 := cb 1
  have r1 := cr 1
  have g1 := fr 1
  have a2 := ca 2
  have b2 := cb 2
  have r2 := cr 2
  have g2 := fr 2
  have a3 := ca 3
  have b3 := cb 3
  have r3 := cr 3
  have g3 := fr 3
  have a4 := ca 4
  have b4 := cb 4
  have r4 := cr 4
  have g4 := fr 4
  have f1 := fa 1
  simp at a0 a1 a2 a3 a4 b0 b1 b2 b3 b4 r0 r1 r2 r3 r4
  have BB := hd bb
  clear ca cb cr fa fr bb
  go_wp2_with fail
  refine (ahead_any 1 p' c' q' s' 1 p c q s f _ (by simp) (by simp)).mono ?_
  rintro e w3 ⟨rfl, b⟩
  rw [HA.out]
  have B3 := hd (B2.out.trans (b.mono B2.out.size))
  clear a0 a1 a2 a3 a4 b0 b1 b2 b3 b4 r0 r1 r2 r3 r4 g0 g1 g2 g3 g4 f1 BB
  clear b B2
  obtain ⟨ca, cb, cr, fa, fr, bb⟩ := three_cells B3.out
  have a0 := ca 0
  have b0 := cb 0
  have r0 := cr 0
  have g0 := fr 0
  have a1 := ca 1
  have b1 := cb 1
  have r1 := cr 1
  have g1 := fr 1
  have a2 := ca 2
  have b2 := cb 2
  have r2 := cr 2
  have g2 := fr 2
  have a3 := ca 3
  have b3 := cb 3
  have r3 := cr 3
  have g3 := fr 3
  have a4 := ca 4
  have b4 := cb 4
  have r4 := cr 4
  have g4 := fr 4
  have f1 := fa 1
  simp at a0 a1 a2 a3 a4 b0 b1 b2 b3 b4 r0 r1 r2 r3 r4
  have BB := hd bb
  clear ca cb cr fa fr bb
  go_wp2
  refine bodyPost_ret (v := .agg #[.int .i64 1, .int .i64 p, .int .u8 c, .int .i64 q, .int .i64 s]) (by simp [results, Tryz.results55, go_sem, r0, r1, r2, r3, r4]) rfl ?_
  exact ⟨rfl, (((((BB.out.setCell (by simp <;> omega) _).setCell (by simp <;> omega) _).setCell (by simp <;> omega) _).setCell (by simp <;> omega) _).setCell (by simp <;> omega) _)⟩

set_option maxHeartbeats 4000000 in
theorem rs_12t (p c q s p' c' q' s' : Int) (f : Bool) (w : World) (hA : aheadP 2 p' 1 p f = true) : Calls Tryz.prog 55 #[.agg #[.int .i64 1, .int .i64 p, .int .u8 c, .int .i64 q, .int .i64 s], .agg #[.int .i64 2, .int .i64 p', .int .u8 c', .int .i64 q', .int .i64 s'], .bool f] w fun e w' =>
    e = .returned (.agg #[.int .i64 1, .int .i64 (wrap64 (p - 1)), .int .u8 c, .int .i64 q, .int .i64 s]) ∧ Below w.heap.size w w' := by
  have HA := hd hA
  clear hA
  go_enter Tryz.func55, Tryz.ntmps55
  go_wp2_with fail
  refine (acts_1 p c q s _).mono ?_
  rintro e w1 ⟨rfl, b⟩
  have B1 := hd b
  clear b
  obtain ⟨ca, cb, cr, fa, fr, bb⟩ := three_cells B1.out
  have a0 := ca 0
  have b0 := cb 0
  have r0 := cr 0
  have g0 := fr 0
  have a1 := ca 1
  have b1 := cb 1
  have r1 := cr 1
  have g1 := fr 1
  have a2 := ca 2
  have b2 := cb 2
  have r2 := cr 2
  have g2 := fr 2
  have a3 := ca 3
  have b3 := cb 3
  have r3 := cr 3
  have g3 := fr 3
  have a4 := ca 4
  have b4 := cb 4
  have r4 := cr 4
  have g4 := fr 4
  have f1 := fa 1
  simp at a0 a1 a2 a3 a4 b0 b1 b2 b3 b4 r0 r1 r2 r3 r4
  have BB := hd bb
  clear ca cb cr fa fr bb
  go_wp2_with fail
  refine (acts_2 p' c' q' s' _).mono ?_
  rintro e w2 ⟨rfl, b⟩
  have B2 := hd (B1.out.trans (b.mono B1.out.size))
  clear a0 a1 a2 a3 a4 b0 b1 b2 b3 b4 r0 r1 r2 r3 r4 g0 g1 g2 g3 g4 f1 BB
  clear b B1
  obtain ⟨ca, cb, cr, fa, fr, bb⟩ := three_cells B2.out
  have a0 := ca 0
  have b0 := cb 0
  have r0 := cr 0
  have g0 := fr 0
  have a1 := ca 1
  have b1 := cb 1
  have r1 := cr 1
  have g1 := fr 1
  have a2 := ca 2
  have b2 := cb 2
  have r2 := cr 2
  have g2 := fr 2
  have a3 := ca 3
  have b3 := cb 3
  have r3 := cr 3
  have g3 := fr 3
  have a4 := ca 4
  have b4 := cb 4
  have r4 := cr 4
  have g4 := fr 4
  have f1 := fa 1
  simp at a0 a1 a2 a3 a4 b0 b1 b2 b3 b4 r0 r1 r2 r3 r4
  have BB := hd bb
  clear ca cb cr fa fr bb
  go_wp2_with fail
  refine (ahead_any 2 p' c' q' s' 1 p c q s f _ (by simp) (by simp)).mono ?_
  rintro e w3 ⟨rfl, b⟩
  rw [HA.out]
  have B3 := hd (B2.out.trans (b.mono B2.out.size))
  clear a0 a1 a2 a3 a4 b0 b1 b2 b3 b4 r0 r1 r2 r3 r4 g0 g1 g2 g3 g4 f1 BB
  clear b B2
  obtain ⟨ca, cb, cr, fa, fr, bb⟩ := three_cells B3.out
  have a0 := ca 0
  have b0 := cb 0
  have r0 := cr 0
  have g0 := fr 0
  have a1 := ca 1
  have b1 := cb 1
  have r1 := cr 1
  have g1 := fr 1
  have a2 := ca 2
  have b2 := cb 2
  have r2 := cr 2
  have g2 := fr 2
  have a3 := ca 3
  have b3 := cb 3
  have r3 := cr 3
  have g3 := fr 3
  have a4 := ca 4
  have b4 := cb 4
  have r4 := cr 4
  have g4 := fr 4
  have f1 := fa 1
  simp at a0 a1 a2 a3 a4 b0 b1 b2 b3 b4 r0 r1 r2 r3 r4
  have BB := hd bb
  clear ca cb cr fa fr bb
  go_wp2
  refine bodyPost_ret (v := .agg #[.int .i64 1, .int .i64 (wrap64 (p - 1)), .int .u8 c, .int .i64 q, .int .i64 s]) (by simp [results, Tryz.results55, go_sem, r0, r1, r2, r3, r4]) rfl ?_
  exact ⟨rfl, ((((((BB.out.setCell (by simp <;> omega) _).setCell (by simp <;> omega) _).setCell (by simp <;> omega) _).setCell (by simp <;> omega) _).setCell (by simp <;> omega) _).setCell (by simp <;> omega) _)⟩

set_option maxHeartbeats 4000000 in
theorem rs_12f (p c q s p' c' q' s' : Int) (f : Bool) (w : World) (hA : aheadP 2 p' 1 p f = false) : Calls Tryz.prog 55 #[.agg #[.int .i64 1, .int .i64 p, .int .u8 c, .int .i64 q, .int .i64 s], .agg #[.int .i64 2, .int .i64 p', .int .u8 c', .int .i64 q', .int .i64 s'], .bool f] w fun e w' =>
    e = .returned (.agg #[.int .i64 1, .int .i64 p, .int .u8 c, .int .i64 q, .int .i64 s]) ∧ Below w.heap.size w w' := by
  have HA := hd hA
  clear hA
  go_enter Tryz.func55, Tryz.ntmps55
  go_wp2_with fail
  refine (acts_1 p c q s _).mono ?_
  rintro e w1 ⟨rfl, b⟩
  have B1 := hd b
  clear b
  obtain ⟨ca, cb, cr, fa, fr, bb⟩ := three_cells B1.out
  have a0 := ca 0
  have b0 := cb 0
  have r0 := cr 0
  have g0 := fr 0
  have a1 := ca 1
  have b1 := cb 1
  have r1 := cr 1
  have g1 := fr 1
  have a2 := ca 2
  have b2 := cb 2
  have r2 := cr 2
  have g2 := fr 2
  have a3 := ca 3
  have b3 := cb 3
  have r3 := cr 3
  have g3 := fr 3
  have a4 := ca 4
  have b4 := cb 4
  have r4 := cr 4
  have g4 := fr 4
  have f1 := fa 1
  simp at a0 a1 a2 a3 a4 b0 b1 b2 b3 b4 r0 r1 r2 r3 r4
  have BB := hd bb
  clear ca cb cr fa fr bb
  go_wp2_with fail
  refine (acts_2 p' c' q' s' _).mono ?_
  rintro e w2 ⟨rfl, b⟩
  have B2 := hd (B1.out.trans (b.mono B1.out.size))
  clear a0 a1 a2 a3 a4 b0 b1 b2 b3 b4 r0 r1 r2 r3 r4 g0 g1 g2 g3 g4 f1 BB
  clear b B1
  obtain ⟨ca, cb, cr, fa, fr, bb⟩ := three_cells B2.out
  have a0 := ca 0
  have b0 := cb 0
  have r0 := cr 0
  have g0 := fr 0
  have a1 := ca 1
  have b1 := cb 1
  have r1 := cr 1
  have g1 := fr 1
  have a2 := ca 2
  have b2 := cb 2
  have r2 := cr 2
  have g2 := fr 2
  have a3 := ca 3
  have b3 := cb 3
  have r3 := cr 3
  have g3 := fr 3
  have a4 := ca 4
  have b4 := cb 4
  have r4 := cr 4
  have g4 := fr 4
  have f1 := fa 1
  simp at a0 a1 a2 a3 a4 b0 b1 b2 b3 b4 r0 r1 r2 r3 r4
  have BB := hd bb
  clear ca cb cr fa fr bb
  go_wp2_with fail
  refine (ahead_any 2 p' c' q' s' 1 p c q s f _ (by simp) (by simp)).mono ?_
  rintro e w3 ⟨rfl, b⟩
  rw [HA.out]
  have B3 := hd (B2.out.trans (b.mono B2.out.size))
  clear a0 a1 a2 a3 a4 b0 b1 b2 b3 b4 r0 r1 r2 r3 r4 g0 g1 g2 g3 g4 f1 BB
  clear b B2
  obtain ⟨ca, cb, cr, fa, fr, bb⟩ := three_cells B3.out
  have a0 := ca 0
  have b0 := cb 0
  have r0 := cr 0
  have g0 := fr 0
  have a1 := ca 1
  have b1 := cb 1
  have r1 := cr 1
  have g1 := fr 1
  have a2 := ca 2
  have b2 := cb 2
  have r2 := cr 2
  have g2 := fr 2
  have a3 := ca 3
  have b3 := cb 3
  have r3 := cr 3
  have g3 := fr 3
  have a4 := ca 4
  have b4 := cb 4
  have r4 := cr 4
  have g4 := fr 4
  have f1 := fa 1
  simp at a0 a1 a2 a3 a4 b0 b1 b2 b3 b4 r0 r1 r2 r3 r4
  have BB := hd bb
  clear ca cb cr fa fr bb
  go_wp2
  refine bodyPost_ret (v := .agg #[.int .i64 1, .int .i64 p, .int .u8 c, .int .i64 q, .int .i64 s]) (by simp [results, Tryz.results55, go_sem, r0, r1, r2, r3, r4]) rfl ?_
  exact ⟨rfl, (((((BB.out.setCell (by simp <;> omega) _).setCell (by simp <;> omega) _).setCell (by simp <;> omega) _).setCell (by simp <;> omega) _).setCell (by simp <;> omega) _)⟩

set_option maxHeartbeats 4000000 in
theorem rs_21t (p c q s p' c' q' s' : Int) (f : Bool) (w : World) (hA : aheadP 1 p' 2 p f = true) : Calls Tryz.prog 55 #[.agg #[.int .i64 2, .int .i64 p, .int .u8 c, .int .i64 q, .int .i64 s], .agg #[.int .i64 1, .int .i64 p', .int .u8 c', .int .i64 q', .int .i64 s'], .bool f] w fun e w' =>
    e = .returned (.agg #[.int .i64 2, .int .i64 (wrap64 (p + 1)), .int .u8 c, .int .i64 q, .int .i64 s]) ∧ Below w.heap.size w w' := by
  have HA := hd hA
  clear hA
  go_enter Tryz.func55, Tryz.ntmps55
  go_wp2_with fail
  refine (acts_2 p c q s _).mono ?_
  rintro e w1 ⟨rfl, b⟩
  have B1 := hd b
  clear b
  obtain ⟨ca, cb, cr, fa, fr, bb⟩ := three_cells B1.out
  have a0 := ca 0
  have b0 := cb 0
  have r0 := cr 0
  have g0 := fr 0
  have a1 := ca 1
  have b1 := cb 1
  have r1 := cr 1
  have g1 := fr 1
  have a2 := ca 2
  have b2 := cb 2
  have r2 := cr 2
  have g2 := fr 2
  have a3 := ca 3
  have b3 := cb 3
  have r3 := cr 3
  have g3 := fr 3
  have a4 := ca 4
  have b4 := cb 4
  have r4 := cr 4
  have g4 := fr 4
  have f1 := fa 1
  simp at a0 a1 a2 a3 a4 b0 b1 b2 b3 b4 r0 r1 r2 r3 r4
  have BB := hd bb
  clear ca cb cr fa fr bb
  go_wp2_with fail
  refine (acts_1 p' c' q' s' _).mono ?_
  rintro e w2 ⟨rfl, b⟩
  have B2 := hd (B1.out.trans (b.mono B1.out.size))
  clear a0 a1 a2 a3 a4 b0 b1 b2 b3 b4 r0 r1 r2 r3 r4 g0 g1 g2 g3 g4 f1 BB
  clear b B1
  obtain ⟨ca, cb, cr, fa, fr, bb⟩ := three_cells B2.out
  have a0 := ca 0
  have b0 := cb 0
  have r0 := cr 0
  have g0 := fr 0
  have a1 := ca 1
  have b1 := cb 1
  have r1 := cr 1
  have g1 := fr 1
  have a2 := ca 2
  have b2 := cb 2
  have r2 := cr 2
  have g2 := fr 2
  have a3 := ca 3
  have b3 := cb 3
  have r3 := cr 3
  have g3 := fr 3
  have a4 := ca 4
  have b4 := cb 4
  have r4 := cr 4
  have g4 := fr 4
  have f1 := fa 1
  simp at a0 a1 a2 a3 a4 b0 b1 b2 b3 b4 r0 r1 r2 r3 r4
  have BB := hd bb
  clear ca cb cr fa fr bb
  go_wp2_with fail
  refine (ahead_any 1 p' c' q' s' 2 p c q s f _ (by simp) (by simp)).mono ?_
  rintro e w3 ⟨rfl, b⟩
  rw [HA.out]
  have B3 := hd (B2.out.trans (b.mono B2.out.size))
  clear a0 a1 a2 a3 a4 b0 b1 b2 b3 b4 r0 r1 r2 r3 r4 g0 g1 g2 g3 g4 f1 BB
  clear b B2
  obtain ⟨ca, cb, cr, fa, fr, bb⟩ := three_cells B3.out
  have a0 := ca 0
  have b0 := cb 0
  have r0 := cr 0
  have g0 := fr 0
  have a1 := ca 1
  have b1 := cb 1
  have r1 := cr 1
  have g1 := fr 1
  have a2 := ca 2
  have b2 := cb 2
  have r2 := cr 2
  have g2 := fr 2
  have a3 := ca 3
  have b3 := cb 3
  have r3 := cr 3
  have g3 := fr 3
  have a4 := ca 4
  have b4 := cb 4
  have r4 := cr 4
  have g4 := fr 4
  have f1 := fa 1
  simp at a0 a1 a2 a3 a4 b0 b1 b2 b3 b4 r0 r1 r2 r3 r4
  have BB := hd bb
  clear ca cb cr fa fr bb
  go_wp2
  refine bodyPost_ret (v := .agg #[.int .i64 2, .int .i64 (wrap64 (p + 1)), .int .u8 c, .int .i64 q, .int .i64 s]) (by simp [results, Tryz.results55, go_sem, r0, r1, r2, r3, r4]) rfl ?_
  exact ⟨rfl, ((((((BB.out.setCell (by simp <;> omega) _).setCell (by simp <;> omega) _).setCell (by simp <;> omega) _).setCell (by simp <;> omega) _).setCell (by simp <;> omega) _).setCell (by simp <;> omega) _)⟩

set_option maxHeartbeats 4000000 in
theorem rs_21f (p c q s p' c' q' s' : Int) (f : Bool) (w : World) (hA : aheadP 1 p' 2 p f = false) : Calls Tryz.prog 55 #[.agg #[.int .i64 2, .int .i64 p, .int .u8 c, .int .i64 q, .int .i64 s], .agg #[.int .i64 1, .int .i64 p', .int .u8 c', .int .i64 q', .int .i64 s'], .bool f] w fun e w' =>
    e = .returned (.agg #[.int .i64 2, .int .i64 p, .int .u8 c, .int .i64 q, .int .i64 s]) ∧ Below w.heap.size w w' := by
  have HA := hd hA
  clear hA
  go_enter Tryz.func55, Tryz.ntmps55
  go_wp2_with fail
  refine (acts_2 p c q s _).mono ?_
  rintro e w1 ⟨rfl, b⟩
  have B1 := hd b
  clear b
  obtain ⟨ca, cb, cr, fa, fr, bb⟩ := three_cells B1.out
  have a0 := ca 0
  have b0 := cb 0
  have r0 := cr 0
  have g0 := fr 0
  have a1 := ca 1
  have b1 := cb 1
  have r1 := cr 1
  have g1 := fr 1
  have a2 := ca 2
  have b2 := cb 2
  have r2 := cr 2
  have g2 := fr 2
  have a3 := ca 3
  have b3 := cb 3
  have r3 := cr 3
  have g3 := fr 3
  have a4 := ca 4
  have b4 := cb 4
  have r4 := cr 4
  have g4 := fr 4
  have f1 := fa 1
  simp at a0 a1 a2 a3 a4 b0 b1 b2 b3 b4 r0 r1 r2 r3 r4
  have BB := hd bb
  clear ca cb cr fa fr bb
  go_wp2_with fail
  refine (acts_1 p' c' q' s' _).mono ?_
  rintro e w2 ⟨rfl, b⟩
  have B2 := hd (B1.out.trans (b.mono B1.out.size))
  clear a0 a1 a2 a3 a4 b0 b1 b2 b3 b4 r0 r1 r2 r3 r4 g0 g1 g2 g3 g4 f1 BB
  clear b B1
  obtain ⟨ca, cb, cr, fa, fr, bb⟩ := three_cells B2.out
  have a0 := ca 0
  have b0 := cb 0
  have r0 := cr 0
  have g0 := fr 0
  have a1 := ca 1
  have b1 := cb 1
  have r1 := cr 1
  have g1 := fr 1
  have a2 := ca 2
  have b2 := cb 2
  have r2 := cr 2
  have g2 := fr 2
  have a3 := ca 3
  have b3 := cb 3
  have r3 := cr 3
  have g3 := fr 3
  have a4 := ca 4
  have b4 := cb 4
  have r4 := cr 4
  have g4 := fr 4
  have f1 := fa 1
  simp at a0 a1 a2 a3 a4 b0 b1 b2 b3 b4 r0 r1 r2 r3 r4
  have BB := hd bb
  clear ca cb cr fa fr bb
  go_wp2_with fail
  refine (ahead_any 1 p' c' q' s' 2 p c q s f _ (by simp) (by simp)).mono ?_
  rintro e w3 ⟨rfl, b⟩
  rw [HA.out]
  have B3 := hd (B2.out.trans (b.mono B2.out.size))
  clear a0 a1 a2 a3 a4 b0 b1 b2 b3 b4 r0 r1 r2 r3 r4 g0 g1 g2 g3 g4 f1 BB
  clear b B2
  obtain ⟨ca, cb, cr, fa, fr, bb⟩ := three_cells B3.out
  have a0 := ca 0
  have b0 := cb 0
  have r0 := cr 0
  have g0 := fr 0
  have a1 := ca 1
  have b1 := cb 1
  have r1 := cr 1
  have g1 := fr 1
  have a2 := ca 2
  have b2 := cb 2
  have r2 := cr 2
  have g2 := fr 2
  have a3 := ca 3
  have b3 := cb 3
  have r3 := cr 3
  have g3 := fr 3
  have a4 := ca 4
  have b4 := cb 4
  have r4 := cr 4
  have g4 := fr 4
  have f1 := fa 1
  simp at a0 a1 a2 a3 a4 b0 b1 b2 b3 b4 r0 r1 r2 r3 r4
  have BB := hd bb
  clear ca cb cr fa fr bb
  go_wp2
  refine bodyPost_ret (v := .agg #[.int .i64 2, .int .i64 p, .int .u8 c, .int .i64 q, .int .i64 s]) (by simp [results, Tryz.results55, go_sem, r0, r1, r2, r3, r4]) rfl ?_
  exact ⟨rfl, (((((BB.out.setCell (by simp <;> omega) _).setCell (by simp <;> omega) _).setCell (by simp <;> omega) _).setCell (by simp <;> omega) _).setCell (by simp <;> omega) _)⟩

set_option maxHeartbeats 4000000 in
theorem rs_22t (p c q s p' c' q' s' : Int) (f : Bool) (w : World) (he : (p == p') = false) (hA : aheadP 2 p' 2 p f = true) : Calls Tryz.prog 55 #[.agg #[.int .i64 2, .int .i64 p, .int .u8 c, .int .i64 q, .int .i64 s], .agg #[.int .i64 2, .int .i64 p', .int .u8 c', .int .i64 q', .int .i64 s'], .bool f] w fun e w' =>
    e = .returned (.agg #[.int .i64 2, .int .i64 (wrap64 (p - 1)), .int .u8 c, .int .i64 q, .int .i64 s]) ∧ Below w.heap.size w w' := by
  have HA := hd hA
  clear hA
  go_enter Tryz.func55, Tryz.ntmps55
  go_wp2_with fail
  refine (acts_2 p c q s _).mono ?_
  rintro e w1 ⟨rfl, b⟩
  have B1 := hd b
  clear b
  obtain ⟨ca, cb, cr, fa, fr, bb⟩ := three_cells B1.out
  have a0 := ca 0
  have b0 := cb 0
  have r0 := cr 0
  have g0 := fr 0
  have a1 := ca 1
  have b1 := cb 1
  have r1 := cr 1
  have g1 := fr 1
  have a2 := ca 2
  have b2 := cb 2
  have r2 := cr 2
  have g2 := fr 2
  have a3 := ca 3
  have b3 := cb 3
  have r3 := cr 3
  have g3 := fr 3
  have a4 := ca 4
  have b4 := cb 4
  have r4 := cr 4
  have g4 := fr 4
  have f1 := fa 1
  simp at a0 a1 a2 a3 a4 b0 b1 b2 b3 b4 r0 r1 r2 r3 r4
  have BB := hd bb
  clear ca cb cr fa fr bb
  go_wp2_with fail
  refine (acts_2 p' c' q' s' _).mono ?_
  rintro e w2 ⟨rfl, b⟩
  have B2 := hd (B1.out.trans (b.mono B1.out.size))
  clear a0 a1 a2 a3 a4 b0 b1 b2 b3 b4 r0 r1 r2 r3 r4 g0 g1 g2 g3 g4 f1 BB
  clear b B1
  obtain ⟨ca, cb, cr, fa, fr, bb⟩ := three_cells B2.out
  have a0 := ca 0
  have b0 := cb 0
  have r0 := cr 0
  have g0 := fr 0
  have a1 := ca 1
  have b1 := cb 1
  have r1 := cr 1
  have g1 := fr 1
  have a2 := ca 2
  have b2 := cb 2
  have r2 := cr 2
  have g2 := fr 2
  have a3 := ca 3
  have b3 := cb 3
  have r3 := cr 3
  have g3 := fr 3
  have a4 := ca 4
  have b4 := cb 4
  have r4 := cr 4
  have g4 := fr 4
  have f1 := fa 1
  simp at a0 a1 a2 a3 a4 b0 b1 b2 b3 b4 r0 r1 r2 r3 r4
  have BB := hd bb
  clear ca cb cr fa fr bb
  go_wp2_with fail
  refine (ahead_any 2 p' c' q' s' 2 p c q s f _ (by simp) (by simp)).mono ?_
  rintro e w3 ⟨rfl, b⟩
  rw [HA.out]
  have B3 := hd (B2.out.trans (b.mono B2.out.size))
  clear a0 a1 a2 a3 a4 b0 b1 b2 b3 b4 r0 r1 r2 r3 r4 g0 g1 g2 g3 g4 f1 BB
  clear b B2
  obtain ⟨ca, cb, cr, fa, fr, bb⟩ := three_cells B3.out
  have a0 := ca 0
  have b0 := cb 0
  have r0 := cr 0
  have g0 := fr 0
  have a1 := ca 1
  have b1 := cb 1
  have r1 := cr 1
  have g1 := fr 1
  have a2 := ca 2
  have b2 := cb 2
  have r2 := cr 2
  have g2 := fr 2
  have a3 := ca 3
  have b3 := cb 3
  have r3 := cr 3
  have g3 := fr 3
  have a4 := ca 4
  have b4 := cb 4
  have r4 := cr 4
  have g4 := fr 4
  have f1 := fa 1
  simp at a0 a1 a2 a3 a4 b0 b1 b2 b3 b4 r0 r1 r2 r3 r4
  have BB := hd bb
  clear ca cb cr fa fr bb
  go_wp2
  refine bodyPost_ret (v := .agg #[.int .i64 2, .int .i64 (wrap64 (p - 1)), .int .u8 c, .int .i64 q, .int .i64 s]) (by simp [results, Tryz.results55, go_sem, r0, r1, r2, r3, r4]) rfl ?_
  exact ⟨rfl, ((((((BB.out.setCell (by simp <;> omega) _).setCell (by simp <;> omega) _).setCell (by simp <;> omega) _).setCell (by simp <;> omega) _).setCell (by simp <;> omega) _).setCell (by simp <;> omega) _)⟩

set_option maxHeartbeats 4000000 in
theorem rs_22f (p c q s p' c' q' s' : Int) (f : Bool) (w : World) (he : (p == p') = false) (hA : aheadP 2 p' 2 p f = false) : Calls Tryz.prog 55 #[.agg #[.int .i64 2, .int .i64 p, .int .u8 c, .int .i64 q, .int .i64 s], .agg #[.int .i64 2, .int .i64 p', .int .u8 c', .int .i64 q', .int .i64 s'], .bool f] w fun e w' =>
    e = .returned (.agg #[.int .i64 2, .int .i64 p, .int .u8 c, .int .i64 q, .int .i64 s]) ∧ Below w.heap.size w w' := by
  have HA := hd hA
  clear hA
  go_enter Tryz.func55, Tryz.ntmps55
  go_wp2_with fail
  refine (acts_2 p c q s _).mono ?_
  rintro e w1 ⟨rfl, b⟩
  have B1 := hd b
  clear b
  obtain ⟨ca, cb, cr, fa, fr, bb⟩ := three_cells B1.out
  have a0 := ca 0
  have b0 := cb 0
  have r0 := cr 0
  have g0 := fr 0
  have a1 := ca 1
  have b1 := cb 1
  have r1 := cr 1
  have g1 := fr 1
  have a2 := ca 2
  have b2 := cb 2
  have r2 := cr 2
  have g2 := fr 2
  have a3 := ca 3
  have b3 := cb 3
  have r3 := cr 3
  have g3 := fr 3
  have a4 := ca 4
  have b4 := cb 4
  have r4 := cr 4
  have g4 := fr 4
  have f1 := fa 1
  simp at a0 a1 a2 a3 a4 b0 b1 b2 b3 b4 r0 r1 r2 r3 r4
  have BB := hd bb
  clear ca cb cr fa fr bb
  go_wp2_with fail
  refine (acts_2 p' c' q' s' _).mono ?_
  rintro e w2 ⟨rfl, b⟩
  have B2 := hd (B1.out.trans (b.mono B1.out.size))
  clear a0 a1 a2 a3 a4 b0 b1 b2 b3 b4 r0 r1 r2 r3 r4 g0 g1 g2 g3 g4 f1 BB
  clear b B1
  obtain ⟨ca, cb, cr, fa, fr, bb⟩ := three_cells B2.out
  have a0 := ca 0
  have b0 := cb 0
  have r0 := cr 0
  have g0 := fr 0
  have a1 := ca 1
  have b1 := cb 1
  have r1 := cr 1
  have g1 := fr 1
  have a2 := ca 2
  have b2 := cb 2
  have r2 := cr 2
  have g2 := fr 2
  have a3 := ca 3
  have b3 := cb 3
  have r3 := cr 3
  have g3 := fr 3
  have a4 := ca 4
  have b4 := cb 4
  have r4 := cr 4
  have g4 := fr 4
  have f1 := fa 1
  simp at a0 a1 a2 a3 a4 b0 b1 b2 b3 b4 r0 r1 r2 r3 r4
  have BB := hd bb
  clear ca cb cr fa fr bb
  go_wp2_with fail
  refine (ahead_any 2 p' c' q' s' 2 p c q s f _ (by simp) (by simp)).mono ?_
  rintro e w3 ⟨rfl, b⟩
  rw [HA.out]
  have B3 := hd (B2.out.trans (b.mono B2.out.size))
  clear a0 a1 a2 a3 a4 b0 b1 b2 b3 b4 r0 r1 r2 r3 r4 g0 g1 g2 g3 g4 f1 BB
  clear b B2
  obtain ⟨ca, cb, cr, fa, fr, bb⟩ := three_cells B3.out
  have a0 := ca 0
  have b0 := cb 0
  have r0 := cr 0
  have g0 := fr 0
  have a1 := ca 1
  have b1 := cb 1
  have r1 := cr 1
  have g1 := fr 1
  have a2 := ca 2
  have b2 := cb 2
  have r2 := cr 2
  have g2 := fr 2
  have a3 := ca 3
  have b3 := cb 3
  have r3 := cr 3
  have g3 := fr 3
  have a4 := ca 4
  have b4 := cb 4
  have r4 := cr 4
  have g4 := fr 4
  have f1 := fa 1
  simp at a0 a1 a2 a3 a4 b0 b1 b2 b3 b4 r0 r1 r2 r3 r4
  have BB := hd bb
  clear ca cb cr fa fr bb
  go_wp2
  refine bodyPost_ret (v := .agg #[.int .i64 2, .int .i64 p, .int .u8 c, .int .i64 q, .int .i64 s]) (by simp [results, Tryz.results55, go_sem, r0, r1, r2, r3, r4]) rfl ?_
  exact ⟨rfl, (((((BB.out.setCell (by simp <;> omega) _).setCell (by simp <;> omega) _).setCell (by simp <;> omega) _).setCell (by simp <;> omega) _).setCell (by simp <;> omega) _)⟩

set_option maxHeartbeats 4000000 in
theorem rs_22e (p c q s c' q' s' : Int) (f : Bool) (w : World) : Calls Tryz.prog 55 #[.agg #[.int .i64 2, .int .i64 p, .int .u8 c, .int .i64 q, .int .i64 s], .agg #[.int .i64 2, .int .i64 p, .int .u8 c', .int .i64 q', .int .i64 s'], .bool f] w fun e w' =>
    e = .returned (.agg #[.int .i64 0, .int .i64 0, .int .u8 0, .int .i64 q, .int .i64 s]) ∧ Below w.heap.size w w' := by
  go_enter Tryz.func55, Tryz.ntmps55
  go_wp2_with fail
  refine (acts_2 p c q s _).mono ?_
  rintro e w1 ⟨rfl, b⟩
  have B1 := hd b
  clear b
  obtain ⟨ca, cb, cr, fa, fr, bb⟩ := three_cells B1.out
  have a0 := ca 0
  have b0 := cb 0
  have r0 := cr 0
  have g0 := fr 0
  have a1 := ca 1
  have b1 := cb 1
  have r1 := cr 1
  have g1 := fr 1
  have a2 := ca 2
  have b2 := cb 2
  have r2 := cr 2
  have g2 := fr 2
  have a3 := ca 3
  have b3 := cb 3
  have r3 := cr 3
  have g3 := fr 3
  have a4 := ca 4
  have b4 := cb 4
  have r4 := cr 4
  have g4 := fr 4
  have f1 := fa 1
  simp at a0 a1 a2 a3 a4 b0 b1 b2 b3 b4 r0 r1 r2 r3 r4
  have BB := hd bb
  clear ca cb cr fa fr bb
  go_wp2_with fail
  refine (acts_2 p c' q' s' _).mono ?_
  rintro e w2 ⟨rfl, b⟩
  have B2 := hd (B1.out.trans (b.mono B1.out.size))
  clear a0 a1 a2 a3 a4 b0 b1 b2 b3 b4 r0 r1 r2 r3 r4 g0 g1 g2 g3 g4 f1 BB
  clear b B1
  obtain ⟨ca, cb, cr, fa, fr, bb⟩ := three_cells B2.out
  have a0 := ca 0
  have b0 := cb 0
  have r0 := cr 0
  have g0 := fr 0
  have a1 := ca 1
  have b1 := cb 1
  have r1 := cr 1
  have g1 := fr 1
  have a2 := ca 2
  have b2 := cb 2
  have r2 := cr 2
  have g2 := fr 2
  have a3 := ca 3
  have b3 := cb 3
  have r3 := cr 3
  have g3 := fr 3
  have a4 := ca 4
  have b4 := cb 4
  have r4 := cr 4
  have g4 := fr 4
  have f1 := fa 1
  simp at a0 a1 a2 a3 a4 b0 b1 b2 b3 b4 r0 r1 r2 r3 r4
  have BB := hd bb
  clear ca cb cr fa fr bb
  go_wp2
  refine bodyPost_ret (v := .agg #[.int .i64 0, .int .i64 0, .int .u8 0, .int .i64 q, .int .i64 s]) (by simp [results, Tryz.results55, go_sem, r0, r1, r2, r3, r4]) rfl ?_
  exact ⟨rfl, (((((BB.out.setCell (by simp <;> omega) _).setCell (by simp <;> omega) _).setCell (by simp <;> omega) _).setCell (by simp <;> omega) _).setCell (by simp <;> omega) _)⟩

end Go.Proofs.YtilidolbplglcaaGreatDoor
