/-
  OtTags.
-/
import Derived.Test.YtmkgkgdngjmcmaaDoorWf
namespace Go.Proofs.YtmkgkgdngjmcmaaDoor
open Go.RowKit
set_option linter.unusedVariables false

/-- Two blocks that the call has made, of which nothing has changed since. -/
theorem two_cells {w w1 : World} {ca cb : Array Value} {t : TypeId} (b : Below ((w.alloc (.cells ca t (0, 0))).alloc (.cells cb t (0, 0))).heap.size ((w.alloc (.cells ca t (0, 0))).alloc (.cells cb t (0, 0))) w1) :
    w1.heap[w.heap.size]? = some (.cells ca t (0, 0)) ∧ w1.heap[w.heap.size + 1]? = some (.cells cb t (0, 0)) ∧ Below w.heap.size w w1 ∧ w.heap.size + 2 ≤ w1.heap.size := by
  have hs : ∀ (w : World) o, (w.alloc o).heap.size = w.heap.size + 1 := fun w o => by simp
  have k : ∀ (w : World) o i, i < w.heap.size → (w.alloc o).heap[i]? = w.heap[i]? := fun w o i hi => ((Below.refl w.heap.size w).alloc (Nat.le_refl _) o).block i hi
  refine ⟨?_, ?_, ?_, ?_⟩
  · rw [b.block _ (by simp only [hs]; omega), k _ _ _ (by simp only [hs]; omega)]
    exact heap_alloc_new w _
  · rw [b.block _ (by simp only [hs]; omega)]
    have := heap_alloc_new (w.alloc (.cells ca t (0, 0))) (.cells cb t (0, 0))
    rwa [hs] at this
  · have b0 : Below w.heap.size w ((w.alloc (.cells ca t (0, 0))).alloc (.cells cb t (0, 0))) := ((Below.refl _ _).alloc (Nat.le_refl _) _).alloc (by simp only [hs]; omega) _
    exact b0.trans (b.mono (by simp only [hs]; omega))
  · have := b.size
    simp only [hs] at this
    omega

set_option maxHeartbeats 4000000 in
theorem tg_nn (k k' p c q s p' c' q' s' : Int) (f : Bool) (w : World) (hT : Table w) (b1 : (k == 1) = false) (b2 : (k == 2) = false) (b3 : (k != 1) = true) (b4 : (k != 2) = true) (e1 : (k' == 1) = false) (e2 : (k' == 2) = false) (e3 : (k' != 1) = true) (e4 : (k' != 2) = true) (hx : shiftP ⟨k, p, c, q, s⟩ ⟨k', p', c', q', s'⟩ f = ⟨k, p, c, q, s⟩) : Calls Tryd.prog 3 #[.agg #[.int .i64 k, .int .i64 p, .int .u8 c, .int .i64 q, .int .i64 s], .agg #[.int .i64 k', .int .i64 p', .int .u8 c', .int .i64 q', .int .i64 s'], .bool f] w fun e w' =>
    e = .returned (.bool true) ∧ Below w.heap.size w w' := by
  have HX := hd hx
  have HT := hd hT
  clear hx hT
  go_enter Tryd.func3, Tryd.ntmps3
  go_wp2_with fail
  refine (shift_any ⟨k, p, c, q, s⟩ ⟨k', p', c', q', s'⟩ f _ ?_).mono ?_
  · exact HT.out.below (((Below.refl _ _).alloc (Nat.le_refl _) _).alloc (by simp) _) HT.out.1
  rintro e w1 ⟨rfl, b1⟩
  rw [HX.out]
  simp only [OpE.val]
  obtain ⟨ha, hb, hB, hz⟩ := two_cells b1
  obtain ⟨⟨a0, a1, a2, a3, a4⟩, -⟩ := cells5 ha
  obtain ⟨⟨d0, d1, d2, d3, d4⟩, -⟩ := cells5 hb
  have BB := hd hB
  have n0 : w.heap.size < w1.heap.size := by omega
  have n1 : w.heap.size + 1 < w1.heap.size := by omega
  clear ha hb hB hz b1
  go_wp2
  go_ret
  exact ⟨rfl, BB.out.alloc (by omega) _⟩

set_option maxHeartbeats 4000000 in
theorem tg_n1 (k p c q s p' c' q' s' : Int) (f : Bool) (w : World) (hT : Table w) (b1 : (k == 1) = false) (b2 : (k == 2) = false) (b3 : (k != 1) = true) (b4 : (k != 2) = true) (hx : shiftP ⟨k, p, c, q, s⟩ ⟨1, p', c', q', s'⟩ f = ⟨k, p, c, q, s⟩) : Calls Tryd.prog 3 #[.agg #[.int .i64 k, .int .i64 p, .int .u8 c, .int .i64 q, .int .i64 s], .agg #[.int .i64 1, .int .i64 p', .int .u8 c', .int .i64 q', .int .i64 s'], .bool f] w fun e w' =>
    e = .returned (.bool true) ∧ Below w.heap.size w w' := by
  have HX := hd hx
  have HT := hd hT
  clear hx hT
  go_enter Tryd.func3, Tryd.ntmps3
  go_wp2_with fail
  refine (shift_any ⟨k, p, c, q, s⟩ ⟨1, p', c', q', s'⟩ f _ ?_).mono ?_
  · exact HT.out.below (((Below.refl _ _).alloc (Nat.le_refl _) _).alloc (by simp) _) HT.out.1
  rintro e w1 ⟨rfl, b1⟩
  rw [HX.out]
  simp only [OpE.val]
  obtain ⟨ha, hb, hB, hz⟩ := two_cells b1
  obtain ⟨⟨a0, a1, a2, a3, a4⟩, -⟩ := cells5 ha
  obtain ⟨⟨d0, d1, d2, d3, d4⟩, -⟩ := cells5 hb
  have BB := hd hB
  have n0 : w.heap.size < w1.heap.size := by omega
  have n1 : w.heap.size + 1 < w1.heap.size := by omega
  clear ha hb hB hz b1
  go_wp2
  go_ret
  exact ⟨rfl, BB.out.alloc (by omega) _⟩

set_option maxHeartbeats 4000000 in
theorem tg_n2 (k p c q s p' c' q' s' : Int) (f : Bool) (w : World) (hT : Table w) (b1 : (k == 1) = false) (b2 : (k == 2) = false) (b3 : (k != 1) = true) (b4 : (k != 2) = true) (hx : shiftP ⟨k, p, c, q, s⟩ ⟨2, p', c', q', s'⟩ f = ⟨k, p, c, q, s⟩) : Calls Tryd.prog 3 #[.agg #[.int .i64 k, .int .i64 p, .int .u8 c, .int .i64 q, .int .i64 s], .agg #[.int .i64 2, .int .i64 p', .int .u8 c', .int .i64 q', .int .i64 s'], .bool f] w fun e w' =>
    e = .returned (.bool true) ∧ Below w.heap.size w w' := by
  have HX := hd hx
  have HT := hd hT
  clear hx hT
  go_enter Tryd.func3, Tryd.ntmps3
  go_wp2_with fail
  refine (shift_any ⟨k, p, c, q, s⟩ ⟨2, p', c', q', s'⟩ f _ ?_).mono ?_
  · exact HT.out.below (((Below.refl _ _).alloc (Nat.le_refl _) _).alloc (by simp) _) HT.out.1
  rintro e w1 ⟨rfl, b1⟩
  rw [HX.out]
  simp only [OpE.val]
  obtain ⟨ha, hb, hB, hz⟩ := two_cells b1
  obtain ⟨⟨a0, a1, a2, a3, a4⟩, -⟩ := cells5 ha
  obtain ⟨⟨d0, d1, d2, d3, d4⟩, -⟩ := cells5 hb
  have BB := hd hB
  have n0 : w.heap.size < w1.heap.size := by omega
  have n1 : w.heap.size + 1 < w1.heap.size := by omega
  clear ha hb hB hz b1
  go_wp2
  go_ret
  exact ⟨rfl, BB.out.alloc (by omega) _⟩

set_option maxHeartbeats 4000000 in
theorem tg_1n (k' p c q s p' c' q' s' : Int) (f : Bool) (w : World) (hT : Table w) (e1 : (k' == 1) = false) (e2 : (k' == 2) = false) (e3 : (k' != 1) = true) (e4 : (k' != 2) = true) (hx : shiftP ⟨1, p, c, q, s⟩ ⟨k', p', c', q', s'⟩ f = ⟨1, p, c, q, s⟩) : Calls Tryd.prog 3 #[.agg #[.int .i64 1, .int .i64 p, .int .u8 c, .int .i64 q, .int .i64 s], .agg #[.int .i64 k', .int .i64 p', .int .u8 c', .int .i64 q', .int .i64 s'], .bool f] w fun e w' =>
    e = .returned (.bool true) ∧ Below w.heap.size w w' := by
  have HX := hd hx
  have HT := hd hT
  clear hx hT
  go_enter Tryd.func3, Tryd.ntmps3
  go_wp2_with fail
  refine (shift_any ⟨1, p, c, q, s⟩ ⟨k', p', c', q', s'⟩ f _ ?_).mono ?_
  · exact HT.out.below (((Below.refl _ _).alloc (Nat.le_refl _) _).alloc (by simp) _) HT.out.1
  rintro e w1 ⟨rfl, b1⟩
  rw [HX.out]
  simp only [OpE.val]
  obtain ⟨ha, hb, hB, hz⟩ := two_cells b1
  obtain ⟨⟨a0, a1, a2, a3, a4⟩, -⟩ := cells5 ha
  obtain ⟨⟨d0, d1, d2, d3, d4⟩, -⟩ := cells5 hb
  have BB := hd hB
  have n0 : w.heap.size < w1.heap.size := by omega
  have n1 : w.heap.size + 1 < w1.heap.size := by omega
  clear ha hb hB hz b1
  go_wp2
  go_ret
  exact ⟨rfl, BB.out.alloc (by omega) _⟩

set_option maxHeartbeats 4000000 in
theorem tg_2n (k' p c q s p' c' q' s' : Int) (f : Bool) (w : World) (hT : Table w) (e1 : (k' == 1) = false) (e2 : (k' == 2) = false) (e3 : (k' != 1) = true) (e4 : (k' != 2) = true) (hx : shiftP ⟨2, p, c, q, s⟩ ⟨k', p', c', q', s'⟩ f = ⟨2, p, c, q, s⟩) : Calls Tryd.prog 3 #[.agg #[.int .i64 2, .int .i64 p, .int .u8 c, .int .i64 q, .int .i64 s], .agg #[.int .i64 k', .int .i64 p', .int .u8 c', .int .i64 q', .int .i64 s'], .bool f] w fun e w' =>
    e = .returned (.bool true) ∧ Below w.heap.size w w' := by
  have HX := hd hx
  have HT := hd hT
  clear hx hT
  go_enter Tryd.func3, Tryd.ntmps3
  go_wp2_with fail
  refine (shift_any ⟨2, p, c, q, s⟩ ⟨k', p', c', q', s'⟩ f _ ?_).mono ?_
  · exact HT.out.below (((Below.refl _ _).alloc (Nat.le_refl _) _).alloc (by simp) _) HT.out.1
  rintro e w1 ⟨rfl, b1⟩
  rw [HX.out]
  simp only [OpE.val]
  obtain ⟨ha, hb, hB, hz⟩ := two_cells b1
  obtain ⟨⟨a0, a1, a2, a3, a4⟩, -⟩ := cells5 ha
  obtain ⟨⟨d0, d1, d2, d3, d4⟩, -⟩ := cells5 hb
  have BB := hd hB
  have n0 : w.heap.size < w1.heap.size := by omega
  have n1 : w.heap.size + 1 < w1.heap.size := by omega
  clear ha hb hB hz b1
  go_wp2
  go_ret
  exact ⟨rfl, BB.out.alloc (by omega) _⟩

set_option maxHeartbeats 4000000 in
theorem tg_11s (p c q s p' c' q' s' : Int) (f : Bool) (w : World) (hT : Table w) (hx : shiftP ⟨1, p, c, q, s⟩ ⟨1, p', c', q', s'⟩ f = ⟨1, p, c, q, s⟩) : Calls Tryd.prog 3 #[.agg #[.int .i64 1, .int .i64 p, .int .u8 c, .int .i64 q, .int .i64 s], .agg #[.int .i64 1, .int .i64 p', .int .u8 c', .int .i64 q', .int .i64 s'], .bool f] w fun e w' =>
    e = .returned (.bool true) ∧ Below w.heap.size w w' := by
  have HX := hd hx
  have HT := hd hT
  clear hx hT
  go_enter Tryd.func3, Tryd.ntmps3
  go_wp2_with fail
  refine (shift_any ⟨1, p, c, q, s⟩ ⟨1, p', c', q', s'⟩ f _ ?_).mono ?_
  · exact HT.out.below (((Below.refl _ _).alloc (Nat.le_refl _) _).alloc (by simp) _) HT.out.1
  rintro e w1 ⟨rfl, b1⟩
  rw [HX.out]
  simp only [OpE.val]
  obtain ⟨ha, hb, hB, hz⟩ := two_cells b1
  obtain ⟨⟨a0, a1, a2, a3, a4⟩, -⟩ := cells5 ha
  obtain ⟨⟨d0, d1, d2, d3, d4⟩, -⟩ := cells5 hb
  have BB := hd hB
  have n0 : w.heap.size < w1.heap.size := by omega
  have n1 : w.heap.size + 1 < w1.heap.size := by omega
  clear ha hb hB hz b1
  go_wp2
  go_ret
  exact ⟨rfl, BB.out.alloc (by omega) _⟩

set_option maxHeartbeats 4000000 in
theorem tg_11m (p c q s p' c' q' s' : Int) (f : Bool) (w : World) (hT : Table w) (hn : ((wrap64 (p + 1)) == p) = false) (hx : shiftP ⟨1, p, c, q, s⟩ ⟨1, p', c', q', s'⟩ f = ⟨1, (wrap64 (p + 1)), c, q, s⟩) : Calls Tryd.prog 3 #[.agg #[.int .i64 1, .int .i64 p, .int .u8 c, .int .i64 q, .int .i64 s], .agg #[.int .i64 1, .int .i64 p', .int .u8 c', .int .i64 q', .int .i64 s'], .bool f] w fun e w' =>
    e = .returned (.bool true) ∧ Below w.heap.size w w' := by
  have HX := hd hx
  have HT := hd hT
  clear hx hT
  go_enter Tryd.func3, Tryd.ntmps3
  go_wp2_with fail
  refine (shift_any ⟨1, p, c, q, s⟩ ⟨1, p', c', q', s'⟩ f _ ?_).mono ?_
  · exact HT.out.below (((Below.refl _ _).alloc (Nat.le_refl _) _).alloc (by simp) _) HT.out.1
  rintro e w1 ⟨rfl, b1⟩
  rw [HX.out]
  simp only [OpE.val]
  obtain ⟨ha, hb, hB, hz⟩ := two_cells b1
  obtain ⟨⟨a0, a1, a2, a3, a4⟩, -⟩ := cells5 ha
  obtain ⟨⟨d0, d1, d2, d3, d4⟩, -⟩ := cells5 hb
  have BB := hd hB
  have n0 : w.heap.size < w1.heap.size := by omega
  have n1 : w.heap.size + 1 < w1.heap.size := by omega
  clear ha hb hB hz b1
  go_wp2
  go_ret
  exact ⟨rfl, BB.out.alloc (by omega) _⟩

set_option maxHeartbeats 4000000 in
theorem tg_12s (p c q s p' c' q' s' : Int) (f : Bool) (w : World) (hT : Table w) (hx : shiftP ⟨1, p, c, q, s⟩ ⟨2, p', c', q', s'⟩ f = ⟨1, p, c, q, s⟩) : Calls Tryd.prog 3 #[.agg #[.int .i64 1, .int .i64 p, .int .u8 c, .int .i64 q, .int .i64 s], .agg #[.int .i64 2, .int .i64 p', .int .u8 c', .int .i64 q', .int .i64 s'], .bool f] w fun e w' =>
    e = .returned (.bool true) ∧ Below w.heap.size w w' := by
  have HX := hd hx
  have HT := hd hT
  clear hx hT
  go_enter Tryd.func3, Tryd.ntmps3
  go_wp2_with fail
  refine (shift_any ⟨1, p, c, q, s⟩ ⟨2, p', c', q', s'⟩ f _ ?_).mono ?_
  · exact HT.out.below (((Below.refl _ _).alloc (Nat.le_refl _) _).alloc (by simp) _) HT.out.1
  rintro e w1 ⟨rfl, b1⟩
  rw [HX.out]
  simp only [OpE.val]
  obtain ⟨ha, hb, hB, hz⟩ := two_cells b1
  obtain ⟨⟨a0, a1, a2, a3, a4⟩, -⟩ := cells5 ha
  obtain ⟨⟨d0, d1, d2, d3, d4⟩, -⟩ := cells5 hb
  have BB := hd hB
  have n0 : w.heap.size < w1.heap.size := by omega
  have n1 : w.heap.size + 1 < w1.heap.size := by omega
  clear ha hb hB hz b1
  go_wp2
  go_ret
  exact ⟨rfl, BB.out.alloc (by omega) _⟩

set_option maxHeartbeats 4000000 in
theorem tg_12m (p c q s p' c' q' s' : Int) (f : Bool) (w : World) (hT : Table w) (hn : ((wrap64 (p - 1)) == p) = false) (hx : shiftP ⟨1, p, c, q, s⟩ ⟨2, p', c', q', s'⟩ f = ⟨1, (wrap64 (p - 1)), c, q, s⟩) : Calls Tryd.prog 3 #[.agg #[.int .i64 1, .int .i64 p, .int .u8 c, .int .i64 q, .int .i64 s], .agg #[.int .i64 2, .int .i64 p', .int .u8 c', .int .i64 q', .int .i64 s'], .bool f] w fun e w' =>
    e = .returned (.bool true) ∧ Below w.heap.size w w' := by
  have HX := hd hx
  have HT := hd hT
  clear hx hT
  go_enter Tryd.func3, Tryd.ntmps3
  go_wp2_with fail
  refine (shift_any ⟨1, p, c, q, s⟩ ⟨2, p', c', q', s'⟩ f _ ?_).mono ?_
  · exact HT.out.below (((Below.refl _ _).alloc (Nat.le_refl _) _).alloc (by simp) _) HT.out.1
  rintro e w1 ⟨rfl, b1⟩
  rw [HX.out]
  simp only [OpE.val]
  obtain ⟨ha, hb, hB, hz⟩ := two_cells b1
  obtain ⟨⟨a0, a1, a2, a3, a4⟩, -⟩ := cells5 ha
  obtain ⟨⟨d0, d1, d2, d3, d4⟩, -⟩ := cells5 hb
  have BB := hd hB
  have n0 : w.heap.size < w1.heap.size := by omega
  have n1 : w.heap.size + 1 < w1.heap.size := by omega
  clear ha hb hB hz b1
  go_wp2
  go_ret
  exact ⟨rfl, BB.out.alloc (by omega) _⟩

set_option maxHeartbeats 4000000 in
theorem tg_21s (p c q s p' c' q' s' : Int) (f : Bool) (w : World) (hT : Table w) (hx : shiftP ⟨2, p, c, q, s⟩ ⟨1, p', c', q', s'⟩ f = ⟨2, p, c, q, s⟩) : Calls Tryd.prog 3 #[.agg #[.int .i64 2, .int .i64 p, .int .u8 c, .int .i64 q, .int .i64 s], .agg #[.int .i64 1, .int .i64 p', .int .u8 c', .int .i64 q', .int .i64 s'], .bool f] w fun e w' =>
    e = .returned (.bool true) ∧ Below w.heap.size w w' := by
  have HX := hd hx
  have HT := hd hT
  clear hx hT
  go_enter Tryd.func3, Tryd.ntmps3
  go_wp2_with fail
  refine (shift_any ⟨2, p, c, q, s⟩ ⟨1, p', c', q', s'⟩ f _ ?_).mono ?_
  · exact HT.out.below (((Below.refl _ _).alloc (Nat.le_refl _) _).alloc (by simp) _) HT.out.1
  rintro e w1 ⟨rfl, b1⟩
  rw [HX.out]
  simp only [OpE.val]
  obtain ⟨ha, hb, hB, hz⟩ := two_cells b1
  obtain ⟨⟨a0, a1, a2, a3, a4⟩, -⟩ := cells5 ha
  obtain ⟨⟨d0, d1, d2, d3, d4⟩, -⟩ := cells5 hb
  have BB := hd hB
  have n0 : w.heap.size < w1.heap.size := by omega
  have n1 : w.heap.size + 1 < w1.heap.size := by omega
  clear ha hb hB hz b1
  go_wp2
  go_ret
  exact ⟨rfl, BB.out.alloc (by omega) _⟩

set_option maxHeartbeats 4000000 in
theorem tg_21m (p c q s p' c' q' s' : Int) (f : Bool) (w : World) (hT : Table w) (hn : ((wrap64 (p + 1)) == p) = false) (hx : shiftP ⟨2, p, c, q, s⟩ ⟨1, p', c', q', s'⟩ f = ⟨2, (wrap64 (p + 1)), c, q, s⟩) : Calls Tryd.prog 3 #[.agg #[.int .i64 2, .int .i64 p, .int .u8 c, .int .i64 q, .int .i64 s], .agg #[.int .i64 1, .int .i64 p', .int .u8 c', .int .i64 q', .int .i64 s'], .bool f] w fun e w' =>
    e = .returned (.bool true) ∧ Below w.heap.size w w' := by
  have HX := hd hx
  have HT := hd hT
  clear hx hT
  go_enter Tryd.func3, Tryd.ntmps3
  go_wp2_with fail
  refine (shift_any ⟨2, p, c, q, s⟩ ⟨1, p', c', q', s'⟩ f _ ?_).mono ?_
  · exact HT.out.below (((Below.refl _ _).alloc (Nat.le_refl _) _).alloc (by simp) _) HT.out.1
  rintro e w1 ⟨rfl, b1⟩
  rw [HX.out]
  simp only [OpE.val]
  obtain ⟨ha, hb, hB, hz⟩ := two_cells b1
  obtain ⟨⟨a0, a1, a2, a3, a4⟩, -⟩ := cells5 ha
  obtain ⟨⟨d0, d1, d2, d3, d4⟩, -⟩ := cells5 hb
  have BB := hd hB
  have n0 : w.heap.size < w1.heap.size := by omega
  have n1 : w.heap.size + 1 < w1.heap.size := by omega
  clear ha hb hB hz b1
  go_wp2
  go_ret
  exact ⟨rfl, BB.out.alloc (by omega) _⟩

set_option maxHeartbeats 4000000 in
theorem tg_22s (p c q s p' c' q' s' : Int) (f : Bool) (w : World) (hT : Table w) (he : (p == p') = false) (hx : shiftP ⟨2, p, c, q, s⟩ ⟨2, p', c', q', s'⟩ f = ⟨2, p, c, q, s⟩) : Calls Tryd.prog 3 #[.agg #[.int .i64 2, .int .i64 p, .int .u8 c, .int .i64 q, .int .i64 s], .agg #[.int .i64 2, .int .i64 p', .int .u8 c', .int .i64 q', .int .i64 s'], .bool f] w fun e w' =>
    e = .returned (.bool true) ∧ Below w.heap.size w w' := by
  have HX := hd hx
  have HT := hd hT
  clear hx hT
  go_enter Tryd.func3, Tryd.ntmps3
  go_wp2_with fail
  refine (shift_any ⟨2, p, c, q, s⟩ ⟨2, p', c', q', s'⟩ f _ ?_).mono ?_
  · exact HT.out.below (((Below.refl _ _).alloc (Nat.le_refl _) _).alloc (by simp) _) HT.out.1
  rintro e w1 ⟨rfl, b1⟩
  rw [HX.out]
  simp only [OpE.val]
  obtain ⟨ha, hb, hB, hz⟩ := two_cells b1
  obtain ⟨⟨a0, a1, a2, a3, a4⟩, -⟩ := cells5 ha
  obtain ⟨⟨d0, d1, d2, d3, d4⟩, -⟩ := cells5 hb
  have BB := hd hB
  have n0 : w.heap.size < w1.heap.size := by omega
  have n1 : w.heap.size + 1 < w1.heap.size := by omega
  clear ha hb hB hz b1
  go_wp2
  go_ret
  exact ⟨rfl, BB.out.alloc (by omega) _⟩

set_option maxHeartbeats 4000000 in
theorem tg_22m (p c q s p' c' q' s' : Int) (f : Bool) (w : World) (hT : Table w) (he : (p == p') = false) (hn : ((wrap64 (p - 1)) == p) = false) (hx : shiftP ⟨2, p, c, q, s⟩ ⟨2, p', c', q', s'⟩ f = ⟨2, (wrap64 (p - 1)), c, q, s⟩) : Calls Tryd.prog 3 #[.agg #[.int .i64 2, .int .i64 p, .int .u8 c, .int .i64 q, .int .i64 s], .agg #[.int .i64 2, .int .i64 p', .int .u8 c', .int .i64 q', .int .i64 s'], .bool f] w fun e w' =>
    e = .returned (.bool true) ∧ Below w.heap.size w w' := by
  have HX := hd hx
  have HT := hd hT
  clear hx hT
  go_enter Tryd.func3, Tryd.ntmps3
  go_wp2_with fail
  refine (shift_any ⟨2, p, c, q, s⟩ ⟨2, p', c', q', s'⟩ f _ ?_).mono ?_
  · exact HT.out.below (((Below.refl _ _).alloc (Nat.le_refl _) _).alloc (by simp) _) HT.out.1
  rintro e w1 ⟨rfl, b1⟩
  rw [HX.out]
  simp only [OpE.val]
  obtain ⟨ha, hb, hB, hz⟩ := two_cells b1
  obtain ⟨⟨a0, a1, a2, a3, a4⟩, -⟩ := cells5 ha
  obtain ⟨⟨d0, d1, d2, d3, d4⟩, -⟩ := cells5 hb
  have BB := hd hB
  have n0 : w.heap.size < w1.heap.size := by omega
  have n1 : w.heap.size + 1 < w1.heap.size := by omega
  clear ha hb hB hz b1
  go_wp2
  go_ret
  exact ⟨rfl, BB.out.alloc (by omega) _⟩

set_option maxHeartbeats 4000000 in
theorem tg_22e (p c q s c' q' s' : Int) (f : Bool) (w : World) (hT : Table w) (hx : shiftP ⟨2, p, c, q, s⟩ ⟨2, p, c', q', s'⟩ f = ⟨0, 0, 0, q, s⟩) : Calls Tryd.prog 3 #[.agg #[.int .i64 2, .int .i64 p, .int .u8 c, .int .i64 q, .int .i64 s], .agg #[.int .i64 2, .int .i64 p, .int .u8 c', .int .i64 q', .int .i64 s'], .bool f] w fun e w' =>
    e = .returned (.bool true) ∧ Below w.heap.size w w' := by
  have HX := hd hx
  have HT := hd hT
  clear hx hT
  go_enter Tryd.func3, Tryd.ntmps3
  go_wp2_with fail
  refine (shift_any ⟨2, p, c, q, s⟩ ⟨2, p, c', q', s'⟩ f _ ?_).mono ?_
  · exact HT.out.below (((Below.refl _ _).alloc (Nat.le_refl _) _).alloc (by simp) _) HT.out.1
  rintro e w1 ⟨rfl, b1⟩
  rw [HX.out]
  simp only [OpE.val]
  obtain ⟨ha, hb, hB, hz⟩ := two_cells b1
  obtain ⟨⟨a0, a1, a2, a3, a4⟩, -⟩ := cells5 ha
  obtain ⟨⟨d0, d1, d2, d3, d4⟩, -⟩ := cells5 hb
  have BB := hd hB
  have n0 : w.heap.size < w1.heap.size := by omega
  have n1 : w.heap.size + 1 < w1.heap.size := by omega
  clear ha hb hB hz b1
  go_wp2
  go_ret
  exact ⟨rfl, BB.out.alloc (by omega) _⟩

end Go.Proofs.YtmkgkgdngjmcmaaDoor
