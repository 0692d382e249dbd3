/-
  Cross, of the program.
-/
import Derived.Test.YtmkgkgdngjmcmaaDoorWf
import Derived.Deep.RegionHeld3
namespace Go.Proofs.YtmkgkgdngjmcmaaDoor
open Go.RowKit
set_option linter.unusedVariables false

theorem keep_cell {w : World} {p a : Addr} {u v : Value} (h : w.cell? a = some v) (hb : a.block ≠ p.block) : (w.setCell p u).cell? a = some v := by
  rw [← h]
  exact World.cell?_of_block (Below.heap_setCell w p u a.block hb)

def SX (z : Nat) (k p c q s k' p' c' q' s' : Int) (W : World) : Prop := W.cell? ⟨z, 0, none⟩ = some (.int .i64 k) ∧ W.cell? ⟨z, 1, none⟩ = some (.int .i64 p) ∧ W.cell? ⟨z, 2, none⟩ = some (.int .u8 c) ∧ W.cell? ⟨z, 3, none⟩ = some (.int .i64 q) ∧ W.cell? ⟨z, 4, none⟩ = some (.int .i64 s) ∧ W.cell? ⟨z + 1, 0, none⟩ = some (.int .i64 k') ∧ W.cell? ⟨z + 1, 1, none⟩ = some (.int .i64 p') ∧ W.cell? ⟨z + 1, 2, none⟩ = some (.int .u8 c') ∧ W.cell? ⟨z + 1, 3, none⟩ = some (.int .i64 q') ∧ W.cell? ⟨z + 1, 4, none⟩ = some (.int .i64 s')

theorem SX.out {z : Nat} {k p c q s k' p' c' q' s' : Int} {W : World} (h : SX z k p c q s k' p' c' q' s' W) : W.cell? ⟨z, 0, none⟩ = some (.int .i64 k) ∧ W.cell? ⟨z, 1, none⟩ = some (.int .i64 p) ∧ W.cell? ⟨z, 2, none⟩ = some (.int .u8 c) ∧ W.cell? ⟨z, 3, none⟩ = some (.int .i64 q) ∧ W.cell? ⟨z, 4, none⟩ = some (.int .i64 s) ∧ W.cell? ⟨z + 1, 0, none⟩ = some (.int .i64 k') ∧ W.cell? ⟨z + 1, 1, none⟩ = some (.int .i64 p') ∧ W.cell? ⟨z + 1, 2, none⟩ = some (.int .u8 c') ∧ W.cell? ⟨z + 1, 3, none⟩ = some (.int .i64 q') ∧ W.cell? ⟨z + 1, 4, none⟩ = some (.int .i64 s') := h

theorem SX.set {z : Nat} {k p c q s k' p' c' q' s' : Int} {W : World} (h : SX z k p c q s k' p' c' q' s' W) {g i : Nat} {u : Value} (hg : z + 1 < g) : SX z k p c q s k' p' c' q' s' (W.setCell ⟨g, i, none⟩ u) := by
  obtain ⟨a0, a1, a2, a3, a4, d0, d1, d2, d3, d4⟩ := h
  have n0 : z ≠ g := by omega
  have n1 : z + 1 ≠ g := by omega
  exact ⟨keep_cell a0 n0, keep_cell a1 n0, keep_cell a2 n0, keep_cell a3 n0, keep_cell a4 n0, keep_cell d0 n1, keep_cell d1 n1, keep_cell d2 n1, keep_cell d3 n1, keep_cell d4 n1⟩

theorem SX.set5 {z : Nat} {k p c q s k' p' c' q' s' : Int} {W : World} (h : SX z k p c q s k' p' c' q' s' W) {g : Nat} {u0 u1 u2 u3 u4 : Value} (hg : z + 1 < g) :
    SX z k p c q s k' p' c' q' s' (((((W.setCell ⟨g, 0, none⟩ u0).setCell ⟨g, 1, none⟩ u1).setCell ⟨g, 2, none⟩ u2).setCell ⟨g, 3, none⟩ u3).setCell ⟨g, 4, none⟩ u4) :=
  ((((h.set hg).set hg).set hg).set hg).set hg

set_option maxHeartbeats 8000000 in
theorem cross_of (a b x y : OpE) (w : World) (hT : Table w) (hx : shiftP a b true = x) (hy : shiftP b a false = y) : Calls Tryd.prog 11 #[a.val, b.val] w fun e w' =>
    e = .returned (.tuple #[x.val, y.val]) ∧ Below w.heap.size w w' := by
  obtain ⟨k, p, c, q, s⟩ := a
  obtain ⟨k', p', c', q', s'⟩ := b
  obtain ⟨xk, xp, xc, xq, xs⟩ := x
  obtain ⟨yk, yp, yc, yq, ys⟩ := y
  have HX := hd hx
  have HY := hd hy
  have HT := hd hT
  clear hx hy hT
  simp only [OpE.val]
  go_enter Tryd.func11, Tryd.ntmps11
  go_wp2_with fail
  have B0 := hd (Below.refl ((((w.alloc (.cells #[.int .i64 k, .int .i64 p, .int .u8 c, .int .i64 q, .int .i64 s] 23 (0, 0))).alloc (.cells #[.int .i64 k', .int .i64 p', .int .u8 c', .int .i64 q', .int .i64 s'] 23 (0, 0))).alloc (.cells #[.int .i64 0, .int .i64 0, .int .u8 0, .int .i64 0, .int .i64 0] 23 (0, 0))).alloc (.cells #[.int .i64 0, .int .i64 0, .int .u8 0, .int .i64 0, .int .i64 0] 23 (0, 0))).heap.size ((((w.alloc (.cells #[.int .i64 k, .int .i64 p, .int .u8 c, .int .i64 q, .int .i64 s] 23 (0, 0))).alloc (.cells #[.int .i64 k', .int .i64 p', .int .u8 c', .int .i64 q', .int .i64 s'] 23 (0, 0))).alloc (.cells #[.int .i64 0, .int .i64 0, .int .u8 0, .int .i64 0, .int .i64 0] 23 (0, 0))).alloc (.cells #[.int .i64 0, .int .i64 0, .int .u8 0, .int .i64 0, .int .i64 0] 23 (0, 0))))
  obtain ⟨ha, hb, hr, hs, hB, hz⟩ := four_cells B0.out
  obtain ⟨⟨a0, a1, a2, a3, a4⟩, -⟩ := cells5 ha
  obtain ⟨⟨d0, d1, d2, d3, d4⟩, -⟩ := cells5 hb
  have TW := hd (HT.out.below hB HT.out.1)
  clear ha hb hr hs hB hz
  generalize hW : ((((w.alloc (.cells #[.int .i64 k, .int .i64 p, .int .u8 c, .int .i64 q, .int .i64 s] 23 (0, 0))).alloc (.cells #[.int .i64 k', .int .i64 p', .int .u8 c', .int .i64 q', .int .i64 s'] 23 (0, 0))).alloc (.cells #[.int .i64 0, .int .i64 0, .int .u8 0, .int .i64 0, .int .i64 0] 23 (0, 0))).alloc (.cells #[.int .i64 0, .int .i64 0, .int .u8 0, .int .i64 0, .int .i64 0] 23 (0, 0))) = V at *
  have F4 : Hid (∀ w1, Below V.heap.size V w1 → w1.heap[w.heap.size]? = some (.cells #[.int .i64 k, .int .i64 p, .int .u8 c, .int .i64 q, .int .i64 s] 23 (0, 0)) ∧ w1.heap[w.heap.size + 1]? = some (.cells #[.int .i64 k', .int .i64 p', .int .u8 c', .int .i64 q', .int .i64 s'] 23 (0, 0)) ∧ w1.heap[w.heap.size + 1 + 1]? = some (.cells #[.int .i64 0, .int .i64 0, .int .u8 0, .int .i64 0, .int .i64 0] 23 (0, 0)) ∧ w1.heap[w.heap.size + 1 + 1 + 1]? = some (.cells #[.int .i64 0, .int .i64 0, .int .u8 0, .int .i64 0, .int .i64 0] 23 (0, 0)) ∧ Below w.heap.size w w1 ∧ w.heap.size + 4 ≤ w1.heap.size) := fun w1 h => by subst hW; exact four_cells h
  clear hW B0
  go_region_held3 (fun W => W.cell? ⟨w.heap.size, 0, none⟩ = some (.int .i64 k) ∧ W.cell? ⟨w.heap.size, 1, none⟩ = some (.int .i64 p) ∧ W.cell? ⟨w.heap.size, 2, none⟩ = some (.int .u8 c) ∧ W.cell? ⟨w.heap.size, 3, none⟩ = some (.int .i64 q) ∧ W.cell? ⟨w.heap.size, 4, none⟩ = some (.int .i64 s) ∧ W.cell? ⟨w.heap.size + 1, 0, none⟩ = some (.int .i64 k') ∧ W.cell? ⟨w.heap.size + 1, 1, none⟩ = some (.int .i64 p') ∧ W.cell? ⟨w.heap.size + 1, 2, none⟩ = some (.int .u8 c') ∧ W.cell? ⟨w.heap.size + 1, 3, none⟩ = some (.int .i64 q') ∧ W.cell? ⟨w.heap.size + 1, 4, none⟩ = some (.int .i64 s')) (first | (with_reducible exact SX.out K6) | (with_reducible exact SX.out K7) | (with_reducible exact ⟨by assumption, by assumption, by assumption, by assumption, by assumption, by assumption, by assumption, by assumption, by assumption, by assumption⟩) | (go_keep; done)) (first | (go_at_call_of 9 (Value.bool true); refine (shift_any ⟨k, p, c, q, s⟩ ⟨k', p', c', q', s'⟩ true _ (TW.out.heap ?_)).mono ?_; exact rfl; rintro e w1 ⟨rfl, b1'⟩; rw [HX.out]; simp only [OpE.val]; have b1 : Below V.heap.size V w1 := (below_drewN (Below.refl V.heap.size V) 1).trans b1'; obtain ⟨ha, hb, hr, hs, hB, hz⟩ := F4.out w1 b1; obtain ⟨⟨a0, a1, a2, a3, a4⟩, -⟩ := cells5 ha; obtain ⟨⟨d0, d1, d2, d3, d4⟩, -⟩ := cells5 hb; have T1 := hd (HT.out.below hB HT.out.1); have B1 := hd b1; clear ha hb hr hs hB hz b1 b1') | (go_at_call_of 9 (Value.bool false); refine (shift_any ⟨k', p', c', q', s'⟩ ⟨k, p, c, q, s⟩ false _ (T1.out.heap ?_)).mono ?_; exact rfl; rintro e w2 ⟨rfl, b2'⟩; rw [HY.out]; simp only [OpE.val]; have b2 : Below V.heap.size V w2 := B1.out.trans (b2'.mono B1.out.size); obtain ⟨ha, hb, hr, hs, hB, hz⟩ := F4.out w2 b2; obtain ⟨⟨a0, a1, a2, a3, a4⟩, -⟩ := cells5 ha; obtain ⟨⟨d0, d1, d2, d3, d4⟩, -⟩ := cells5 hb; obtain ⟨⟨r0, r1, r2, r3, r4⟩, ⟨g0, g1, g2, g3, g4⟩⟩ := cells5 hr; obtain ⟨⟨s0, s1, s2, s3, s4⟩, ⟨e0, e1, e2, e3, e4⟩⟩ := cells5 hs; have K2 : SX w.heap.size k p c q s k' p' c' q' s' w2 := ⟨a0, a1, a2, a3, a4, d0, d1, d2, d3, d4⟩; have K6 := K2.set5 (g := w.heap.size + 1 + 1) (u0 := .int .i64 xk) (u1 := .int .i64 xp) (u2 := .int .u8 xc) (u3 := .int .i64 xq) (u4 := .int .i64 xs) (by omega); have K7 := K6.set5 (g := w.heap.size + 1 + 1 + 1) (u0 := .int .i64 yk) (u1 := .int .i64 yp) (u2 := .int .u8 yc) (u3 := .int .i64 yq) (u4 := .int .i64 ys) (by omega); have HB := hd hB; clear ha hb hr hs hB hz b2 b2'))
  go_wp2
  refine bodyPost_ret (v := .tuple #[.agg #[.int .i64 xk, .int .i64 xp, .int .u8 xc, .int .i64 xq, .int .i64 xs], .agg #[.int .i64 yk, .int .i64 yp, .int .u8 yc, .int .i64 yq, .int .i64 ys]]) (by simp [results, Tryd.results11, go_sem, r0, r1, r2, r3, r4, s0, s1, s2, s3, s4]) rfl ?_
  exact ⟨rfl, (((((((((HB.out.setCell (by simp; omega) _).setCell (by simp; omega) _).setCell (by simp; omega) _).setCell (by simp; omega) _).setCell (by simp; omega) _).setCell (by simp; omega) _).setCell (by simp; omega) _).setCell (by simp; omega) _).setCell (by simp; omega) _).setCell (by simp; omega) _⟩

end Go.Proofs.YtmkgkgdngjmcmaaDoor
