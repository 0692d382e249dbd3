/-
  The answer of the document: holds.
-/
import Derived.Test.YtibnlfdnnlbeeaaDoorXa
namespace Go.Proofs.YtibnlfdnnlbeeaaDoor
open Go.RowKit
set_option linter.unusedVariables false

set_option maxHeartbeats 4000000 in
theorem holds_any (M : Nat → Int) (f : Nat) (w : World) (h1 : 1 ≤ f) (hf : f < 14) (h5 : M 0 = 5) (h11 : 0 ≤ M 11 ∧ M 11 ≤ 255) : Calls Tryd.prog 28 #[.agg #[.int .i64 (M 0), .int .i64 (M 1), .int .i64 (M 2), .int .i64 (M 3), .int .i64 (M 4), .int .i64 (M 5), .int .i64 (M 6), .int .i64 (M 7), .int .i64 (M 8), .int .i64 (M 9), .int .i64 (M 10), .int .u8 (M 11), .int .i64 (M 12), .int .i64 (M 13)], .int .i64 f] w fun e w' => e = .returned (.bool (holdsP M f)) ∧ Below w.heap.size w w' := by
  obtain ⟨r, hr⟩ : ∃ r, holdsP M f = r := ⟨_, rfl⟩
  rw [hr]
  have HR := hd hr
  have C1 := hd (get_any M f · h1 hf h11)
  have C2 := hd (from_any M f · h1 hf h5)
  have C3 := hd (to_any M f · h1 hf h5)
  have hb : (w.alloc (.cells #[.int .i64 (M 0), .int .i64 (M 1), .int .i64 (M 2), .int .i64 (M 3), .int .i64 (M 4), .int .i64 (M 5), .int .i64 (M 6), .int .i64 (M 7), .int .i64 (M 8), .int .i64 (M 9), .int .i64 (M 10), .int .u8 (M 11), .int .i64 (M 12), .int .i64 (M 13)] 63)).heap[w.heap.size]? = some (.cells #[.int .i64 (M 0), .int .i64 (M 1), .int .i64 (M 2), .int .i64 (M 3), .int .i64 (M 4), .int .i64 (M 5), .int .i64 (M 6), .int .i64 (M 7), .int .i64 (M 8), .int .i64 (M 9), .int .i64 (M 10), .int .u8 (M 11), .int .i64 (M 12), .int .i64 (M 13)] 63 (0, 0)) := heap_alloc_new _ _
  have bz : Below w.heap.size w (w.alloc (.cells #[.int .i64 (M 0), .int .i64 (M 1), .int .i64 (M 2), .int .i64 (M 3), .int .i64 (M 4), .int .i64 (M 5), .int .i64 (M 6), .int .i64 (M 7), .int .i64 (M 8), .int .i64 (M 9), .int .i64 (M 10), .int .u8 (M 11), .int .i64 (M 12), .int .i64 (M 13)] 63)) := (Below.refl _ _).alloc (Nat.le_refl _) _
  have HB := hd hb
  have BZ := hd bz
  clear hr hb bz h5
  go_enter Tryd.func28, Tryd.ntmps28
  go_wp2_with fail
  generalize w.alloc (.cells #[.int .i64 (M 0), .int .i64 (M 1), .int .i64 (M 2), .int .i64 (M 3), .int .i64 (M 4), .int .i64 (M 5), .int .i64 (M 6), .int .i64 (M 7), .int .i64 (M 8), .int .i64 (M 9), .int .i64 (M 10), .int .u8 (M 11), .int .i64 (M 12), .int .i64 (M 13)] 63) = w0 at *
  refine (C1.out _).mono ?_
  rintro e w1 ⟨rfl, b1⟩
  have hb1 := (b1.block _ (block_lt HB.out)).trans HB.out
  have B1 := hd (BZ.out.trans (b1.mono BZ.out.size))
  have HB1 := hd hb1
  have c0 := (cell_row hb1 0).trans (show _ = some (.int .i64 (M 0)) from rfl)
  have c1 := (cell_row hb1 1).trans (show _ = some (.int .i64 (M 1)) from rfl)
  have c2 := (cell_row hb1 2).trans (show _ = some (.int .i64 (M 2)) from rfl)
  have c3 := (cell_row hb1 3).trans (show _ = some (.int .i64 (M 3)) from rfl)
  have c4 := (cell_row hb1 4).trans (show _ = some (.int .i64 (M 4)) from rfl)
  have c5 := (cell_row hb1 5).trans (show _ = some (.int .i64 (M 5)) from rfl)
  have c6 := (cell_row hb1 6).trans (show _ = some (.int .i64 (M 6)) from rfl)
  have c7 := (cell_row hb1 7).trans (show _ = some (.int .i64 (M 7)) from rfl)
  have c8 := (cell_row hb1 8).trans (show _ = some (.int .i64 (M 8)) from rfl)
  have c9 := (cell_row hb1 9).trans (show _ = some (.int .i64 (M 9)) from rfl)
  have c10 := (cell_row hb1 10).trans (show _ = some (.int .i64 (M 10)) from rfl)
  have c11 := (cell_row hb1 11).trans (show _ = some (.int .u8 (M 11)) from rfl)
  have c12 := (cell_row hb1 12).trans (show _ = some (.int .i64 (M 12)) from rfl)
  have c13 := (cell_row hb1 13).trans (show _ = some (.int .i64 (M 13)) from rfl)
  clear b1 hb1
  go_wp2_with fail
  refine (C2.out _).mono ?_
  rintro e w2 ⟨rfl, b2⟩
  have hb2 := (b2.block _ (block_lt HB1.out)).trans HB1.out
  have B2 := hd (B1.out.trans (b2.mono B1.out.size))
  clear c0 c1 c2 c3 c4 c5 c6 c7 c8 c9 c10 c11 c12 c13
  have c0 := (cell_row hb2 0).trans (show _ = some (.int .i64 (M 0)) from rfl)
  have c1 := (cell_row hb2 1).trans (show _ = some (.int .i64 (M 1)) from rfl)
  have c2 := (cell_row hb2 2).trans (show _ = some (.int .i64 (M 2)) from rfl)
  have c3 := (cell_row hb2 3).trans (show _ = some (.int .i64 (M 3)) from rfl)
  have c4 := (cell_row hb2 4).trans (show _ = some (.int .i64 (M 4)) from rfl)
  have c5 := (cell_row hb2 5).trans (show _ = some (.int .i64 (M 5)) from rfl)
  have c6 := (cell_row hb2 6).trans (show _ = some (.int .i64 (M 6)) from rfl)
  have c7 := (cell_row hb2 7).trans (show _ = some (.int .i64 (M 7)) from rfl)
  have c8 := (cell_row hb2 8).trans (show _ = some (.int .i64 (M 8)) from rfl)
  have c9 := (cell_row hb2 9).trans (show _ = some (.int .i64 (M 9)) from rfl)
  have c10 := (cell_row hb2 10).trans (show _ = some (.int .i64 (M 10)) from rfl)
  have c11 := (cell_row hb2 11).trans (show _ = some (.int .u8 (M 11)) from rfl)
  have c12 := (cell_row hb2 12).trans (show _ = some (.int .i64 (M 12)) from rfl)
  have c13 := (cell_row hb2 13).trans (show _ = some (.int .i64 (M 13)) from rfl)
  clear b2 hb2
  by_cases g1 : fromP M f ≤ M f
  · go_wp2_with fail
    refine (C3.out _).mono ?_
    rintro e w3 ⟨rfl, b3⟩
    have R := hd (B2.out.trans (b3.mono B2.out.size))
    obtain rfl : r = decide (M f ≤ toP M f) := by rw [← HR.out, holdsP]; simp [g1]
    clear b3
    go_wp2
    go_ret
    exact ⟨rfl, R.out⟩
  · obtain rfl : r = false := by rw [← HR.out, holdsP]; simp [g1]
    go_wp2
    go_ret
    exact ⟨by first | rfl | simp, B2.out⟩

end Go.Proofs.YtibnlfdnnlbeeaaDoor
