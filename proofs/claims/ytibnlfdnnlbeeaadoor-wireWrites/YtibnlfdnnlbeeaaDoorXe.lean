/-
  The answer of the document: read, its first loop.
-/
import Derived.Test.YtibnlfdnnlbeeaaDoorXb
import Derived.Test.YtibnlfdnnlbeeaaDoorXc
import Derived.Test.YtibnlfdnnlbeeaaDoorXd
import Derived.Deep.RegionWith
namespace Go.Proofs.YtibnlfdnnlbeeaaDoor
open Go.RowKit
set_option linter.unusedVariables false

/-- A message in memory. -/
def MB (w : World) (b : Nat) (M : Nat → Int) : Prop := w.heap[b]? = some (.cells #[.int .i64 (M 0), .int .i64 (M 1), .int .i64 (M 2), .int .i64 (M 3), .int .i64 (M 4), .int .i64 (M 5), .int .i64 (M 6), .int .i64 (M 7), .int .i64 (M 8), .int .i64 (M 9), .int .i64 (M 10), .int .u8 (M 11), .int .i64 (M 12), .int .i64 (M 13)] 63 (0, 0))
theorem MB.at {w : World} {b : Nat} {M : Nat → Int} (h : MB w b M) : w.cell? ⟨b, 0, none⟩ = some (.int .i64 (M 0)) ∧ w.cell? ⟨b, 1, none⟩ = some (.int .i64 (M 1)) ∧ w.cell? ⟨b, 2, none⟩ = some (.int .i64 (M 2)) ∧ w.cell? ⟨b, 3, none⟩ = some (.int .i64 (M 3)) ∧ w.cell? ⟨b, 4, none⟩ = some (.int .i64 (M 4)) ∧ w.cell? ⟨b, 5, none⟩ = some (.int .i64 (M 5)) ∧ w.cell? ⟨b, 6, none⟩ = some (.int .i64 (M 6)) ∧ w.cell? ⟨b, 7, none⟩ = some (.int .i64 (M 7)) ∧ w.cell? ⟨b, 8, none⟩ = some (.int .i64 (M 8)) ∧ w.cell? ⟨b, 9, none⟩ = some (.int .i64 (M 9)) ∧ w.cell? ⟨b, 10, none⟩ = some (.int .i64 (M 10)) ∧ w.cell? ⟨b, 11, none⟩ = some (.int .u8 (M 11)) ∧ w.cell? ⟨b, 12, none⟩ = some (.int .i64 (M 12)) ∧ w.cell? ⟨b, 13, none⟩ = some (.int .i64 (M 13)) := by
  refine ⟨?_, ?_, ?_, ?_, ?_, ?_, ?_, ?_, ?_, ?_, ?_, ?_, ?_, ?_⟩ <;> (rw [cell_row h]; rfl)
theorem MB.below {w w' : World} {b : Nat} {M : Nat → Int} (h : MB w b M) (hb : Below w.heap.size w w') : MB w' b M := (hb.block b (block_lt h)).trans h
theorem MB.but {w w' : World} {b r : Nat} {M : Nat → Int} (h : MB w b M) (hb : But r w w') (hr : b ≠ r) : MB w' b M := (hb.block b (block_lt h) hr).trans h
theorem MB.all {w : World} {b : Nat} {M : Nat → Int} (h : MB w b M) (U : Nat → Int) : MB ((((((((((((((w.setCell ⟨b, 0, none⟩ (.int .i64 (U 0))).setCell ⟨b, 1, none⟩ (.int .i64 (U 1))).setCell ⟨b, 2, none⟩ (.int .i64 (U 2))).setCell ⟨b, 3, none⟩ (.int .i64 (U 3))).setCell ⟨b, 4, none⟩ (.int .i64 (U 4))).setCell ⟨b, 5, none⟩ (.int .i64 (U 5))).setCell ⟨b, 6, none⟩ (.int .i64 (U 6))).setCell ⟨b, 7, none⟩ (.int .i64 (U 7))).setCell ⟨b, 8, none⟩ (.int .i64 (U 8))).setCell ⟨b, 9, none⟩ (.int .i64 (U 9))).setCell ⟨b, 10, none⟩ (.int .i64 (U 10))).setCell ⟨b, 11, none⟩ (.int .u8 (U 11))).setCell ⟨b, 12, none⟩ (.int .i64 (U 12))).setCell ⟨b, 13, none⟩ (.int .i64 (U 13))) b U ∧ But b w ((((((((((((((w.setCell ⟨b, 0, none⟩ (.int .i64 (U 0))).setCell ⟨b, 1, none⟩ (.int .i64 (U 1))).setCell ⟨b, 2, none⟩ (.int .i64 (U 2))).setCell ⟨b, 3, none⟩ (.int .i64 (U 3))).setCell ⟨b, 4, none⟩ (.int .i64 (U 4))).setCell ⟨b, 5, none⟩ (.int .i64 (U 5))).setCell ⟨b, 6, none⟩ (.int .i64 (U 6))).setCell ⟨b, 7, none⟩ (.int .i64 (U 7))).setCell ⟨b, 8, none⟩ (.int .i64 (U 8))).setCell ⟨b, 9, none⟩ (.int .i64 (U 9))).setCell ⟨b, 10, none⟩ (.int .i64 (U 10))).setCell ⟨b, 11, none⟩ (.int .u8 (U 11))).setCell ⟨b, 12, none⟩ (.int .i64 (U 12))).setCell ⟨b, 13, none⟩ (.int .i64 (U 13))) := by
  constructor
  · have h0 := set_row h 0 (.int .i64 (U 0))
    have h1 := set_row h0 1 (.int .i64 (U 1))
    have h2 := set_row h1 2 (.int .i64 (U 2))
    have h3 := set_row h2 3 (.int .i64 (U 3))
    have h4 := set_row h3 4 (.int .i64 (U 4))
    have h5 := set_row h4 5 (.int .i64 (U 5))
    have h6 := set_row h5 6 (.int .i64 (U 6))
    have h7 := set_row h6 7 (.int .i64 (U 7))
    have h8 := set_row h7 8 (.int .i64 (U 8))
    have h9 := set_row h8 9 (.int .i64 (U 9))
    have h10 := set_row h9 10 (.int .i64 (U 10))
    have h11 := set_row h10 11 (.int .u8 (U 11))
    have h12 := set_row h11 12 (.int .i64 (U 12))
    have h13 := set_row h12 13 (.int .i64 (U 13))
    refine h13.trans ?_
    simp
  · exact (((((((((((((But.setCell b _ 0 _).trans (But.setCell b _ 1 _)).trans (But.setCell b _ 2 _)).trans (But.setCell b _ 3 _)).trans (But.setCell b _ 4 _)).trans (But.setCell b _ 5 _)).trans (But.setCell b _ 6 _)).trans (But.setCell b _ 7 _)).trans (But.setCell b _ 8 _)).trans (But.setCell b _ 9 _)).trans (But.setCell b _ 10 _)).trans (But.setCell b _ 11 _)).trans (But.setCell b _ 12 _)).trans (But.setCell b _ 13 _)

/-- A message of kind 5 with these fields. -/
def MV (V : Nat → Int) : Nat → Int := fun f => if f = 0 then 5 else V f
theorem MV_upd (V : Nat → Int) (f : Nat) (v : Int) (hf : f ≠ 0) : upd (MV V) f v = MV (fun i => if i = f then v else V i) := by
  funext i
  unfold upd MV
  by_cases h0 : i = 0
  · subst h0
    simp [Ne.symm hf]
  · by_cases h1 : i = f <;> simp [h0, h1, hf]

theorem mput_any (M : Nat → Int) (f : Nat) (v : Int) (w : World) (h1 : f = 1 ∨ f = 8 ∨ f = 9 ∨ f = 10 ∨ f = 11 ∨ f = 12 ∨ f = 13) (hv : 0 ≤ v ∧ v ≤ 65535) (hc : f = 11 → v ≤ 255) : Calls Tryd.prog 49 #[.agg #[.int .i64 (M 0), .int .i64 (M 1), .int .i64 (M 2), .int .i64 (M 3), .int .i64 (M 4), .int .i64 (M 5), .int .i64 (M 6), .int .i64 (M 7), .int .i64 (M 8), .int .i64 (M 9), .int .i64 (M 10), .int .u8 (M 11), .int .i64 (M 12), .int .i64 (M 13)], .int .i64 f, .int .i64 v] w fun e w' => e = .returned (.agg #[.int .i64 ((upd M f v) 0), .int .i64 ((upd M f v) 1), .int .i64 ((upd M f v) 2), .int .i64 ((upd M f v) 3), .int .i64 ((upd M f v) 4), .int .i64 ((upd M f v) 5), .int .i64 ((upd M f v) 6), .int .i64 ((upd M f v) 7), .int .i64 ((upd M f v) 8), .int .i64 ((upd M f v) 9), .int .i64 ((upd M f v) 10), .int .u8 ((upd M f v) 11), .int .i64 ((upd M f v) 12), .int .i64 ((upd M f v) 13)]) ∧ Below w.heap.size w w' := by
  rcases h1 with rfl | rfl | rfl | rfl | rfl | rfl | rfl
  · exact put_1 M v w hv hc
  · exact put_8 M v w hv hc
  · exact put_9 M v w hv hc
  · exact put_10 M v w hv hc
  · exact put_11 M v w hv hc
  · exact put_12 M v w hv hc
  · exact put_13 M v w hv hc

end Go.Proofs.YtibnlfdnnlbeeaaDoor
