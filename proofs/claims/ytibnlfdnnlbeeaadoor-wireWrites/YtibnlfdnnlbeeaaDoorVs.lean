/-
  The array of the fields in memory.
-/
import Derived.Test.YtibnlfdnnlbeeaaDoorVb
namespace Go.Proofs.YtibnlfdnnlbeeaaDoor
open Go.RowKit
set_option linter.unusedVariables false

/-- The array of the fields, at block vb. -/
def VB (w : World) (vb : Nat) (V : Nat → Int) : Prop := w.heap[vb]? = some (.cells #[.int .i64 (V 0), .int .i64 (V 1), .int .i64 (V 2), .int .i64 (V 3), .int .i64 (V 4), .int .i64 (V 5), .int .i64 (V 6), .int .i64 (V 7), .int .i64 (V 8), .int .i64 (V 9), .int .i64 (V 10), .int .i64 (V 11), .int .i64 (V 12), .int .i64 (V 13)] 52 (0, 0))
theorem VB.at {w : World} {vb : Nat} {V : Nat → Int} (h : VB w vb V) (f : Nat) (hf : f < 14) : w.cell? ⟨vb, f, none⟩ = some (.int .i64 (V f)) := by
  rw [cell_row h]
  have : f = 0 ∨ f = 1 ∨ f = 2 ∨ f = 3 ∨ f = 4 ∨ f = 5 ∨ f = 6 ∨ f = 7 ∨ f = 8 ∨ f = 9 ∨ f = 10 ∨ f = 11 ∨ f = 12 ∨ f = 13 := by omega
  rcases this with rfl | rfl | rfl | rfl | rfl | rfl | rfl | rfl | rfl | rfl | rfl | rfl | rfl | rfl <;> rfl
/-- The layout, at block lb. -/
def LB (w : World) (lb nm : Nat) : Prop := w.heap[lb]? = some (.cells #[.int .u16 nm, .bool false] 79 (0, 0))
theorem LB.at {w : World} {lb nm : Nat} (h : LB w lb nm) : w.cell? ⟨lb, 0, none⟩ = some (.int .u16 nm) ∧ w.cell? ⟨lb, 1, none⟩ = some (.bool false) := by
  constructor <;> (rw [cell_row h]; rfl)

theorem VB.frozen {w : World} {vb : Nat} {V : Nat → Int} (h : VB w vb V) (f : Nat) : w.frozen? ⟨vb, f, none⟩ = false := frozen_row h f
theorem VB.below {w w' : World} {vb : Nat} {V : Nat → Int} (h : VB w vb V) (hb : Below w.heap.size w w') : VB w' vb V := (hb.block vb (block_lt h)).trans h
theorem VB.but {w w' : World} {vb r : Nat} {V : Nat → Int} (h : VB w vb V) (hb : But r w w') (hr : vb ≠ r) : VB w' vb V := (hb.block vb (block_lt h) hr).trans h
theorem LB.below {w w' : World} {lb nm : Nat} (h : LB w lb nm) (hb : Below w.heap.size w w') : LB w' lb nm := (hb.block lb (block_lt h)).trans h
theorem LB.but {w w' : World} {lb nm r : Nat} (h : LB w lb nm) (hb : But r w w') (hr : lb ≠ r) : LB w' lb nm := (hb.block lb (block_lt h) hr).trans h
theorem Lims.but {w w' : World} {r : Nat} (h : Lims w) (hb : But r w w') (hr : 1 ≠ r) : Lims w' := by
  have hl := h.lt
  obtain ⟨t, fr, h⟩ := h
  exact ⟨t, fr, (hb.block 1 hl hr).trans h⟩

theorem VB.set {w : World} {vb : Nat} {V : Nat → Int} (h : VB w vb V) (f : Nat) (hf : f < 14) (x : Int) : VB (w.setCell ⟨vb, f, none⟩ (.int .i64 x)) vb (fun i => if i = f then x else V i) := by
  have := set_row h f (.int .i64 x)
  refine this.trans ?_
  have : f = 0 ∨ f = 1 ∨ f = 2 ∨ f = 3 ∨ f = 4 ∨ f = 5 ∨ f = 6 ∨ f = 7 ∨ f = 8 ∨ f = 9 ∨ f = 10 ∨ f = 11 ∨ f = 12 ∨ f = 13 := by omega
  rcases this with rfl | rfl | rfl | rfl | rfl | rfl | rfl | rfl | rfl | rfl | rfl | rfl | rfl | rfl <;> simp
theorem VB.all {w : World} {vb : Nat} {V : Nat → Int} (h : VB w vb V) (U : Nat → Int) : VB ((((((((((((((w.setCell ⟨vb, 0, none⟩ (.int .i64 (U 0))).setCell ⟨vb, 1, none⟩ (.int .i64 (U 1))).setCell ⟨vb, 2, none⟩ (.int .i64 (U 2))).setCell ⟨vb, 3, none⟩ (.int .i64 (U 3))).setCell ⟨vb, 4, none⟩ (.int .i64 (U 4))).setCell ⟨vb, 5, none⟩ (.int .i64 (U 5))).setCell ⟨vb, 6, none⟩ (.int .i64 (U 6))).setCell ⟨vb, 7, none⟩ (.int .i64 (U 7))).setCell ⟨vb, 8, none⟩ (.int .i64 (U 8))).setCell ⟨vb, 9, none⟩ (.int .i64 (U 9))).setCell ⟨vb, 10, none⟩ (.int .i64 (U 10))).setCell ⟨vb, 11, none⟩ (.int .i64 (U 11))).setCell ⟨vb, 12, none⟩ (.int .i64 (U 12))).setCell ⟨vb, 13, none⟩ (.int .i64 (U 13))) vb U ∧ But vb w ((((((((((((((w.setCell ⟨vb, 0, none⟩ (.int .i64 (U 0))).setCell ⟨vb, 1, none⟩ (.int .i64 (U 1))).setCell ⟨vb, 2, none⟩ (.int .i64 (U 2))).setCell ⟨vb, 3, none⟩ (.int .i64 (U 3))).setCell ⟨vb, 4, none⟩ (.int .i64 (U 4))).setCell ⟨vb, 5, none⟩ (.int .i64 (U 5))).setCell ⟨vb, 6, none⟩ (.int .i64 (U 6))).setCell ⟨vb, 7, none⟩ (.int .i64 (U 7))).setCell ⟨vb, 8, none⟩ (.int .i64 (U 8))).setCell ⟨vb, 9, none⟩ (.int .i64 (U 9))).setCell ⟨vb, 10, none⟩ (.int .i64 (U 10))).setCell ⟨vb, 11, none⟩ (.int .i64 (U 11))).setCell ⟨vb, 12, none⟩ (.int .i64 (U 12))).setCell ⟨vb, 13, none⟩ (.int .i64 (U 13))) := by
  constructor
  · have h0 := set_row h 0 (.int .i64 (U 0))
    have h1 := set_row h0 1 (.int .i64 (U 1))
    have h2 := set_row h1 2 (.int .i64 (U 2))
    have h3 := set_row h2 3 (.int .i64 (U 3))
    have h4 := set_row h3 4 (.int .i64 (U 4))
    have h5 := set_row h4 5 (.int .i64 (U 5))
    have h6 := set_row h5 6 (.int .i64 (U 6))
    have h7 := set_row h6 7 (.int .i64 (U 7))
    have h8 := set_row h7 8 (.int .i64 (U 8))
    have h9 := set_row h8 9 (.int .i64 (U 9))
    have h10 := set_row h9 10 (.int .i64 (U 10))
    have h11 := set_row h10 11 (.int .i64 (U 11))
    have h12 := set_row h11 12 (.int .i64 (U 12))
    have h13 := set_row h12 13 (.int .i64 (U 13))
    refine h13.trans ?_
    simp
  · exact (((((((((((((But.setCell vb _ 0 _).trans (But.setCell vb _ 1 _)).trans (But.setCell vb _ 2 _)).trans (But.setCell vb _ 3 _)).trans (But.setCell vb _ 4 _)).trans (But.setCell vb _ 5 _)).trans (But.setCell vb _ 6 _)).trans (But.setCell vb _ 7 _)).trans (But.setCell vb _ 8 _)).trans (But.setCell vb _ 9 _)).trans (But.setCell vb _ 10 _)).trans (But.setCell vb _ 11 _)).trans (But.setCell vb _ 12 _)).trans (But.setCell vb _ 13 _)

end Go.Proofs.YtibnlfdnnlbeeaaDoor
