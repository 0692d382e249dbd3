/-
  wire.read, of items: the walk.
-/
import Derived.Test.YtibnlfdnnlbeeaaDoorVd
namespace Go.Proofs.YtibnlfdnnlbeeaaDoor
open Go.RowKit
set_option linter.unusedVariables false

/-- An error beside zero values. -/
def ErrV (w : World) (e : Ending) (p c : Int) : Prop := ∃ v, e = .returned (.tuple #[.agg #[.int .i64 0, .int .i64 0, .int .i64 0, .int .i64 0, .int .i64 0, .int .i64 0, .int .i64 0, .int .i64 0, .int .i64 0, .int .i64 0, .int .i64 0, .int .i64 0, .int .i64 0, .int .i64 0], v]) ∧ IsF w v p c
theorem IsF.but {w w' : World} {v : Value} {p c : Int} {r : Nat} (h : IsF w v p c) (hb : But r w w') {u : World} (hu : r < u.heap.size) (hw : ∃ b, v = .iface 74 (.pointer (some ⟨b, 0, none⟩)) ∧ u.heap.size ≤ b) : IsF w' v p c := by
  obtain ⟨b, e, hh⟩ := h
  obtain ⟨b', e', hb'⟩ := hw
  rw [e] at e'
  injection e' with _ e1
  injection e1 with e2
  injection e2 with e3
  injection e3 with e4 _ _
  exact ⟨b, e, (hb.block b (block_lt hh) (by omega)).trans hh⟩

set_option maxHeartbeats 1000000 in
theorem wrap_new (p c : Int) (w : World) :
    Calls Tryd.prog 34 #[.int .i64 p, .int .i64 c] w fun e w' => ∃ v, e = .returned v ∧ IsF w' v p c ∧ Below w.heap.size w w' ∧ ∃ b, v = .iface 74 (.pointer (some ⟨b, 0, none⟩)) ∧ w.heap.size ≤ b := by
  have hn := heap_alloc_new w (.cells #[.int .i64 p, .iface 45 (.int .i64 c)] 77)
  have HN := hd hn
  clear hn
  go_enter Tryd.func34, Tryd.ntmps34
  go_wp2
  go_ret
  exact ⟨_, rfl, ⟨_, rfl, HN.out⟩, (Below.refl _ _).alloc (Nat.le_refl _) _, _, rfl, Nat.le_refl _⟩

/-- What read answers. -/
def ReadO (w : World) (bs : List Int) (e : Ending) (w' : World) : Prop := Below w.heap.size w w' ∧
      ((bs = [] ∧ ErrV w' e 0 62) ∨
       (bs ≠ [] ∧ nmP (bs.getD 0 0) = 0 ∧ ErrV w' e 0 61) ∨
       (bs ≠ [] ∧ nmP (bs.getD 0 0) ≠ 0 ∧ bs.length ≠ sizeP (nmP (bs.getD 0 0)) ∧ ErrV w' e bs.length 62) ∨
       (bs ≠ [] ∧ nmP (bs.getD 0 0) ≠ 0 ∧ bs.length = sizeP (nmP (bs.getD 0 0)) ∧ ∃ k, k < 14 ∧ goodTo (nmP (bs.getD 0 0)) bs k ∧ hasP (nmP (bs.getD 0 0)) k = true ∧ allowsP (nmP (bs.getD 0 0)) (valsTo (nmP (bs.getD 0 0)) bs (k + 1)) k = false ∧ ErrV w' e (posAt (nmP (bs.getD 0 0)) k) 63) ∨
       (bs ≠ [] ∧ nmP (bs.getD 0 0) ≠ 0 ∧ bs.length = sizeP (nmP (bs.getD 0 0)) ∧ goodTo (nmP (bs.getD 0 0)) bs 14 ∧ e = .returned (.tuple #[.agg #[.int .i64 ((valsTo (nmP (bs.getD 0 0)) bs 14) 0), .int .i64 ((valsTo (nmP (bs.getD 0 0)) bs 14) 1), .int .i64 ((valsTo (nmP (bs.getD 0 0)) bs 14) 2), .int .i64 ((valsTo (nmP (bs.getD 0 0)) bs 14) 3), .int .i64 ((valsTo (nmP (bs.getD 0 0)) bs 14) 4), .int .i64 ((valsTo (nmP (bs.getD 0 0)) bs 14) 5), .int .i64 ((valsTo (nmP (bs.getD 0 0)) bs 14) 6), .int .i64 ((valsTo (nmP (bs.getD 0 0)) bs 14) 7), .int .i64 ((valsTo (nmP (bs.getD 0 0)) bs 14) 8), .int .i64 ((valsTo (nmP (bs.getD 0 0)) bs 14) 9), .int .i64 ((valsTo (nmP (bs.getD 0 0)) bs 14) 10), .int .i64 ((valsTo (nmP (bs.getD 0 0)) bs 14) 11), .int .i64 ((valsTo (nmP (bs.getD 0 0)) bs 14) 12), .int .i64 ((valsTo (nmP (bs.getD 0 0)) bs 14) 13)], .nilIface])))


end Go.Proofs.YtibnlfdnnlbeeaaDoor
