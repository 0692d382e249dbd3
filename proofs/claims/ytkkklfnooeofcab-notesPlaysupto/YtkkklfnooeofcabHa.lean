/-
  Rows of numbers; slices.Sort.
-/
import Derived.Test.YtkkklfnooeofcabSw
import Derived.Test.YtkkklfnooeofcabSx
import Derived.Sort.OwnSortedInts
import Derived.Shelf.Slices.In.SortNone
namespace Go.Proofs.Ytkkklfnooeofcab
open Go.RowKit Go.Maps Go.ChangeMaps Go.MapKept Go.WideMaps
set_option linter.unusedVariables false

def ic (z : Int) : List Value := [.int .i64 z]
theorem sz_ic : Sz ic 1 := fun x => ⟨rfl, fun v hv => by simp [ic] at hv; rw [hv]; rfl⟩
theorem cl_ic (A : List Int) : cl ic A = A.map (Value.int .i64) := by
  unfold cl ic
  induction A with
  | nil => rfl
  | cons b l ih => simp [ih]

theorem sortI_any (w : World) (β : Option Nat) (v : Value) (A : List Int) (hS : SF ic 1 w 3 β v A) (hn : A.length < 4611686018427387904) :
    Calls Try.prog 45 #[v] w fun e w' => e = .returned (.tuple #[]) ∧ SF ic 1 w' 3 β v (A.mergeSort fun x y => decide (x ≤ y)) ∧ Fr (fun k => β = some k) w w' := by
  cases β with
  | none =>
    obtain ⟨rfl, rfl⟩ := hS
    refine (Any.slices_Sort_int_none laysSort none 0 w).mono ?_
    rintro e w' ⟨rfl, rfl⟩
    exact ⟨rfl, ⟨rfl, List.mergeSort_nil⟩, Fr.refl _ _⟩
  | some g =>
    obtain ⟨cap, rfl, cur, hh, ht, hl, h4, h5, h6⟩ := hS
    rw [Nat.mul_one, cl_ic] at ht
    have hH := holds_of_blockI (w := w) (g := g) (cur := cur.toArray) (ss := A) hh (by simpa using ht)
    refine (Any.slices_Sort_int laysSort g 0 cap A w hH (block_lt hh) hn).mono ?_
    rintro e w' ⟨rfl, n, os, rfl⟩
    have hlm : (A.mergeSort fun x y => decide (x ≤ y)).length = A.length := List.length_mergeSort _
    have hb := heap_sortedI (n := n) (os := os) (A.mergeSort fun x y => decide (x ≤ y)).toArray hh
    refine ⟨rfl, ⟨cap, by rw [hlm], (Sort.putCells (Value.int .i64) 0 (A.mergeSort fun x y => decide (x ≤ y)).toArray cur.toArray).toList, by simpa using hb, ?_, rfl, by rw [hlm]; exact h4, h5, by simpa [Sort.putCells] using h6⟩, (fr_grown (grownBy_sortedI _)).mono (fun k _ e => by rw [e])⟩
    rw [Nat.mul_one, cl_ic]
    exact take_putCellsI _ _ (by rw [hlm, List.size_toArray, h6]; omega)

end Go.Proofs.Ytkkklfnooeofcab
