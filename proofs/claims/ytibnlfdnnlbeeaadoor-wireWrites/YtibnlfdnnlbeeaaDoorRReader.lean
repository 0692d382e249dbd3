/-
  A reader in memory, and what turns it.
-/
import Derived.Test.YtibnlfdnnlbeeaaDoorParts
namespace Go.Proofs.YtibnlfdnnlbeeaaDoor
open Go.RowKit
variable {D : Nat → Prop}

/-- Every block that was there is as it was, but for the block r. -/
structure But (r : Nat) (w w' : World) : Prop where
  os : w'.os = w.os
  tape : w'.tape = w.tape
  output : w'.output = w.output
  size : w.heap.size ≤ w'.heap.size
  block : ∀ k, k < w.heap.size → k ≠ r → w'.heap[k]? = w.heap[k]?

theorem But.refl (r : Nat) (w : World) : But r w w := ⟨rfl, rfl, rfl, Nat.le_refl _, fun _ _ _ => rfl⟩
theorem But.trans {r : Nat} {a b c : World} (h : But r a b) (k : But r b c) : But r a c :=
  ⟨k.os.trans h.os, k.tape.trans h.tape, k.output.trans h.output, Nat.le_trans h.size k.size, fun i hi hr => (k.block i (Nat.lt_of_lt_of_le hi h.size) hr).trans (h.block i hi hr)⟩
theorem But.of_below {r : Nat} {w w' : World} (h : Below w.heap.size w w') : But r w w' := ⟨h.os, h.tape, h.output, h.size, fun k hk _ => h.block k hk⟩
theorem But.below {r B : Nat} {w w' : World} (h : But r w w') (hB : B ≤ w.heap.size) (hr : B ≤ r) : Below B w w' :=
  ⟨h.os, h.tape, h.output, h.size, fun k hk => h.block k (by omega) (by omega)⟩
theorem But.drewN (r : Nat) (w : World) (m : Nat) : But r w (w.drewN m) := ⟨rfl, rfl, rfl, Nat.le_refl _, fun _ _ _ => rfl⟩
theorem But.setCell (r : Nat) (w : World) (o : Nat) (u : Value) : But r w (w.setCell ⟨r, o, none⟩ u) :=
  ⟨rfl, rfl, rfl, by simp, fun k _ hk => Below.heap_setCell w ⟨r, o, none⟩ u k hk⟩
theorem But.cell {r : Nat} {w w' : World} (h : But r w w') {p : Addr} (hp : p.block < w.heap.size) (hr : p.block ≠ r) : w'.cell? p = w.cell? p := World.cell?_of_block (w := w) (h.block p.block hp hr)

/-- The reader of the program at block r: the bytes xs, the place p, whether it failed. -/
def RD (D : Nat → Prop) (w : World) (r : Nat) (xs : List Int) (p : Nat) (failed : Bool) : Prop :=
  ∃ a n c, w.heap[r]? = some (.cells #[.slice a n c, .int .i64 p, .bool failed] 113 (0, 0)) ∧ IsB w a n c xs ∧ (∀ b off, a = some ⟨b, off, none⟩ → b ≠ r ∧ D b) ∧ p ≤ n ∧ n ≤ 140737488351232

theorem block_lt {w : World} {r : Nat} {o : Obj} (h : w.heap[r]? = some o) : r < w.heap.size := by
  by_cases hg : r < w.heap.size
  · exact hg
  · rw [Array.getElem?_eq_none (by omega)] at h
    simp at h

theorem RD.lt {w : World} {r : Nat} {xs : List Int} {p : Nat} {f : Bool} (h : RD D w r xs p f) : r < w.heap.size := by
  obtain ⟨a, n, c, hh, _⟩ := h
  exact block_lt hh

theorem IsB.but {w w' : World} {a : Option Addr} {n c r : Nat} {xs : List Int} (h : IsB w a n c xs) (hb : But r w w') (hr : ∀ b off, a = some ⟨b, off, none⟩ → b ≠ r) : IsB w' a n c xs := by
  obtain ⟨h1, h2, h3, h4⟩ := h
  refine ⟨h1, h2, h3, fun hn => ?_⟩
  obtain ⟨b, off, e, hlt, hc⟩ := h4 hn
  refine ⟨b, off, e, Nat.lt_of_lt_of_le hlt hb.size, fun i hi => ?_⟩
  rw [hb.cell (p := ⟨b, off + i, none⟩) hlt (hr b off e)]
  exact hc i hi

/-- A reader stays as it is where another block alone turns. -/
theorem RD.but {w w' : World} {r s : Nat} {xs : List Int} {p : Nat} {f : Bool} (h : RD D w r xs p f) (hb : But s w w') (hne : r ≠ s) (hD : ∀ b, D b → b ≠ s) : RD D w' r xs p f := by
  obtain ⟨a, n, c, hh, hB, hr, h1, h2⟩ := h
  exact ⟨a, n, c, (hb.block r (block_lt hh) hne).trans hh, hB.but hb (fun b off e => hD b (hr b off e).2), hr, h1, h2⟩

theorem RD.below {w w' : World} {r : Nat} {xs : List Int} {p : Nat} {f : Bool} (h : RD D w r xs p f) (hb : Below w.heap.size w w') : RD D w' r xs p f := by
  obtain ⟨a, n, c, hh, hB, hr, h1, h2⟩ := h
  exact ⟨a, n, c, (hb.block r (block_lt hh)).trans hh, hB.below hb, hr, h1, h2⟩

theorem cell_row {w : World} {r : Nat} {cur : Array Value} {t : TypeId} (h : w.heap[r]? = some (.cells cur t (0, 0))) (i : Nat) : w.cell? ⟨r, i, none⟩ = cur[i]? := by
  simp [World.cell?, h]
theorem frozen_row {w : World} {r : Nat} {cur : Array Value} {t : TypeId} (h : w.heap[r]? = some (.cells cur t (0, 0))) (i : Nat) : w.frozen? ⟨r, i, none⟩ = false := by
  simp [World.frozen?, h]
theorem set_row {w : World} {r : Nat} {cur : Array Value} {t : TypeId} (h : w.heap[r]? = some (.cells cur t (0, 0))) (i : Nat) (u : Value) : (w.setCell ⟨r, i, none⟩ u).heap[r]? = some (.cells (cur.setIfInBounds i u) t (0, 0)) :=
  heap_setCell_same w r i cur t u h

end Go.Proofs.YtibnlfdnnlbeeaaDoor
