/-
  Rows of bytes that a conversion made; strings.
-/
import Derived.Test.YtlmgogonghafeabTx
import Derived.Test.YtlmgogonghafeabSb
import Derived.Lib.BufferMore
namespace Go.Proofs.Ytlmgogonghafeab
open Go.RowKit Go.Lib
set_option linter.unusedVariables false

theorem frozen_rowF {w : World} {r : Nat} {cur : Array Value} {t : TypeId} {lo hi : Nat} (h : w.heap[r]? = some (.cells cur t (lo, hi))) (i : Nat) (hi : i < lo) : w.frozen? ⟨r, i, none⟩ = false := by
  simp [World.frozen?, h]
  omega
theorem cell_rowF {w : World} {r : Nat} {cur : Array Value} {t : TypeId} {fr : Nat × Nat} (h : w.heap[r]? = some (.cells cur t fr)) (i : Nat) : w.cell? ⟨r, i, none⟩ = cur[i]? := by
  obtain ⟨lo, hi⟩ := fr
  simp [World.cell?, h]

/-- The row that a conversion of a string makes: its bytes, z zeros, the mark behind. -/
def BRow (w : World) (g : Nat) (bs : By) (z : Nat) : Prop :=
  w.heap[g]? = some (.cells (bs.map ub ++ List.replicate z (Value.int .u8 0)).toArray 5 (bs.length + z, bs.length + z + 1))
section
variable {w w' : World} {g z : Nat} {bs : By}
theorem BRow.fr {S : Nat → Prop} (h : BRow w g bs z) (hF : Fr S w w') (hS : ¬ S g) : BRow w' g bs z := hF.keeps h hS
theorem BRow.lt (h : BRow w g bs z) : g < w.heap.size := block_lt h
theorem BRow.cell (h : BRow w g bs z) (i : Nat) (hi : i < bs.length) : w.cell? ⟨g, i, none⟩ = some (ub bs[i]) := by
  rw [cell_rowF h, List.getElem?_toArray, List.getElem?_append_left (by simpa using hi), List.getElem?_map, List.getElem?_eq_getElem hi]
  rfl
theorem BRow.frozen (h : BRow w g bs z) (i : Nat) (hi : i < bs.length) : w.frozen? ⟨g, i, none⟩ = false := frozen_rowF h i (by omega)
theorem BRow.set (h : BRow w g bs z) (i : Nat) (hi : i < bs.length) (c : UInt8) : BRow (w.setCell ⟨g, i, none⟩ (ub c)) g (bs.set i c) z := by
  have := Lib.heap_setCell_same (i := i) h (ub c)
  unfold BRow
  rw [this]
  simp only [List.setIfInBounds_toArray, List.length_set]
  rw [List.set_append_left _ _ (by simpa using hi), List.map_set]
end
theorem bytes_row (w : World) (s : ByteArray) : BRow (bytesWorld w 5 s) w.heap.size s.data.toList (grownCap w s.size 0 5 - s.size) := by
  have h := bytesWorld_at_new w 5 s
  unfold BRow
  rw [h]
  have e : bytesCells w 5 s = (s.data.toList.map ub ++ List.replicate (grownCap w s.size 0 5 - s.size) (Value.int .u8 0)).toArray := by
    apply Array.toList_inj.1
    simp [bytesCells, ub]
  have hs : (bytesCells w 5 s).size = s.data.toList.length + (grownCap w s.size 0 5 - s.size) := by
    rw [e]; simp
  rw [hs, e]
theorem bytes_below (w : World) (s : ByteArray) : Below w.heap.size w (bytesWorld w 5 s) := ⟨rfl, rfl, rfl, by rw [bytesWorld_size]; omega, fun k hk => bytesWorld_at_old w _ s k hk⟩

/-- The string of bytes. -/
def bsA (l : By) : ByteArray := ⟨l.toArray⟩
theorem bsA_list (l : By) : (bsA l).data.toList = l := rfl
theorem bsA_size (l : By) : (bsA l).size = l.length := by simp [bsA, ByteArray.size]
theorem bsA_get (l : By) (k : Nat) (h : k < (bsA l).size) : (bsA l)[k]'h = l[k]'(by rwa [bsA_size] at h) := rfl
theorem bstr_from (l : By) : ∀ r : ByteArray, (l.map (fun b => ((b.toNat : Nat) : Int))).foldl (fun r n => r.push (UInt8.ofNat n.toNat)) r = ⟨r.data ++ l.toArray⟩ := by
  induction l with
  | nil => intro r; cases r; simp
  | cons b l ih =>
    intro r
    rw [List.map_cons, List.foldl_cons, ih]
    have : UInt8.ofNat ((b.toNat : Int)).toNat = b := by rw [Int.toNat_natCast, UInt8.ofNat_toNat]
    rw [this]
    congr 1
    apply Array.toList_inj.1
    simp [ByteArray.push]
theorem bstr_of (l : By) : bstr (l.map (fun b => ((b.toNat : Nat) : Int))) = bsA l := by
  unfold bstr bsA
  rw [bstr_from]
  congr 1
  simp [ByteArray.empty, ByteArray.emptyWithCapacity]
  rfl
/-- The string of a part of a row of bytes. -/
theorem run_str (w : World) (g off n c : Nat) (l : By) (hl : l.length = n) (hc : ∀ j (h : j < l.length), w.cell? ⟨g, off + j, none⟩ = some (ub l[j])) :
    (convert 35 9 (.slice (some ⟨g, off, none⟩) n c)).run Try.prog w = .ok (.string (bsA l)) w := by
  rw [run_convert_bytes_string w 35 9 5 _ _ _ Try.underlying35 Try.underlying5 Try.underlying9, ← bstr_of]
  refine run_bytesToString w ⟨g, off, none⟩ n c _ ?_
  have := run_loadCells_list (P := Try.prog) w ⟨g, off, none⟩ (l.map ub) (fun j v hj => by
    rw [List.getElem?_map] at hj
    have hlt : j < l.length := by
      by_cases h : j < l.length
      · exact h
      · rw [List.getElem?_eq_none (by omega)] at hj; cases hj
    rw [List.getElem?_eq_getElem hlt] at hj
    rw [add_lit, hc j hlt]
    exact hj)
  rw [List.length_map, hl] at this
  rw [this]
  congr 1
  simp [ub]
end Go.Proofs.Ytlmgogonghafeab
