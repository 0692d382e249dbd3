/-
  Texts put together: Ins Inb Inc.
-/
import Derived.Test.YtlmgogonghafeabMA
import Derived.Shelf.RegionOpenPlain
import Derived.Deep.RegionLaw
import Derived.Lib.Overlaps
import Derived.Laws.Externs
import Derived.Lib.AppendZerosOnto
/-! Ins -/
namespace Go.Proofs.Ytlmgogonghafeab
open Go.RowKit Go.Lib
set_option linter.unusedVariables false

theorem sizeE (w : World) : (Go.sizeOf 25).run Try.prog w = .ok 3 w := by
  obtain ⟨i0, hi, hz0, hz1, hz2⟩ := info_parts Try.infoE
  simp [sizeOf, typeInfo, hi, hz1]
theorem sizeE' : (Try.prog.info? 25).map (·.size) = some 3 := by
  obtain ⟨i0, hi, hz0, hz1, hz2⟩ := info_parts Try.infoE
  rw [hi]
  simp [hz1]

theorem row_cells {w : World} {g N : Nat} {xs : List El} {cur : List Value} {t : TypeId} (hg : w.heap[g]? = some (.cells cur.toArray t (0, 0))) (ht : cur.take (N * 3) = cE xs) (hx : xs.length = N) (k : Nat) (hk : k ≤ N) :
    ∀ j v, (cE (xs.drop k))[j]? = some v → w.cell? ((⟨g, k * 3, none⟩ : Addr).add j) = some v := by
  intro j v hj
  rw [add_lit, cell_row hg, List.getElem?_toArray]
  rw [← cE_drop xs k (by omega), List.getElem?_drop, ← ht, List.getElem?_take] at hj
  split at hj
  · exact hj
  · cases hj

end Go.Proofs.Ytlmgogonghafeab

/-! Inb -/
namespace Go.Proofs.Ytlmgogonghafeab
open Go.RowKit Go.Lib
set_option linter.unusedVariables false

theorem splice_take_end {α : Type} (L : List α) (off : Nat) (cs : List α) (hL : off ≤ L.length) : (splice L off cs).take (off + cs.length) = L.take off ++ cs := by
  unfold splice
  have h : (L.take off ++ cs).length = off + cs.length := by simp; omega
  rw [← List.append_assoc, ← h, List.take_left]

theorem grow_take (R : List Value) (xs : List El) (x : El) (i n : Nat) (hx : xs.length = n) (hi : i ≤ n) (hL : (n + 1) * 3 ≤ R.length) (ht : R.take (i * 3) = cE (xs.take i)) :
    (splice (splice R (i * 3) (elc x)) ((i + 1) * 3) (cE (xs.drop i))).take ((n + 1) * 3) = cE (xs.take i ++ x :: xs.drop i) := by
  have hd' : (cE (xs.drop i)).length = (n - i) * 3 := by rw [cE_len, List.length_drop, hx]
  have he : (elc x).length = 3 := rfl
  have h1 : (splice R (i * 3) (elc x)).length = R.length := length_splice _ _ _ (by rw [he]; omega)
  have h2 := splice_take_end (splice R (i * 3) (elc x)) ((i + 1) * 3) (cE (xs.drop i)) (by omega)
  have h3 := splice_take_end R (i * 3) (elc x) (by omega)
  rw [he, show i * 3 + 3 = (i + 1) * 3 by omega] at h3
  rw [hd', show (i + 1) * 3 + (n - i) * 3 = (n + 1) * 3 by omega, h3, ht] at h2
  rw [h2, cE_app, cE_cons, List.append_assoc]

/-- The new row of an append, opened. -/
theorem grown_row (olds z : List Value) (k m : Nat) (o : Nat) (ho : olds.length = o) : ((olds ++ z).toArray ++ Builtin.zeroCells #[.int .u8 0, .int .i64 0, .int .i64 0] k).toList.take o = olds := by
  rw [Array.toList_append, List.toList_toArray, List.append_assoc, ← ho, List.take_left]

theorem zero_len (k : Nat) : (Builtin.zeroCells #[.int .u8 0, .int .i64 0, .int .i64 0] k).toList.length = k * 3 := by
  rw [Array.length_toList, size_zeroCells]
  rfl

set_option maxRecDepth 100000 in
/-- append of the zero values of a make, where there is no room. -/
theorem run_zeros (w : World) (g n i : Nat) (xs : List El) (cur : List Value) (hi : i < n) (hn : n ≤ 4096)
    (hg : w.heap[g]? = some (.cells cur.toArray 25 (0, 0))) (ht : cur.take (n * 3) = cE xs) (hx : xs.length = n) :
    ∃ G w' ROW, n + 1 ≤ G ∧ G ≤ 9223372036854775807 ∧ (∀ ty, (Builtin.append_ #[22, 3] ty #[.slice (some ⟨g, 0, none⟩) i n, .int .i64 ((n : Int) + 1 - (i : Int))]).run Try.prog w = .ok (.slice (some ⟨w.heap.size, 0, none⟩) (n + 1) G) w') ∧
      w'.heap[w.heap.size]? = some (.cells (ROW : List Value).toArray 25 (0, 0)) ∧ ROW.length = G * 3 ∧ ROW.take (i * 3) = cE (xs.take i) ∧ Fr (fun _ => False) w w' := by
  obtain ⟨i0, hi0, hz0, hz1, hz2⟩ := info_parts Try.infoE
  have hold : (Builtin.firstCells i0.size i (.slice (some ⟨g, 0, none⟩) i n)).run Try.prog w.drew = .ok (cE (xs.take i)).toArray w.drew := by
    refine run_firstCells_some w.drew i0.size i ⟨g, 0, none⟩ i n (cE (xs.take i)) (by rw [hz1, cE_len, List.length_take]; congr 1; omega) (fun j v hj => ?_)
    have hgd : w.drew.heap[g]? = some (.cells cur.toArray 25 (0, 0)) := hg
    rw [add_lit, Nat.zero_add, cell_row hgd, List.getElem?_toArray]
    rw [← cE_take xs i (by omega), ← ht, List.take_take, List.getElem?_take] at hj
    split at hj
    · exact hj
    · cases hj
  have h := fun ty => Lib.run_append_grow_zeros w 22 3 ty 25 i0 _ .i64 .i64 Try.underlying22 Try.underlying3 hi0 hz0 (some ⟨g, 0, none⟩) i n (cE (xs.take i)) hold (n + 1 - i) (by omega) (by omega) (by omega) (by omega) (by rw [hz2]; omega) (growslice_fits (by omega) (by rw [hz2]; omega))
  have hk : (n : Int) + 1 - (i : Int) = ((n + 1 - i : Nat) : Int) := by omega
  have hik : i + (n + 1 - i) = n + 1 := by omega
  simp only [hik] at h
  have hG1 := grownCap_ge w (n + 1) n 25
  have hG2 := grownCap_le_maxLen w (n + 1) n 25 (by unfold maxLen; omega)
  generalize grownCap w (n + 1) n 25 = G at h hG1 hG2
  refine ⟨G, _, ((cE (xs.take i)).toArray ++ Builtin.zeroCells #[.int .u8 0, .int .i64 0, .int .i64 0] (n + 1 - i) ++ Builtin.zeroCells #[.int .u8 0, .int .i64 0, .int .i64 0] (G - (n + 1))).toList, hG1, hG2, fun ty => by rw [hk]; exact h ty, ?_, ?_, ?_, (Fr.drew _ w).trans (Fr.alloc _ _ _)⟩
  · rw [show w.heap.size = w.drew.heap.size from rfl, heap_alloc_new]
    simp [Value.cells]
  · rw [Array.toList_append, Array.toList_append, List.length_append, List.length_append, zero_len, zero_len, List.toList_toArray, cE_len, List.length_take]
    omega
  · rw [Array.toList_append, Array.toList_append, List.toList_toArray, List.append_assoc, List.take_append_of_le_length (by rw [cE_len, List.length_take]; omega), List.take_of_length_le (by rw [cE_len, List.length_take]; omega)]

end Go.Proofs.Ytlmgogonghafeab

/-! Inc -/
namespace Go.Proofs.Ytlmgogonghafeab
open Go.RowKit Go.Lib
set_option linter.unusedVariables false

theorem push_take (L : List Value) (xs : List El) (x : El) (n : Nat) (hx : xs.length = n) (hL : n * 3 ≤ L.length) (ht : L.take (n * 3) = cE xs) :
    (splice L (n * 3) (elc x)).take ((n + 1) * 3) = cE (xs ++ [x]) := by
  have h := splice_take_end L (n * 3) (elc x) hL
  rw [show n * 3 + (elc x).length = (n + 1) * 3 from by simp [elc]; omega, ht] at h
  rw [h, cE_app, cE_one]

/-- append of one element onto nil or a row of the call's own. -/
theorem run_pushE (w : World) (β : Option Nat) (v : Value) (xs : List El) (hv : SE w β v xs) (vb : Nat) (x : El) (hb : w.heap[vb]? = some (.cells (elc x).toArray 25 (0, 0))) (hn : xs.length ≤ 4096) :
    ∃ v' w', (∀ ty, (Builtin.append_ #[22, 22] ty #[v, .slice (some ⟨vb, 0, none⟩) 1 1]).run Try.prog w = .ok v' w') ∧ NowE w w' β v' (xs ++ [x]) := by
  obtain ⟨i0, hi0, hz0, hz1, hz2⟩ := info_parts Try.infoE
  have hl : (elc x).length = 1 * i0.size := by rw [hz1]; rfl
  have hnews : ∀ j u, (elc x)[j]? = some u → w.cell? ((⟨vb, 0, none⟩ : Addr).add j) = some u := fun j u hj => by
    rw [add_lit, Nat.zero_add, cell_row hb, List.getElem?_toArray]
    exact hj
  have h1 : ∀ u ∈ elc x, u.oneCell' = true := by rw [← cE_one]; exact cE_one' _
  have newrow : ∀ G, xs.length + 1 ≤ G → G ≤ 9223372036854775807 → RowE (w.drew.alloc (.cells ((cE xs).toArray ++ (elc x).toArray ++ Builtin.zeroCells #[.int .u8 0, .int .i64 0, .int .i64 0] (G - (xs.length + 1))) 25)) w.heap.size (xs.length + 1) G (xs ++ [x]) := by
    intro G hG1 hG2
    refine ⟨((cE xs).toArray ++ (elc x).toArray ++ Builtin.zeroCells #[.int .u8 0, .int .i64 0, .int .i64 0] (G - (xs.length + 1))).toList, ?_, ?_, by simp, hG1, hG2, ?_⟩
    · rw [show w.heap.size = w.drew.heap.size from rfl, heap_alloc_new]
    · rw [Array.toList_append, Array.toList_append, List.toList_toArray, List.toList_toArray]
      have : (cE xs ++ elc x).length = (xs.length + 1) * 3 := by rw [List.length_append, cE_len]; simp [elc]; omega
      rw [← this, List.take_left, cE_app, cE_one]
    · rw [Array.toList_append, Array.toList_append, List.length_append, List.length_append, zero_len, List.toList_toArray, List.toList_toArray, cE_len]
      simp [elc]
      omega
  cases β with
  | none =>
    obtain ⟨rfl, rfl⟩ := hv
    have hr := fun ty => run_append_nil (P := Try.prog) w 22 ty 25 i0 _ Try.underlying22 hi0 hz0 ⟨vb, 0, none⟩ 1 1 (elc x) hl hnews (by omega) (by omega) (by rw [hz2]; omega)
    have hG1 := grownCap_ge w 1 0 25
    have hG2 := grownCap_le_maxLen w 1 0 25 (by unfold maxLen; omega)
    generalize grownCap w 1 0 25 = G at hr hG1 hG2
    refine ⟨_, _, hr, some w.heap.size, ?_, .inr ⟨_, rfl, Nat.le_refl _⟩, (Fr.drew _ w).trans (Fr.alloc _ _ _)⟩
    have := newrow G hG1 hG2
    simp [cE_nil] at this
    refine ⟨G, rfl, ?_⟩
    simpa [Value.cells] using this
  | some g =>
    obtain ⟨cap, rfl, cur, hh, htk, hvl, hnc, hcm, hcs⟩ := hv
    by_cases hroom : xs.length + 1 ≤ cap
    · have hr := fun ty => run_append_room (P := Try.prog) w 22 ty 25 i0 Try.underlying22 hi0 g xs.length cap cur.toArray hh ⟨vb, 0, none⟩ 1 1 (elc x) hl hnews h1 hroom (by rw [hz1]; simp [elc, hcs]; omega)
      refine ⟨_, _, hr, some g, ⟨cap, by simp, ?_⟩, .inl rfl, Fr.setRow _ _ _ rfl⟩
      rw [hz1]
      refine ⟨splice cur (xs.length * 3) (elc x), ?_, by simpa using push_take cur xs x xs.length rfl (by omega) htk, rfl, by simpa using hroom, hcm, ?_⟩
      · have := setRow_heap w g cur.toArray (splice cur (xs.length * 3) (elc x)).toArray 25 _ hh
        simpa [splice] using this
      · rw [length_splice _ _ _ (by simp [elc]; omega), hcs]
    · have holds : ∀ j u, (cE xs)[j]? = some u → w.cell? ((⟨g, 0, none⟩ : Addr).add j) = some u := by
        have := row_cells hh htk rfl 0 (Nat.zero_le _)
        simpa using this
      have hr := fun ty => run_append_grow (P := Try.prog) w 22 ty 25 i0 _ Try.underlying22 hi0 hz0 ⟨g, 0, none⟩ xs.length cap (cE xs) (by rw [hz1, cE_len]) holds ⟨vb, 0, none⟩ 1 1 (elc x) hl hnews (by omega) (by omega) (growslice_fits (by omega) (by rw [hz2]; omega))
      have hG1 := grownCap_ge w (xs.length + 1) cap 25
      have hG2 := grownCap_le_maxLen w (xs.length + 1) cap 25 (by unfold maxLen; omega)
      generalize grownCap w (xs.length + 1) cap 25 = G at hr hG1 hG2
      refine ⟨_, _, hr, some w.heap.size, ⟨G, by simp, ?_⟩, .inr ⟨_, rfl, Nat.le_refl _⟩, (Fr.drew _ w).trans (Fr.alloc _ _ _)⟩
      have := newrow G hG1 hG2
      simpa [Value.cells] using this

end Go.Proofs.Ytlmgogonghafeab
