/-
  slices.Insert of one element: where it grows; and all ways together.
-/
import Derived.Test.YtlmgogonghafeaaIns
import Derived.Lib.AppendZerosOnto
namespace Go.Proofs.Ytlmgogonghafeaa
open Go.RowKit Go.Lib
set_option linter.unusedVariables false

theorem splice_take_end {α : Type} (L : List α) (off : Nat) (cs : List α) (hL : off ≤ L.length) : (splice L off cs).take (off + cs.length) = L.take off ++ cs := by
  unfold splice
  have h : (L.take off ++ cs).length = off + cs.length := by simp; omega
  rw [← List.append_assoc, ← h, List.take_left]

theorem grow_take (R : List Value) (xs : List El) (x : El) (i n : Nat) (hx : xs.length = n) (hi : i ≤ n) (hL : (n + 1) * 3 ≤ R.length) (ht : R.take (i * 3) = cE (xs.take i)) :
    (splice (splice R (i * 3) (elc x)) ((i + 1) * 3) (cE (xs.drop i))).take ((n + 1) * 3) = cE (xs.take i ++ x :: xs.drop i) := by
  have hd' : (cE (xs.drop i)).length = (n - i) * 3 := by rw [cE_len, List.length_drop, hx]
  have he : (elc x).length = 3 := rfl
  have h1 : (splice R (i * 3) (elc x)).length = R.length := length_splice _ _ _ (by rw [he]; omega)
  have h2 := splice_take_end (splice R (i * 3) (elc x)) ((i + 1) * 3) (cE (xs.drop i)) (by omega)
  have h3 := splice_take_end R (i * 3) (elc x) (by omega)
  rw [he, show i * 3 + 3 = (i + 1) * 3 by omega] at h3
  rw [hd', show (i + 1) * 3 + (n - i) * 3 = (n + 1) * 3 by omega, h3, ht] at h2
  rw [h2, cE_app, cE_cons, List.append_assoc]

/-- The new row of an append, opened. -/
theorem grown_row (olds z : List Value) (k m : Nat) (o : Nat) (ho : olds.length = o) : ((olds ++ z).toArray ++ Builtin.zeroCells #[.int .u8 0, .int .i64 0, .int .i64 0] k).toList.take o = olds := by
  rw [Array.toList_append, List.toList_toArray, List.append_assoc, ← ho, List.take_left]

theorem zero_len (k : Nat) : (Builtin.zeroCells #[.int .u8 0, .int .i64 0, .int .i64 0] k).toList.length = k * 3 := by
  rw [Array.length_toList, size_zeroCells]
  rfl

set_option maxRecDepth 100000 in
/-- append of the zero values of a make, where there is no room. -/
theorem run_zeros (w : World) (g n i : Nat) (xs : List El) (cur : List Value) (hi : i < n) (hn : n ≤ 4096)
    (hg : w.heap[g]? = some (.cells cur.toArray 69 (0, 0))) (ht : cur.take (n * 3) = cE xs) (hx : xs.length = n) :
    ∃ G w' ROW, n + 1 ≤ G ∧ G ≤ 9223372036854775807 ∧ (∀ ty, (Builtin.append_ #[22, 3] ty #[.slice (some ⟨g, 0, none⟩) i n, .int .i64 ((n : Int) + 1 - (i : Int))]).run Try.prog w = .ok (.slice (some ⟨w.heap.size, 0, none⟩) (n + 1) G) w') ∧
      w'.heap[w.heap.size]? = some (.cells (ROW : List Value).toArray 69 (0, 0)) ∧ ROW.length = G * 3 ∧ ROW.take (i * 3) = cE (xs.take i) ∧ Fr (fun _ => False) w w' := by
  obtain ⟨i0, hi0, hz0, hz1, hz2⟩ := info_parts Try.infoE
  have hold : (Builtin.firstCells i0.size i (.slice (some ⟨g, 0, none⟩) i n)).run Try.prog w.drew = .ok (cE (xs.take i)).toArray w.drew := by
    refine run_firstCells_some w.drew i0.size i ⟨g, 0, none⟩ i n (cE (xs.take i)) (by rw [hz1, cE_len, List.length_take]; congr 1; omega) (fun j v hj => ?_)
    have hgd : w.drew.heap[g]? = some (.cells cur.toArray 69 (0, 0)) := hg
    rw [add_lit, Nat.zero_add, cell_row hgd, List.getElem?_toArray]
    rw [← cE_take xs i (by omega), ← ht, List.take_take, List.getElem?_take] at hj
    split at hj
    · exact hj
    · cases hj
  have h := fun ty => Lib.run_append_grow_zeros w 22 3 ty 69 i0 _ .i64 .i64 Try.underlying22 Try.underlying3 hi0 hz0 (some ⟨g, 0, none⟩) i n (cE (xs.take i)) hold (n + 1 - i) (by omega) (by omega) (by omega) (by omega) (by rw [hz2]; omega) (growslice_fits (by omega) (by rw [hz2]; omega))
  have hk : (n : Int) + 1 - (i : Int) = ((n + 1 - i : Nat) : Int) := by omega
  have hik : i + (n + 1 - i) = n + 1 := by omega
  simp only [hik] at h
  have hG1 := grownCap_ge w (n + 1) n 69
  have hG2 := grownCap_le_maxLen w (n + 1) n 69 (by unfold maxLen; omega)
  generalize grownCap w (n + 1) n 69 = G at h hG1 hG2
  refine ⟨G, _, ((cE (xs.take i)).toArray ++ Builtin.zeroCells #[.int .u8 0, .int .i64 0, .int .i64 0] (n + 1 - i) ++ Builtin.zeroCells #[.int .u8 0, .int .i64 0, .int .i64 0] (G - (n + 1))).toList, hG1, hG2, fun ty => by rw [hk]; exact h ty, ?_, ?_, ?_, (Fr.drew _ w).trans (Fr.alloc _ _ _)⟩
  · rw [show w.heap.size = w.drew.heap.size from rfl, heap_alloc_new]
    simp [Value.cells]
  · rw [Array.toList_append, Array.toList_append, List.length_append, List.length_append, zero_len, zero_len, List.toList_toArray, cE_len, List.length_take]
    omega
  · rw [Array.toList_append, Array.toList_append, List.toList_toArray, List.append_assoc, List.take_append_of_le_length (by rw [cE_len, List.length_take]; omega), List.take_of_length_le (by rw [cE_len, List.length_take]; omega)]

set_option maxHeartbeats 4000000 in
set_option maxRecDepth 100000 in
theorem insert_grow (g vb n i : Nat) (x : El) (xs : List El) (cur : List Value) (w : World) (hi : i < n) (hn : n ≤ 4096)
    (hg : Hid (w.heap[g]? = some (.cells cur.toArray 69 (0, 0)))) (ht : Hid (cur.take (n * 3) = cE xs)) (hx : Hid (xs.length = n)) (hv : Hid (w.heap[vb]? = some (.cells (elc x).toArray 69 (0, 0)))) :
    Calls Try.prog 51 #[.slice (some ⟨g, 0, none⟩) n n, .int .i64 i, .slice (some ⟨vb, 0, none⟩) 1 1] w fun e w' =>
      ∃ G, e = .returned (.slice (some ⟨w.heap.size, 0, none⟩) (n + 1) G) ∧ RowE w' w.heap.size (n + 1) G (xs.take i ++ x :: xs.drop i) ∧ Fr (fun _ => False) w w' := by
  obtain ⟨G, W1, ROW, hG1, hG63, hrz, hR1, hRl, hRt, hF1⟩ := run_zeros w g n i xs cur hi hn hg.out ht.out hx.out
  have hdl : (cE (xs.drop i)).length = (n - i) * 3 := by rw [cE_len, List.length_drop, hx.out]
  have hv1 : W1.heap[vb]? = some (.cells (elc x).toArray 69 (0, 0)) := hF1.keeps hv.out (fun h => h)
  have hg1 : W1.heap[g]? = some (.cells cur.toArray 69 (0, 0)) := hF1.keeps hg.out (fun h => h)
  have hcpA : ∀ ty dc, (Builtin.copy_ #[22, 22] ty #[.slice (some ⟨w.heap.size, i * 3, none⟩) (n + 1 - i) dc, .slice (some ⟨vb, 0, none⟩) 1 1]).run Try.prog W1 = .ok (goInt (1 : Nat)) (W1.setRow w.heap.size (splice ROW (i * 3) (elc x)).toArray) := fun ty dc =>
    run_copy_k W1 22 22 ty 69 3 w.heap.size (i * 3) (n + 1 - i) dc ⟨vb, 0, none⟩ 1 1 1 _ 69 _ Try.underlying22 sizeE' hR1 (by simp only [Nat.min_def]; split <;> omega) rfl
      (fun j v hj => by rw [add_lit, Nat.zero_add, cell_row hv1, List.getElem?_toArray]; exact hj) (by rw [hRl]; simp [elc]; omega) (by rw [← cE_one]; exact cE_one' _)
  obtain ⟨W2, hW2⟩ : ∃ W2, W2 = W1.setRow w.heap.size (splice ROW (i * 3) (elc x)).toArray := ⟨_, rfl⟩
  rw [← hW2] at hcpA
  have hR2 : W2.heap[w.heap.size]? = some (.cells (splice ROW (i * 3) (elc x)).toArray 69 (0, 0)) := by rw [hW2]; exact setRow_heap W1 _ _ _ 69 _ hR1
  have hF2 : Fr (fun _ => False) w W2 := by rw [hW2]; exact hF1.next (Fr.setRow (S := fun k => k = w.heap.size) _ _ _ rfl) (fun k hk e => by omega)
  have hg2 : W2.heap[g]? = some (.cells cur.toArray 69 (0, 0)) := hF2.keeps hg.out (fun h => h)
  have hl2 : (splice ROW (i * 3) (elc x)).length = G * 3 := by rw [length_splice _ _ _ (by rw [hRl]; simp [elc]; omega), hRl]
  have hg2d : W2.drew.heap[g]? = some (.cells cur.toArray 69 (0, 0)) := hg2
  have hR2d : W2.drew.heap[w.heap.size]? = some (.cells (splice ROW (i * 3) (elc x)).toArray 69 (0, 0)) := hR2
  have hcpB : ∀ ty dc sc, (Builtin.copy_ #[22, 22] ty #[.slice (some ⟨w.heap.size, (i + 1) * 3, none⟩) (n - i) dc, .slice (some ⟨g, i * 3, none⟩) (n - i) sc]).run Try.prog W2.drew = .ok (goInt (n - i : Nat)) (W2.drew.setRow w.heap.size (splice (splice ROW (i * 3) (elc x)) ((i + 1) * 3) (cE (xs.drop i))).toArray) := fun ty dc sc =>
    run_copy_k W2.drew 22 22 ty 69 3 w.heap.size ((i + 1) * 3) (n - i) dc ⟨g, i * 3, none⟩ (n - i) sc (n - i) _ 69 _ Try.underlying22 sizeE' hR2d (Nat.min_self _).symm hdl
      (row_cells hg2d ht.out hx.out i (by omega)) (by rw [hdl, hl2]; omega) (cE_one' _)
  obtain ⟨W3, hW3⟩ : ∃ W3, W3 = W2.drew.setRow w.heap.size (splice (splice ROW (i * 3) (elc x)) ((i + 1) * 3) (cE (xs.drop i))).toArray := ⟨_, rfl⟩
  rw [← hW3] at hcpB
  have R : Hid (RowE W3 w.heap.size (n + 1) G (xs.take i ++ x :: xs.drop i) ∧ Fr (fun _ => False) w W3) := by
    refine ⟨⟨_, by rw [hW3]; exact setRow_heap W2.drew _ _ _ 69 _ hR2d, grow_take ROW xs x i n hx.out (by omega) (by omega) hRt, by have := hx.out; simp; omega, hG1, hG63, ?_⟩, ?_⟩
    · rw [length_splice _ _ _ (by rw [hdl, hl2]; omega), hl2]
    · rw [hW3]
      exact (hF2.trans (Fr.drew _ _)).next (Fr.setRow (S := fun k => k = w.heap.size) _ _ _ rfl) (fun k hk e => by omega)
  clear hR1 hRl hRt hF1 hv1 hg1 hW2 hR2 hF2 hg2 hl2 hg2d hR2d hW3 hdl
  have hz2 : ¬ ((i : Int) = (n : Int)) := by omega
  have hz3 : (n : Int) < (n : Int) + 1 := by omega
  have hw1 : IntKind.i64.wrap ((i : Int) + 1) = (i : Int) + 1 := by rw [IntKind.wrap_i64]; omega
  have hb1 : (0 : Int) ≤ (i : Int) + 1 := by omega
  have hin : i ≤ n := by omega
  have htn : ((i : Int) + 1).toNat = i + 1 := by omega
  have hb3 : (i : Int) ≤ (n : Int) := by omega
  have hGi : ¬ (G = i) := by omega
  have hGim : ¬ (G = i + 1) := by omega
  have hci : ¬ (n = i) := by omega
  go_enter Try.func51, Try.ntmps51
  go_wp2_with (first
    | (at_builtin; refine wpList_append_k _ rfl _ _ 22 3 rfl _ _ rfl rfl (hrz _) ?_)
    | (at_builtin; refine wpList_copy_k _ rfl _ _ 22 22 rfl _ _ rfl rfl (hcpA _ _) ?_))
  go_region_law (refine step_copy_k rfl _ _ 22 22 rfl _ _ (by simp [Act.eval, Act.put]) (by simp [Act.eval, Act.put]) (hcpB _ _ _) ?_)
  go_wp2
  go_ret
  exact ⟨G, rfl, R.out⟩

end Go.Proofs.Ytlmgogonghafeaa
