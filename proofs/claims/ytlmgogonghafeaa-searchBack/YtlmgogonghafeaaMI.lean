/-
  Texts put together: Ins Inb Inc.
-/
import Derived.Test.YtlmgogonghafeaaMA
import Derived.Shelf.RegionOpenPlain
import Derived.Deep.RegionLaw
import Derived.Lib.Overlaps
import Derived.Laws.Externs
import Derived.Lib.AppendZerosOnto
/-! Ins -/
namespace Go.Proofs.Ytlmgogonghafeaa
open Go.RowKit Go.Lib
set_option linter.unusedVariables false

theorem sizeE (w : World) : (Go.sizeOf 69).run Try.prog w = .ok 3 w := by
  obtain ⟨i0, hi, hz0, hz1, hz2⟩ := info_parts Try.infoE
  simp [sizeOf, typeInfo, hi, hz1]
theorem sizeE' : (Try.prog.info? 69).map (·.size) = some 3 := by
  obtain ⟨i0, hi, hz0, hz1, hz2⟩ := info_parts Try.infoE
  rw [hi]
  simp [hz1]

theorem row_cells {w : World} {g N : Nat} {xs : List El} {cur : List Value} {t : TypeId} (hg : w.heap[g]? = some (.cells cur.toArray t (0, 0))) (ht : cur.take (N * 3) = cE xs) (hx : xs.length = N) (k : Nat) (hk : k ≤ N) :
    ∀ j v, (cE (xs.drop k))[j]? = some v → w.cell? ((⟨g, k * 3, none⟩ : Addr).add j) = some v := by
  intro j v hj
  rw [add_lit, cell_row hg, List.getElem?_toArray]
  rw [← cE_drop xs k (by omega), List.getElem?_drop, ← ht, List.getElem?_take] at hj
  split at hj
  · exact hj
  · cases hj

set_option maxHeartbeats 4000000 in
set_option maxRecDepth 100000 in
theorem insert_shift (g vb n c i : Nat) (x : El) (xs : List El) (cur : List Value) (w : World) (hi : i < n) (hroom : n + 1 ≤ c) (hc63 : c ≤ 9223372036854775807) (hvb : vb ≠ g)
    (hg : Hid (w.heap[g]? = some (.cells cur.toArray 69 (0, 0)))) (ht : Hid (cur.take (n * 3) = cE xs)) (hx : Hid (xs.length = n)) (hcl : Hid (cur.length = c * 3)) (hv : Hid (w.heap[vb]? = some (.cells (elc x).toArray 69 (0, 0)))) :
    Calls Try.prog 51 #[.slice (some ⟨g, 0, none⟩) n c, .int .i64 i, .slice (some ⟨vb, 0, none⟩) 1 1] w fun e w' =>
      e = .returned (.slice (some ⟨g, 0, none⟩) (n + 1) c) ∧ w'.heap[g]? = some (.cells (splice (splice cur ((i + 1) * 3) (cE (xs.drop i))) (i * 3) (elc x)).toArray 69 (0, 0)) ∧ Fr (· = g) w w' := by
  have hov : ∀ lb cb, (callFunc 63 #[.slice (some ⟨vb, 0, none⟩) 1 1, .slice (some ⟨g, (i + 1) * 3, none⟩) lb cb]).run Try.prog w = .ok (.value (.bool false)) w := fun lb cb => by
    have hsa : w.shape? vb = some (69, 3) := by simp [World.shape?, hv.out, elc]
    have hsb : w.shape? g = some (69, c * 3) := by simp [World.shape?, hg.out, hcl.out]
    rw [run_callFunc_extern Try.func63 (by kernel_rfl) (by kernel_rfl) (by kernel_rfl) (e := Extern.SlicesOverlaps.overlaps #[22, 22] #[4]) (by kernel_rfl),
      Lib.run_overlaps_apart w 22 4 69 Try.underlying22 3 sizeE ⟨vb, 0, none⟩ ⟨g, (i + 1) * 3, none⟩ 1 1 lb cb hvb 69 69 3 (c * 3) hsa hsb (by omega) (frozen_row hv.out 0) (frozen_row hv.out 3)]
    rfl
  have hdl : (cE (xs.drop i)).length = (n - i) * 3 := by rw [cE_len, List.length_drop, hx.out]
  have hgd : w.drew.heap[g]? = some (.cells cur.toArray 69 (0, 0)) := hg.out
  have hcp1 : ∀ ty dc sc, (Builtin.copy_ #[22, 22] ty #[.slice (some ⟨g, (i + 1) * 3, none⟩) (n - i) dc, .slice (some ⟨g, i * 3, none⟩) (n + 1 - i) sc]).run Try.prog w.drew = .ok (goInt (n - i : Nat)) (w.drew.setRow g (splice cur ((i + 1) * 3) (cE (xs.drop i))).toArray) := fun ty dc sc =>
    run_copy_k w.drew 22 22 ty 69 3 g ((i + 1) * 3) (n - i) dc ⟨g, i * 3, none⟩ (n + 1 - i) sc (n - i) cur 69 _ Try.underlying22 sizeE' hgd (by simp only [Nat.min_def]; split <;> omega) hdl
      (row_cells hgd ht.out hx.out i (by omega)) (by rw [hdl, hcl.out]; omega) (cE_one' _)
  obtain ⟨W1, hW1⟩ : ∃ W1, W1 = w.drew.setRow g (splice cur ((i + 1) * 3) (cE (xs.drop i))).toArray := ⟨_, rfl⟩
  rw [← hW1] at hcp1
  have hg1 : W1.heap[g]? = some (.cells (splice cur ((i + 1) * 3) (cE (xs.drop i))).toArray 69 (0, 0)) := by rw [hW1]; exact setRow_heap w.drew g _ _ 69 _ hgd
  have F1 : Fr (· = g) w W1 := by rw [hW1]; exact (Fr.drew _ w).trans (Fr.setRow _ _ _ rfl)
  have hv1 : W1.heap[vb]? = some (.cells (elc x).toArray 69 (0, 0)) := F1.keeps hv.out hvb
  have hcp2 : ∀ ty dc, (Builtin.copy_ #[22, 22] ty #[.slice (some ⟨g, i * 3, none⟩) (n + 1 - i) dc, .slice (some ⟨vb, 0, none⟩) 1 1]).run Try.prog W1 = .ok (goInt (1 : Nat)) (W1.setRow g (splice (splice cur ((i + 1) * 3) (cE (xs.drop i))) (i * 3) (elc x)).toArray) := fun ty dc =>
    run_copy_k W1 22 22 ty 69 3 g (i * 3) (n + 1 - i) dc ⟨vb, 0, none⟩ 1 1 1 _ 69 _ Try.underlying22 sizeE' hg1 (by simp only [Nat.min_def]; split <;> omega) rfl
      (fun j v hj => by rw [add_lit, Nat.zero_add, cell_row hv1, List.getElem?_toArray]; exact hj) (by rw [length_splice _ _ _ (by rw [hdl, hcl.out]; omega), hcl.out]; simp [elc]; omega) (by rw [← cE_one]; exact cE_one' _)
  obtain ⟨W2, hW2⟩ : ∃ W2, W2 = W1.setRow g (splice (splice cur ((i + 1) * 3) (cE (xs.drop i))) (i * 3) (elc x)).toArray := ⟨_, rfl⟩
  rw [← hW2] at hcp2
  have R : Hid (W2.heap[g]? = some (.cells (splice (splice cur ((i + 1) * 3) (cE (xs.drop i))) (i * 3) (elc x)).toArray 69 (0, 0)) ∧ Fr (· = g) w W2) := by
    rw [hW2]
    exact ⟨setRow_heap W1 g _ _ 69 _ hg1, F1.trans (Fr.setRow _ _ _ rfl)⟩
  clear hW1 hg1 F1 hv1 hW2 hgd hdl
  have hz2 : ¬ ((i : Int) = (n : Int)) := by omega
  have hw1 : IntKind.i64.wrap ((i : Int) + 1) = (i : Int) + 1 := by rw [IntKind.wrap_i64]; omega
  have hb1 : (0 : Int) ≤ (i : Int) + 1 := by omega
  have hin : i ≤ n := by omega
  have htn : ((i : Int) + 1).toNat = i + 1 := by omega
  have hb2 : ¬ (c = i + 1) := by omega
  have hb3 : (i : Int) ≤ (n : Int) + 1 := by omega
  have hb4 : ¬ (c = i) := by omega
  go_enter Try.func51, Try.ntmps51
  go_wp2_with (simp only [hov])
  go_region_law (refine step_copy_k rfl _ _ 22 22 rfl _ _ (by simp [Act.eval, Act.put]) (by simp [Act.eval, Act.put]) (hcp1 _ _ _) ?_)
  go_wp2_with (at_builtin; refine wpList_copy_k _ rfl _ _ 22 22 rfl _ _ rfl rfl (hcp2 _ _) ?_)
  go_ret
  exact ⟨rfl, R.out⟩
end Go.Proofs.Ytlmgogonghafeaa

/-! Inb -/
namespace Go.Proofs.Ytlmgogonghafeaa
open Go.RowKit Go.Lib
set_option linter.unusedVariables false

theorem splice_take_end {α : Type} (L : List α) (off : Nat) (cs : List α) (hL : off ≤ L.length) : (splice L off cs).take (off + cs.length) = L.take off ++ cs := by
  unfold splice
  have h : (L.take off ++ cs).length = off + cs.length := by simp; omega
  rw [← List.append_assoc, ← h, List.take_left]

theorem grow_take (R : List Value) (xs : List El) (x : El) (i n : Nat) (hx : xs.length = n) (hi : i ≤ n) (hL : (n + 1) * 3 ≤ R.length) (ht : R.take (i * 3) = cE (xs.take i)) :
    (splice (splice R (i * 3) (elc x)) ((i + 1) * 3) (cE (xs.drop i))).take ((n + 1) * 3) = cE (xs.take i ++ x :: xs.drop i) := by
  have hd' : (cE (xs.drop i)).length = (n - i) * 3 := by rw [cE_len, List.length_drop, hx]
  have he : (elc x).length = 3 := rfl
  have h1 : (splice R (i * 3) (elc x)).length = R.length := length_splice _ _ _ (by rw [he]; omega)
  have h2 := splice_take_end (splice R (i * 3) (elc x)) ((i + 1) * 3) (cE (xs.drop i)) (by omega)
  have h3 := splice_take_end R (i * 3) (elc x) (by omega)
  rw [he, show i * 3 + 3 = (i + 1) * 3 by omega] at h3
  rw [hd', show (i + 1) * 3 + (n - i) * 3 = (n + 1) * 3 by omega, h3, ht] at h2
  rw [h2, cE_app, cE_cons, List.append_assoc]

/-- The new row of an append, opened. -/
theorem grown_row (olds z : List Value) (k m : Nat) (o : Nat) (ho : olds.length = o) : ((olds ++ z).toArray ++ Builtin.zeroCells #[.int .u8 0, .int .i64 0, .int .i64 0] k).toList.take o = olds := by
  rw [Array.toList_append, List.toList_toArray, List.append_assoc, ← ho, List.take_left]

theorem zero_len (k : Nat) : (Builtin.zeroCells #[.int .u8 0, .int .i64 0, .int .i64 0] k).toList.length = k * 3 := by
  rw [Array.length_toList, size_zeroCells]
  rfl

set_option maxRecDepth 100000 in
/-- append of the zero values of a make, where there is no room. -/
theorem run_zeros (w : World) (g n i : Nat) (xs : List El) (cur : List Value) (hi : i < n) (hn : n ≤ 4096)
    (hg : w.heap[g]? = some (.cells cur.toArray 69 (0, 0))) (ht : cur.take (n * 3) = cE xs) (hx : xs.length = n) :
    ∃ G w' ROW, n + 1 ≤ G ∧ G ≤ 9223372036854775807 ∧ (∀ ty, (Builtin.append_ #[22, 3] ty #[.slice (some ⟨g, 0, none⟩) i n, .int .i64 ((n : Int) + 1 - (i : Int))]).run Try.prog w = .ok (.slice (some ⟨w.heap.size, 0, none⟩) (n + 1) G) w') ∧
      w'.heap[w.heap.size]? = some (.cells (ROW : List Value).toArray 69 (0, 0)) ∧ ROW.length = G * 3 ∧ ROW.take (i * 3) = cE (xs.take i) ∧ Fr (fun _ => False) w w' := by
  obtain ⟨i0, hi0, hz0, hz1, hz2⟩ := info_parts Try.infoE
  have hold : (Builtin.firstCells i0.size i (.slice (some ⟨g, 0, none⟩) i n)).run Try.prog w.drew = .ok (cE (xs.take i)).toArray w.drew := by
    refine run_firstCells_some w.drew i0.size i ⟨g, 0, none⟩ i n (cE (xs.take i)) (by rw [hz1, cE_len, List.length_take]; congr 1; omega) (fun j v hj => ?_)
    have hgd : w.drew.heap[g]? = some (.cells cur.toArray 69 (0, 0)) := hg
    rw [add_lit, Nat.zero_add, cell_row hgd, List.getElem?_toArray]
    rw [← cE_take xs i (by omega), ← ht, List.take_take, List.getElem?_take] at hj
    split at hj
    · exact hj
    · cases hj
  have h := fun ty => Lib.run_append_grow_zeros w 22 3 ty 69 i0 _ .i64 .i64 Try.underlying22 Try.underlying3 hi0 hz0 (some ⟨g, 0, none⟩) i n (cE (xs.take i)) hold (n + 1 - i) (by omega) (by omega) (by omega) (by omega) (by rw [hz2]; omega) (growslice_fits (by omega) (by rw [hz2]; omega))
  have hk : (n : Int) + 1 - (i : Int) = ((n + 1 - i : Nat) : Int) := by omega
  have hik : i + (n + 1 - i) = n + 1 := by omega
  simp only [hik] at h
  have hG1 := grownCap_ge w (n + 1) n 69
  have hG2 := grownCap_le_maxLen w (n + 1) n 69 (by unfold maxLen; omega)
  generalize grownCap w (n + 1) n 69 = G at h hG1 hG2
  refine ⟨G, _, ((cE (xs.take i)).toArray ++ Builtin.zeroCells #[.int .u8 0, .int .i64 0, .int .i64 0] (n + 1 - i) ++ Builtin.zeroCells #[.int .u8 0, .int .i64 0, .int .i64 0] (G - (n + 1))).toList, hG1, hG2, fun ty => by rw [hk]; exact h ty, ?_, ?_, ?_, (Fr.drew _ w).trans (Fr.alloc _ _ _)⟩
  · rw [show w.heap.size = w.drew.heap.size from rfl, heap_alloc_new]
    simp [Value.cells]
  · rw [Array.toList_append, Array.toList_append, List.length_append, List.length_append, zero_len, zero_len, List.toList_toArray, cE_len, List.length_take]
    omega
  · rw [Array.toList_append, Array.toList_append, List.toList_toArray, List.append_assoc, List.take_append_of_le_length (by rw [cE_len, List.length_take]; omega), List.take_of_length_le (by rw [cE_len, List.length_take]; omega)]

set_option maxHeartbeats 4000000 in
set_option maxRecDepth 100000 in
theorem insert_grow (g vb n i : Nat) (x : El) (xs : List El) (cur : List Value) (w : World) (hi : i < n) (hn : n ≤ 4096)
    (hg : Hid (w.heap[g]? = some (.cells cur.toArray 69 (0, 0)))) (ht : Hid (cur.take (n * 3) = cE xs)) (hx : Hid (xs.length = n)) (hv : Hid (w.heap[vb]? = some (.cells (elc x).toArray 69 (0, 0)))) :
    Calls Try.prog 51 #[.slice (some ⟨g, 0, none⟩) n n, .int .i64 i, .slice (some ⟨vb, 0, none⟩) 1 1] w fun e w' =>
      ∃ G, e = .returned (.slice (some ⟨w.heap.size, 0, none⟩) (n + 1) G) ∧ RowE w' w.heap.size (n + 1) G (xs.take i ++ x :: xs.drop i) ∧ Fr (fun _ => False) w w' := by
  obtain ⟨G, W1, ROW, hG1, hG63, hrz, hR1, hRl, hRt, hF1⟩ := run_zeros w g n i xs cur hi hn hg.out ht.out hx.out
  have hdl : (cE (xs.drop i)).length = (n - i) * 3 := by rw [cE_len, List.length_drop, hx.out]
  have hv1 : W1.heap[vb]? = some (.cells (elc x).toArray 69 (0, 0)) := hF1.keeps hv.out (fun h => h)
  have hg1 : W1.heap[g]? = some (.cells cur.toArray 69 (0, 0)) := hF1.keeps hg.out (fun h => h)
  have hcpA : ∀ ty dc, (Builtin.copy_ #[22, 22] ty #[.slice (some ⟨w.heap.size, i * 3, none⟩) (n + 1 - i) dc, .slice (some ⟨vb, 0, none⟩) 1 1]).run Try.prog W1 = .ok (goInt (1 : Nat)) (W1.setRow w.heap.size (splice ROW (i * 3) (elc x)).toArray) := fun ty dc =>
    run_copy_k W1 22 22 ty 69 3 w.heap.size (i * 3) (n + 1 - i) dc ⟨vb, 0, none⟩ 1 1 1 _ 69 _ Try.underlying22 sizeE' hR1 (by simp only [Nat.min_def]; split <;> omega) rfl
      (fun j v hj => by rw [add_lit, Nat.zero_add, cell_row hv1, List.getElem?_toArray]; exact hj) (by rw [hRl]; simp [elc]; omega) (by rw [← cE_one]; exact cE_one' _)
  obtain ⟨W2, hW2⟩ : ∃ W2, W2 = W1.setRow w.heap.size (splice ROW (i * 3) (elc x)).toArray := ⟨_, rfl⟩
  rw [← hW2] at hcpA
  have hR2 : W2.heap[w.heap.size]? = some (.cells (splice ROW (i * 3) (elc x)).toArray 69 (0, 0)) := by rw [hW2]; exact setRow_heap W1 _ _ _ 69 _ hR1
  have hF2 : Fr (fun _ => False) w W2 := by rw [hW2]; exact hF1.next (Fr.setRow (S := fun k => k = w.heap.size) _ _ _ rfl) (fun k hk e => by omega)
  have hg2 : W2.heap[g]? = some (.cells cur.toArray 69 (0, 0)) := hF2.keeps hg.out (fun h => h)
  have hl2 : (splice ROW (i * 3) (elc x)).length = G * 3 := by rw [length_splice _ _ _ (by rw [hRl]; simp [elc]; omega), hRl]
  have hg2d : W2.drew.heap[g]? = some (.cells cur.toArray 69 (0, 0)) := hg2
  have hR2d : W2.drew.heap[w.heap.size]? = some (.cells (splice ROW (i * 3) (elc x)).toArray 69 (0, 0)) := hR2
  have hcpB : ∀ ty dc sc, (Builtin.copy_ #[22, 22] ty #[.slice (some ⟨w.heap.size, (i + 1) * 3, none⟩) (n - i) dc, .slice (some ⟨g, i * 3, none⟩) (n - i) sc]).run Try.prog W2.drew = .ok (goInt (n - i : Nat)) (W2.drew.setRow w.heap.size (splice (splice ROW (i * 3) (elc x)) ((i + 1) * 3) (cE (xs.drop i))).toArray) := fun ty dc sc =>
    run_copy_k W2.drew 22 22 ty 69 3 w.heap.size ((i + 1) * 3) (n - i) dc ⟨g, i * 3, none⟩ (n - i) sc (n - i) _ 69 _ Try.underlying22 sizeE' hR2d (Nat.min_self _).symm hdl
      (row_cells hg2d ht.out hx.out i (by omega)) (by rw [hdl, hl2]; omega) (cE_one' _)
  obtain ⟨W3, hW3⟩ : ∃ W3, W3 = W2.drew.setRow w.heap.size (splice (splice ROW (i * 3) (elc x)) ((i + 1) * 3) (cE (xs.drop i))).toArray := ⟨_, rfl⟩
  rw [← hW3] at hcpB
  have R : Hid (RowE W3 w.heap.size (n + 1) G (xs.take i ++ x :: xs.drop i) ∧ Fr (fun _ => False) w W3) := by
    refine ⟨⟨_, by rw [hW3]; exact setRow_heap W2.drew _ _ _ 69 _ hR2d, grow_take ROW xs x i n hx.out (by omega) (by omega) hRt, by have := hx.out; simp; omega, hG1, hG63, ?_⟩, ?_⟩
    · rw [length_splice _ _ _ (by rw [hdl, hl2]; omega), hl2]
    · rw [hW3]
      exact (hF2.trans (Fr.drew _ _)).next (Fr.setRow (S := fun k => k = w.heap.size) _ _ _ rfl) (fun k hk e => by omega)
  clear hR1 hRl hRt hF1 hv1 hg1 hW2 hR2 hF2 hg2 hl2 hg2d hR2d hW3 hdl
  have hz2 : ¬ ((i : Int) = (n : Int)) := by omega
  have hz3 : (n : Int) < (n : Int) + 1 := by omega
  have hw1 : IntKind.i64.wrap ((i : Int) + 1) = (i : Int) + 1 := by rw [IntKind.wrap_i64]; omega
  have hb1 : (0 : Int) ≤ (i : Int) + 1 := by omega
  have hin : i ≤ n := by omega
  have htn : ((i : Int) + 1).toNat = i + 1 := by omega
  have hb3 : (i : Int) ≤ (n : Int) := by omega
  have hGi : ¬ (G = i) := by omega
  have hGim : ¬ (G = i + 1) := by omega
  have hci : ¬ (n = i) := by omega
  go_enter Try.func51, Try.ntmps51
  go_wp2_with (first
    | (at_builtin; refine wpList_append_k _ rfl _ _ 22 3 rfl _ _ rfl rfl (hrz _) ?_)
    | (at_builtin; refine wpList_copy_k _ rfl _ _ 22 22 rfl _ _ rfl rfl (hcpA _ _) ?_))
  go_region_law (refine step_copy_k rfl _ _ 22 22 rfl _ _ (by simp [Act.eval, Act.put]) (by simp [Act.eval, Act.put]) (hcpB _ _ _) ?_)
  go_wp2
  go_ret
  exact ⟨G, rfl, R.out⟩

end Go.Proofs.Ytlmgogonghafeaa

/-! Inc -/
namespace Go.Proofs.Ytlmgogonghafeaa
open Go.RowKit Go.Lib
set_option linter.unusedVariables false

theorem push_take (L : List Value) (xs : List El) (x : El) (n : Nat) (hx : xs.length = n) (hL : n * 3 ≤ L.length) (ht : L.take (n * 3) = cE xs) :
    (splice L (n * 3) (elc x)).take ((n + 1) * 3) = cE (xs ++ [x]) := by
  have h := splice_take_end L (n * 3) (elc x) hL
  rw [show n * 3 + (elc x).length = (n + 1) * 3 from by simp [elc]; omega, ht] at h
  rw [h, cE_app, cE_one]

/-- append of one element onto nil or a row of the call's own. -/
theorem run_pushE (w : World) (β : Option Nat) (v : Value) (xs : List El) (hv : SE w β v xs) (vb : Nat) (x : El) (hb : w.heap[vb]? = some (.cells (elc x).toArray 69 (0, 0))) (hn : xs.length ≤ 4096) :
    ∃ v' w', (∀ ty, (Builtin.append_ #[22, 22] ty #[v, .slice (some ⟨vb, 0, none⟩) 1 1]).run Try.prog w = .ok v' w') ∧ NowE w w' β v' (xs ++ [x]) := by
  obtain ⟨i0, hi0, hz0, hz1, hz2⟩ := info_parts Try.infoE
  have hl : (elc x).length = 1 * i0.size := by rw [hz1]; rfl
  have hnews : ∀ j u, (elc x)[j]? = some u → w.cell? ((⟨vb, 0, none⟩ : Addr).add j) = some u := fun j u hj => by
    rw [add_lit, Nat.zero_add, cell_row hb, List.getElem?_toArray]
    exact hj
  have h1 : ∀ u ∈ elc x, u.oneCell' = true := by rw [← cE_one]; exact cE_one' _
  have newrow : ∀ G, xs.length + 1 ≤ G → G ≤ 9223372036854775807 → RowE (w.drew.alloc (.cells ((cE xs).toArray ++ (elc x).toArray ++ Builtin.zeroCells #[.int .u8 0, .int .i64 0, .int .i64 0] (G - (xs.length + 1))) 69)) w.heap.size (xs.length + 1) G (xs ++ [x]) := by
    intro G hG1 hG2
    refine ⟨((cE xs).toArray ++ (elc x).toArray ++ Builtin.zeroCells #[.int .u8 0, .int .i64 0, .int .i64 0] (G - (xs.length + 1))).toList, ?_, ?_, by simp, hG1, hG2, ?_⟩
    · rw [show w.heap.size = w.drew.heap.size from rfl, heap_alloc_new]
    · rw [Array.toList_append, Array.toList_append, List.toList_toArray, List.toList_toArray]
      have : (cE xs ++ elc x).length = (xs.length + 1) * 3 := by rw [List.length_append, cE_len]; simp [elc]; omega
      rw [← this, List.take_left, cE_app, cE_one]
    · rw [Array.toList_append, Array.toList_append, List.length_append, List.length_append, zero_len, List.toList_toArray, List.toList_toArray, cE_len]
      simp [elc]
      omega
  cases β with
  | none =>
    obtain ⟨rfl, rfl⟩ := hv
    have hr := fun ty => run_append_nil (P := Try.prog) w 22 ty 69 i0 _ Try.underlying22 hi0 hz0 ⟨vb, 0, none⟩ 1 1 (elc x) hl hnews (by omega) (by omega) (by rw [hz2]; omega)
    have hG1 := grownCap_ge w 1 0 69
    have hG2 := grownCap_le_maxLen w 1 0 69 (by unfold maxLen; omega)
    generalize grownCap w 1 0 69 = G at hr hG1 hG2
    refine ⟨_, _, hr, some w.heap.size, ?_, .inr ⟨_, rfl, Nat.le_refl _⟩, (Fr.drew _ w).trans (Fr.alloc _ _ _)⟩
    have := newrow G hG1 hG2
    simp [cE_nil] at this
    refine ⟨G, rfl, ?_⟩
    simpa [Value.cells] using this
  | some g =>
    obtain ⟨cap, rfl, cur, hh, htk, hvl, hnc, hcm, hcs⟩ := hv
    by_cases hroom : xs.length + 1 ≤ cap
    · have hr := fun ty => run_append_room (P := Try.prog) w 22 ty 69 i0 Try.underlying22 hi0 g xs.length cap cur.toArray hh ⟨vb, 0, none⟩ 1 1 (elc x) hl hnews h1 hroom (by rw [hz1]; simp [elc, hcs]; omega)
      refine ⟨_, _, hr, some g, ⟨cap, by simp, ?_⟩, .inl rfl, Fr.setRow _ _ _ rfl⟩
      rw [hz1]
      refine ⟨splice cur (xs.length * 3) (elc x), ?_, by simpa using push_take cur xs x xs.length rfl (by omega) htk, rfl, by simpa using hroom, hcm, ?_⟩
      · have := setRow_heap w g cur.toArray (splice cur (xs.length * 3) (elc x)).toArray 69 _ hh
        simpa [splice] using this
      · rw [length_splice _ _ _ (by simp [elc]; omega), hcs]
    · have holds : ∀ j u, (cE xs)[j]? = some u → w.cell? ((⟨g, 0, none⟩ : Addr).add j) = some u := by
        have := row_cells hh htk rfl 0 (Nat.zero_le _)
        simpa using this
      have hr := fun ty => run_append_grow (P := Try.prog) w 22 ty 69 i0 _ Try.underlying22 hi0 hz0 ⟨g, 0, none⟩ xs.length cap (cE xs) (by rw [hz1, cE_len]) holds ⟨vb, 0, none⟩ 1 1 (elc x) hl hnews (by omega) (by omega) (growslice_fits (by omega) (by rw [hz2]; omega))
      have hG1 := grownCap_ge w (xs.length + 1) cap 69
      have hG2 := grownCap_le_maxLen w (xs.length + 1) cap 69 (by unfold maxLen; omega)
      generalize grownCap w (xs.length + 1) cap 69 = G at hr hG1 hG2
      refine ⟨_, _, hr, some w.heap.size, ⟨G, by simp, ?_⟩, .inr ⟨_, rfl, Nat.le_refl _⟩, (Fr.drew _ w).trans (Fr.alloc _ _ _)⟩
      have := newrow G hG1 hG2
      simpa [Value.cells] using this

set_option maxHeartbeats 4000000 in
set_option maxRecDepth 100000 in
theorem insert_end (β : Option Nat) (a : Option Addr) (n c vb : Nat) (x : El) (xs : List El) (w : World) (hc : n ≤ c) (hc63 : c ≤ 9223372036854775807) (hn : n ≤ 4096) (hx : Hid (xs.length = n)) (hS : Hid (SE w β (.slice a n c) xs))
    (hv : Hid (w.heap[vb]? = some (.cells (elc x).toArray 69 (0, 0)))) :
    Calls Try.prog 51 #[.slice a n c, .int .i64 n, .slice (some ⟨vb, 0, none⟩) 1 1] w fun e w' =>
      ∃ v, e = .returned v ∧ NowE w w' β v (xs ++ [x]) := by
  obtain ⟨v', W1, hr, hN⟩ := run_pushE w β _ xs hS.out vb x hv.out (by have := hx.out; omega)
  have R := hd hN
  clear hN
  by_cases hcn : c = n
  · subst hcn
    cases a with
    | none =>
      go_enter Try.func51, Try.ntmps51
      go_wp2_with (at_builtin; refine wpList_append_k _ rfl _ _ 22 22 rfl _ _ rfl rfl (hr _) ?_)
      go_ret
      exact ⟨_, rfl, R.out⟩
    | some a =>
      go_enter Try.func51, Try.ntmps51
      go_wp2_with (at_builtin; refine wpList_append_k _ rfl _ _ 22 22 rfl _ _ rfl rfl (hr _) ?_)
      go_ret
      exact ⟨_, rfl, R.out⟩
  · cases a with
    | none =>
      have : c = 0 ∧ n = 0 := by
        have h := hS.out
        cases β with
        | none =>
          have h1 := h.1
          simp at h1
          omega
        | some g =>
          obtain ⟨cap, h1, _⟩ := h
          simp at h1
      omega
    | some a =>
      go_enter Try.func51, Try.ntmps51
      go_wp2_with (at_builtin; refine wpList_append_k _ rfl _ _ 22 22 rfl _ _ rfl rfl (hr _) ?_)
      go_ret
      exact ⟨_, rfl, R.out⟩

theorem insert_any (β : Option Nat) (v : Value) (i vb : Nat) (x : El) (xs : List El) (w : World) (hS : SE w β v xs) (hi : i ≤ xs.length) (hn : xs.length < 4096)
    (hv : w.heap[vb]? = some (.cells (elc x).toArray 69 (0, 0))) (hvb : β ≠ some vb) :
    Calls Try.prog 51 #[v, .int .i64 i, .slice (some ⟨vb, 0, none⟩) 1 1] w fun e w' => ∃ v', e = .returned v' ∧ NowE w w' β v' (xs.take i ++ x :: xs.drop i) := by
  obtain ⟨a, c, rfl, hE, -⟩ := hS.form
  by_cases hin : i = xs.length
  · subst hin
    rw [List.take_of_length_le (Nat.le_refl _), List.drop_of_length_le (Nat.le_refl _)]
    exact insert_end β a xs.length c vb x xs w hE.2.1 hE.2.2.1 (by omega) rfl hS hv
  · cases β with
    | none =>
      obtain ⟨-, rfl⟩ := hS
      simp at hi hin
      omega
    | some g =>
      obtain ⟨cap, h1, hR⟩ := hS
      have h2 := Value.slice.inj h1
      obtain ⟨rfl, -, rfl⟩ := h2
      obtain ⟨cur, hh, htk, hvl, hnc, hcm, hcs⟩ := hR
      by_cases hroom : xs.length + 1 ≤ c
      · refine (insert_shift g vb xs.length c i x xs cur w (by omega) hroom hcm (fun h => hvb (by rw [h])) hh htk rfl hcs hv).mono ?_
        rintro e w' ⟨rfl, hh', hF⟩
        have hl : (xs.take i ++ x :: xs.drop i).length = xs.length + 1 := by simp; omega
        have hdl : (cE (xs.drop i)).length = (xs.length - i) * 3 := by rw [cE_len, List.length_drop]
        have hl1 : (splice cur ((i + 1) * 3) (cE (xs.drop i))).length = c * 3 := by rw [length_splice _ _ _ (by omega), hcs]
        refine ⟨_, rfl, some g, ⟨c, by rw [hl], _, hh', by rw [hl]; exact shift_take cur xs x i xs.length rfl (by omega) (by omega) htk, rfl, by omega, hcm, ?_⟩, .inl rfl, hF.mono (fun k _ h => by rw [h])⟩
        rw [length_splice _ _ _ (by rw [hl1]; simp [elc]; omega), hl1]
      · obtain rfl : c = xs.length := by omega
        refine (insert_grow g vb xs.length i x xs cur w (by omega) (by omega) hh htk rfl hv).mono ?_
        rintro e w' ⟨G, rfl, hR, hF⟩
        have hl : (xs.take i ++ x :: xs.drop i).length = xs.length + 1 := by simp; omega
        exact ⟨_, rfl, some w.heap.size, ⟨G, by rw [hl], by rw [hl]; exact hR⟩, .inr ⟨_, rfl, Nat.le_refl _⟩, hF.mono (fun k _ h => h.elim)⟩

end Go.Proofs.Ytlmgogonghafeaa
