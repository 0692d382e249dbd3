/-
  slices.Insert of one element, into a row of the call's own.
-/
import Derived.Test.YtlmgogonghafeaaParts
import Derived.Shelf.RegionOpenPlain
import Derived.Deep.RegionLaw
import Derived.Lib.Overlaps
import Derived.Laws.Externs
namespace Go.Proofs.Ytlmgogonghafeaa
open Go.RowKit Go.Lib
set_option linter.unusedVariables false

theorem sizeE (w : World) : (Go.sizeOf 69).run Try.prog w = .ok 3 w := by
  obtain ⟨i0, hi, hz0, hz1, hz2⟩ := info_parts Try.infoE
  simp [sizeOf, typeInfo, hi, hz1]
theorem sizeE' : (Try.prog.info? 69).map (·.size) = some 3 := by
  obtain ⟨i0, hi, hz0, hz1, hz2⟩ := info_parts Try.infoE
  rw [hi]
  simp [hz1]

theorem row_cells {w : World} {g N : Nat} {xs : List El} {cur : List Value} {t : TypeId} (hg : w.heap[g]? = some (.cells cur.toArray t (0, 0))) (ht : cur.take (N * 3) = cE xs) (hx : xs.length = N) (k : Nat) (hk : k ≤ N) :
    ∀ j v, (cE (xs.drop k))[j]? = some v → w.cell? ((⟨g, k * 3, none⟩ : Addr).add j) = some v := by
  intro j v hj
  rw [add_lit, cell_row hg, List.getElem?_toArray]
  rw [← cE_drop xs k (by omega), List.getElem?_drop, ← ht, List.getElem?_take] at hj
  split at hj
  · exact hj
  · cases hj

set_option maxHeartbeats 4000000 in
set_option maxRecDepth 100000 in
theorem insert_shift (g vb n c i : Nat) (x : El) (xs : List El) (cur : List Value) (w : World) (hi : i < n) (hroom : n + 1 ≤ c) (hc63 : c ≤ 9223372036854775807) (hvb : vb ≠ g)
    (hg : Hid (w.heap[g]? = some (.cells cur.toArray 69 (0, 0)))) (ht : Hid (cur.take (n * 3) = cE xs)) (hx : Hid (xs.length = n)) (hcl : Hid (cur.length = c * 3)) (hv : Hid (w.heap[vb]? = some (.cells (elc x).toArray 69 (0, 0)))) :
    Calls Try.prog 51 #[.slice (some ⟨g, 0, none⟩) n c, .int .i64 i, .slice (some ⟨vb, 0, none⟩) 1 1] w fun e w' =>
      e = .returned (.slice (some ⟨g, 0, none⟩) (n + 1) c) ∧ w'.heap[g]? = some (.cells (splice (splice cur ((i + 1) * 3) (cE (xs.drop i))) (i * 3) (elc x)).toArray 69 (0, 0)) ∧ Fr (· = g) w w' := by
  have hov : ∀ lb cb, (callFunc 63 #[.slice (some ⟨vb, 0, none⟩) 1 1, .slice (some ⟨g, (i + 1) * 3, none⟩) lb cb]).run Try.prog w = .ok (.value (.bool false)) w := fun lb cb => by
    have hsa : w.shape? vb = some (69, 3) := by simp [World.shape?, hv.out, elc]
    have hsb : w.shape? g = some (69, c * 3) := by simp [World.shape?, hg.out, hcl.out]
    rw [run_callFunc_extern Try.func63 (by kernel_rfl) (by kernel_rfl) (by kernel_rfl) (e := Extern.SlicesOverlaps.overlaps #[22, 22] #[4]) (by kernel_rfl),
      Lib.run_overlaps_apart w 22 4 69 Try.underlying22 3 sizeE ⟨vb, 0, none⟩ ⟨g, (i + 1) * 3, none⟩ 1 1 lb cb hvb 69 69 3 (c * 3) hsa hsb (by omega) (frozen_row hv.out 0) (frozen_row hv.out 3)]
    rfl
  have hdl : (cE (xs.drop i)).length = (n - i) * 3 := by rw [cE_len, List.length_drop, hx.out]
  have hgd : w.drew.heap[g]? = some (.cells cur.toArray 69 (0, 0)) := hg.out
  have hcp1 : ∀ ty dc sc, (Builtin.copy_ #[22, 22] ty #[.slice (some ⟨g, (i + 1) * 3, none⟩) (n - i) dc, .slice (some ⟨g, i * 3, none⟩) (n + 1 - i) sc]).run Try.prog w.drew = .ok (goInt (n - i : Nat)) (w.drew.setRow g (splice cur ((i + 1) * 3) (cE (xs.drop i))).toArray) := fun ty dc sc =>
    run_copy_k w.drew 22 22 ty 69 3 g ((i + 1) * 3) (n - i) dc ⟨g, i * 3, none⟩ (n + 1 - i) sc (n - i) cur 69 _ Try.underlying22 sizeE' hgd (by simp only [Nat.min_def]; split <;> omega) hdl
      (row_cells hgd ht.out hx.out i (by omega)) (by rw [hdl, hcl.out]; omega) (cE_one' _)
  obtain ⟨W1, hW1⟩ : ∃ W1, W1 = w.drew.setRow g (splice cur ((i + 1) * 3) (cE (xs.drop i))).toArray := ⟨_, rfl⟩
  rw [← hW1] at hcp1
  have hg1 : W1.heap[g]? = some (.cells (splice cur ((i + 1) * 3) (cE (xs.drop i))).toArray 69 (0, 0)) := by rw [hW1]; exact setRow_heap w.drew g _ _ 69 _ hgd
  have F1 : Fr (· = g) w W1 := by rw [hW1]; exact (Fr.drew _ w).trans (Fr.setRow _ _ _ rfl)
  have hv1 : W1.heap[vb]? = some (.cells (elc x).toArray 69 (0, 0)) := F1.keeps hv.out hvb
  have hcp2 : ∀ ty dc, (Builtin.copy_ #[22, 22] ty #[.slice (some ⟨g, i * 3, none⟩) (n + 1 - i) dc, .slice (some ⟨vb, 0, none⟩) 1 1]).run Try.prog W1 = .ok (goInt (1 : Nat)) (W1.setRow g (splice (splice cur ((i + 1) * 3) (cE (xs.drop i))) (i * 3) (elc x)).toArray) := fun ty dc =>
    run_copy_k W1 22 22 ty 69 3 g (i * 3) (n + 1 - i) dc ⟨vb, 0, none⟩ 1 1 1 _ 69 _ Try.underlying22 sizeE' hg1 (by simp only [Nat.min_def]; split <;> omega) rfl
      (fun j v hj => by rw [add_lit, Nat.zero_add, cell_row hv1, List.getElem?_toArray]; exact hj) (by rw [length_splice _ _ _ (by rw [hdl, hcl.out]; omega), hcl.out]; simp [elc]; omega) (by rw [← cE_one]; exact cE_one' _)
  obtain ⟨W2, hW2⟩ : ∃ W2, W2 = W1.setRow g (splice (splice cur ((i + 1) * 3) (cE (xs.drop i))) (i * 3) (elc x)).toArray := ⟨_, rfl⟩
  rw [← hW2] at hcp2
  have R : Hid (W2.heap[g]? = some (.cells (splice (splice cur ((i + 1) * 3) (cE (xs.drop i))) (i * 3) (elc x)).toArray 69 (0, 0)) ∧ Fr (· = g) w W2) := by
    rw [hW2]
    exact ⟨setRow_heap W1 g _ _ 69 _ hg1, F1.trans (Fr.setRow _ _ _ rfl)⟩
  clear hW1 hg1 F1 hv1 hW2 hgd hdl
  have hz2 : ¬ ((i : Int) = (n : Int)) := by omega
  have hw1 : IntKind.i64.wrap ((i : Int) + 1) = (i : Int) + 1 := by rw [IntKind.wrap_i64]; omega
  have hb1 : (0 : Int) ≤ (i : Int) + 1 := by omega
  have hin : i ≤ n := by omega
  have htn : ((i : Int) + 1).toNat = i + 1 := by omega
  have hb2 : ¬ (c = i + 1) := by omega
  have hb3 : (i : Int) ≤ (n : Int) + 1 := by omega
  have hb4 : ¬ (c = i) := by omega
  go_enter Try.func51, Try.ntmps51
  go_wp2_with (simp only [hov])
  go_region_law (refine step_copy_k rfl _ _ 22 22 rfl _ _ (by simp [Act.eval, Act.put]) (by simp [Act.eval, Act.put]) (hcp1 _ _ _) ?_)
  go_wp2_with (at_builtin; refine wpList_copy_k _ rfl _ _ 22 22 rfl _ _ rfl rfl (hcp2 _ _) ?_)
  go_ret
  exact ⟨rfl, R.out⟩
end Go.Proofs.Ytlmgogonghafeaa
