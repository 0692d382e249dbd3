/-
  slices.Delete of one element, of a row of ints.
-/
import Derived.Test.YtnglcnilckolkaaNc
namespace Go.Proofs.Ytnglcnilckolkaa
open Go.RowKit Go.Lib
set_option linter.unusedVariables false

theorem Try.info3 : (Try.prog.info? 3).map (fun i => (i.zero, i.size, i.bytes)) = some (some (.int .i64 0), 1, 8) := by kernel_rfl

theorem run_clear_one (w : World) (ty : TypeId) (g o cap : Nat) (cur : List Value) (hg : w.heap[g]? = some (.cells cur.toArray 3 (0, 0))) (hfit : o + 1 ≤ cur.length) :
    (Builtin.clear_ #[64] ty #[.slice (some ⟨g, o, none⟩) 1 cap]).run Try.prog w = .ok (.tuple #[]) (w.setRow g (splice cur o [.int .i64 0]).toArray) := by
  obtain ⟨i0, hi0, hz0, hz1, hz2⟩ := info_parts Try.info3
  have hz : (Builtin.zeroCells (Value.int .i64 0).cells 1).toList = [.int .i64 0] := by kernel_rfl
  have hst := run_storeCells_at Try.prog g o 3 [.int .i64 0] 0 cur.toArray w hg (by simpa using hfit) (by intro v hv; simp at hv; subst hv; rfl)
  simp [Builtin.clear_, run_underlying Try.underlying64, zeroValue, typeInfo, hi0, hz0, hz, hst, splice]

theorem row_cells {w : World} {g n : Nat} {cur vs : List Value} (hg : w.heap[g]? = some (.cells cur.toArray 3 (0, 0))) (ht : cur.take n = vs) (hn : vs.length = n) (i : Nat) :
    ∀ j u, (vs.drop i)[j]? = some u → w.cell? ((⟨g, i, none⟩ : Addr).add j) = some u := by
  intro j u hj
  have ea : (⟨g, i, none⟩ : Addr).add j = ⟨g, i + j, none⟩ := by
    by_cases h0 : j = 0
    · subst h0; simp [Addr.add]
    · simp [Addr.add, h0]
  rw [ea, cell_row hg]
  rw [List.getElem?_drop] at hj
  have hl : i + j < n := by
    have := (List.getElem?_eq_some_iff.1 hj).1
    omega
  rw [← ht, List.getElem?_take, if_pos hl] at hj
  simpa using hj

def Aint (v : Value) : Prop := ∃ x, v = .int .i64 x
theorem one_of_ints {vs : List Value} (h : ∀ v ∈ vs, Aint v) : ∀ v ∈ vs, v.oneCell' = true := fun v hv => by
  obtain ⟨x, rfl⟩ := h v hv
  rfl

set_option maxHeartbeats 4000000 in
set_option maxRecDepth 100000 in
theorem delete_row (g m c i : Nat) (vs : List Value) (cur : List Value) (w : World) (hi : i ≤ m) (hroom : m + 1 ≤ c) (hm : m ≤ 4096) (hc63 : c ≤ 9223372036854775807)
    (hg : Hid (w.heap[g]? = some (.cells cur.toArray 3 (0, 0)))) (ht : Hid (cur.take (m + 1) = vs)) (hx : Hid (vs.length = m + 1)) (hcl : Hid (cur.length = c)) (hA : Hid (∀ v ∈ vs, Aint v)) :
    Calls Try.prog 47 #[.slice (some ⟨g, 0, none⟩) (m + 1) c, .int .i64 i, .int .i64 ((i : Int) + 1)] w fun e w' =>
      e = .returned (.slice (some ⟨g, 0, none⟩) m c) ∧ w'.heap[g]? = some (.cells (splice (splice cur i (vs.drop (i + 1))) m [.int .i64 0]).toArray 3 (0, 0)) ∧ Fr (· = g) w w' := by
  obtain ⟨i0, hi0, hz0, hz1, hz2⟩ := info_parts Try.info3
  have hdl : (vs.drop (i + 1)).length = m - i := by rw [List.length_drop, hx.out]; omega
  have hgd : w.drew.heap[g]? = some (.cells cur.toArray 3 (0, 0)) := hg.out
  obtain ⟨W1, hW1⟩ : ∃ W1, W1 = w.drew.setRow g (splice cur i (vs.drop (i + 1))).toArray := ⟨_, rfl⟩
  have hap : ∀ (A : Addr) ty, (c = i + 1 ∨ A = ⟨g, i + 1, none⟩) → (Builtin.append_ #[64, 64] ty #[.slice (some ⟨g, 0, none⟩) i c, .slice (some A) (m - i) (c - (i + 1))]).run Try.prog w.drew = .ok (.slice (some ⟨g, 0, none⟩) m c) W1 := fun A ty hA' => by
    have hsrc : ∀ j u, (vs.drop (i + 1))[j]? = some u → w.drew.cell? (A.add j) = some u := by
      rcases hA' with hA' | rfl
      · intro j u hj
        have : (vs.drop (i + 1)).length = 0 := by rw [hdl]; omega
        rw [List.length_eq_zero_iff.1 this] at hj
        simp at hj
      · exact row_cells hgd ht.out hx.out (i + 1)
    have hr := run_append_room (P := Try.prog) w.drew 64 ty 3 i0 Try.underlying64 hi0 g i c cur.toArray hgd A (m - i) (c - (i + 1)) (vs.drop (i + 1)) (by rw [hz1, hdl]; omega) hsrc (one_of_ints (fun v hv => hA.out v (List.mem_of_mem_drop hv))) (by omega) (by rw [hz1, hdl]; simp [hcl.out]; omega)
    rw [show i + (m - i) = m by omega, hz1] at hr
    rw [hW1]
    simpa [splice] using hr
  have hg1 : W1.heap[g]? = some (.cells (splice cur i (vs.drop (i + 1))).toArray 3 (0, 0)) := by rw [hW1]; exact setRow_heap w.drew g _ _ 3 _ hgd
  have hl1 : (splice cur i (vs.drop (i + 1))).length = c := by rw [length_splice _ _ _ (by rw [hdl, hcl.out]; omega), hcl.out]
  have F1 : Fr (· = g) w W1 := by rw [hW1]; exact (Fr.drew _ w).trans (Fr.setRow _ _ _ rfl)
  have hcr : ∀ ty dc, (Builtin.clear_ #[64] ty #[.slice (some ⟨g, m, none⟩) 1 dc]).run Try.prog W1 = .ok (.tuple #[]) (W1.setRow g (splice (splice cur i (vs.drop (i + 1))) m [.int .i64 0]).toArray) := fun ty dc =>
    run_clear_one W1 ty g m dc _ hg1 (by rw [hl1]; omega)
  obtain ⟨W2, hW2⟩ : ∃ W2, W2 = W1.setRow g (splice (splice cur i (vs.drop (i + 1))) m [.int .i64 0]).toArray := ⟨_, rfl⟩
  rw [← hW2] at hcr
  have R : Hid (W2.heap[g]? = some (.cells (splice (splice cur i (vs.drop (i + 1))) m [.int .i64 0]).toArray 3 (0, 0)) ∧ Fr (· = g) w W2) := by
    rw [hW2]
    exact ⟨setRow_heap W1 g _ _ 3 _ hg1, F1.trans (Fr.setRow _ _ _ rfl)⟩
  clear hW1 hg1 hl1 F1 hW2 hgd hdl hi0 hz0 hz1 hz2
  have hw1 : IntKind.i64.wrap ((i : Int) + 1) = (i : Int) + 1 := by rw [IntKind.wrap_i64]; omega
  have hb1 : (0 : Int) ≤ (i : Int) + 1 := by omega
  have htn : ((i : Int) + 1).toNat = i + 1 := by omega
  have hb3 : (i : Int) ≤ (i : Int) + 1 := by omega
  have hb4 : (i : Int) + 1 ≤ (m : Int) + 1 := by omega
  have hb5 : ¬ (c = i) := by omega
  have hb6 : i ≤ c := by omega
  have hb7 : i + 1 ≤ c := by omega
  have hb8 : ¬ (c = m) := by omega
  go_enter Try.func47, Try.ntmps47
  go_wp2_with fail
  by_cases hcj : c = i + 1
  · subst hcj
    have hap0 : ∀ ty, (Builtin.append_ #[64, 64] ty #[.slice (some ⟨g, 0, none⟩) i (i + 1), .slice (some ⟨g, 0, none⟩) 0 0]).run Try.prog w.drew = .ok (.slice (some ⟨g, 0, none⟩) m (i + 1)) W1 := fun ty => by
      have h := hap ⟨g, 0, none⟩ ty (.inl rfl)
      rwa [Nat.sub_self, show m - i = 0 by omega] at h
    clear hap
    go_region_law (refine step_append_k rfl (.tmp 22) (.tmp 25) 64 64 rfl (.slice (some ⟨g, 0, none⟩) i (i + 1)) (.slice (some ⟨g, 0, none⟩) 0 0) (by simp [Act.eval, Act.put]) (by simp [Act.eval, Act.put]) (hap0 _) ?_)
    go_wp2_with (at_builtin; refine wpList_clear_k _ rfl _ 64 rfl _ rfl (hcr _ _) ?_)
    go_ret
    exact ⟨rfl, R.out⟩
  · go_region_law (refine step_append_k rfl (.tmp 22) (.tmp 25) 64 64 rfl (.slice (some ⟨g, 0, none⟩) i c) (.slice (some ⟨g, i + 1, none⟩) (m - i) (c - (i + 1))) (by simp [Act.eval, Act.put]) (by simp [Act.eval, Act.put]) (hap ⟨g, i + 1, none⟩ _ (.inr rfl)) ?_)
    go_wp2_with (at_builtin; refine wpList_clear_k _ rfl _ 64 rfl _ rfl (hcr _ _) ?_)
    go_ret
    exact ⟨rfl, R.out⟩

theorem delete_any (β : Option Nat) (v : Value) (i : Nat) (vs : List Value) (w : World) (hS : SRow w 3 β v vs) (hi : i < vs.length) (hn : vs.length ≤ 4096) (hA : ∀ v ∈ vs, Aint v) :
    Calls Try.prog 47 #[v, .int .i64 i, .int .i64 ((i : Int) + 1)] w fun e w' => ∃ v', e = .returned v' ∧ SRow w' 3 β v' (vs.take i ++ vs.drop (i + 1)) ∧ Fr (fun k => β = some k) w w' := by
  cases β with
  | none =>
    obtain ⟨-, rfl⟩ := hS
    simp at hi
  | some g =>
    obtain ⟨c, rfl, cur, hh, htk, hvl, hnc, hcm, hcs⟩ := hS
    obtain ⟨m, hm⟩ : ∃ m, vs.length = m + 1 := ⟨vs.length - 1, by omega⟩
    rw [hm] at htk hnc hi ⊢
    refine (delete_row g m c i vs cur.toList w (by omega) hnc (by omega) hcm (hd (by simpa using hh)) htk hm (hd (by simpa using hcs)) hA).mono ?_
    rintro e w' ⟨rfl, hh', hF⟩
    have hl : (vs.take i ++ vs.drop (i + 1)).length = m := by simp; omega
    have hdl : (vs.drop (i + 1)).length = m - i := by rw [List.length_drop, hm]; omega
    have hcl : cur.toList.length = c := by simpa using hcs
    have hl1 : (splice cur.toList i (vs.drop (i + 1))).length = c := by rw [length_splice _ _ _ (by omega), hcl]
    refine ⟨_, rfl, ⟨c, by rw [hl], _, hh', ?_, rfl, by omega, hcm, ?_⟩, hF.mono (fun k _ h => by rw [h])⟩
    · rw [hl, List.toList_toArray]
      have h2 : cur.toList.take i = vs.take i := by rw [← htk, List.take_take, Nat.min_eq_left (by omega)]
      unfold splice
      rw [List.take_append_of_le_length (by simp [hcl]; omega), List.take_take, Nat.min_self, h2, ← List.append_assoc, ← hl, List.take_left]
    · rw [List.size_toArray, length_splice _ _ _ (by rw [hl1]; simp; omega), hl1]

end Go.Proofs.Ytnglcnilckolkaa
