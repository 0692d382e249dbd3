/-
  slices.Insert of one element: at the end; and all ways together.
-/
import Derived.Test.YtlmgogonghafeaaInb
namespace Go.Proofs.Ytlmgogonghafeaa
open Go.RowKit Go.Lib
set_option linter.unusedVariables false

theorem push_take (L : List Value) (xs : List El) (x : El) (n : Nat) (hx : xs.length = n) (hL : n * 3 ≤ L.length) (ht : L.take (n * 3) = cE xs) :
    (splice L (n * 3) (elc x)).take ((n + 1) * 3) = cE (xs ++ [x]) := by
  have h := splice_take_end L (n * 3) (elc x) hL
  rw [show n * 3 + (elc x).length = (n + 1) * 3 from by simp [elc]; omega, ht] at h
  rw [h, cE_app, cE_one]

/-- append of one element onto nil or a row of the call's own. -/
theorem run_pushE (w : World) (β : Option Nat) (v : Value) (xs : List El) (hv : SE w β v xs) (vb : Nat) (x : El) (hb : w.heap[vb]? = some (.cells (elc x).toArray 69 (0, 0))) (hn : xs.length ≤ 4096) :
    ∃ v' w', (∀ ty, (Builtin.append_ #[22, 22] ty #[v, .slice (some ⟨vb, 0, none⟩) 1 1]).run Try.prog w = .ok v' w') ∧ NowE w w' β v' (xs ++ [x]) := by
  obtain ⟨i0, hi0, hz0, hz1, hz2⟩ := info_parts Try.infoE
  have hl : (elc x).length = 1 * i0.size := by rw [hz1]; rfl
  have hnews : ∀ j u, (elc x)[j]? = some u → w.cell? ((⟨vb, 0, none⟩ : Addr).add j) = some u := fun j u hj => by
    rw [add_lit, Nat.zero_add, cell_row hb, List.getElem?_toArray]
    exact hj
  have h1 : ∀ u ∈ elc x, u.oneCell' = true := by rw [← cE_one]; exact cE_one' _
  have newrow : ∀ G, xs.length + 1 ≤ G → G ≤ 9223372036854775807 → RowE (w.drew.alloc (.cells ((cE xs).toArray ++ (elc x).toArray ++ Builtin.zeroCells #[.int .u8 0, .int .i64 0, .int .i64 0] (G - (xs.length + 1))) 69)) w.heap.size (xs.length + 1) G (xs ++ [x]) := by
    intro G hG1 hG2
    refine ⟨((cE xs).toArray ++ (elc x).toArray ++ Builtin.zeroCells #[.int .u8 0, .int .i64 0, .int .i64 0] (G - (xs.length + 1))).toList, ?_, ?_, by simp, hG1, hG2, ?_⟩
    · rw [show w.heap.size = w.drew.heap.size from rfl, heap_alloc_new]
    · rw [Array.toList_append, Array.toList_append, List.toList_toArray, List.toList_toArray]
      have : (cE xs ++ elc x).length = (xs.length + 1) * 3 := by rw [List.length_append, cE_len]; simp [elc]; omega
      rw [← this, List.take_left, cE_app, cE_one]
    · rw [Array.toList_append, Array.toList_append, List.length_append, List.length_append, zero_len, List.toList_toArray, List.toList_toArray, cE_len]
      simp [elc]
      omega
  cases β with
  | none =>
    obtain ⟨rfl, rfl⟩ := hv
    have hr := fun ty => run_append_nil (P := Try.prog) w 22 ty 69 i0 _ Try.underlying22 hi0 hz0 ⟨vb, 0, none⟩ 1 1 (elc x) hl hnews (by omega) (by omega) (by rw [hz2]; omega)
    have hG1 := grownCap_ge w 1 0 69
    have hG2 := grownCap_le_maxLen w 1 0 69 (by unfold maxLen; omega)
    generalize grownCap w 1 0 69 = G at hr hG1 hG2
    refine ⟨_, _, hr, some w.heap.size, ?_, .inr ⟨_, rfl, Nat.le_refl _⟩, (Fr.drew _ w).trans (Fr.alloc _ _ _)⟩
    have := newrow G hG1 hG2
    simp [cE_nil] at this
    refine ⟨G, rfl, ?_⟩
    simpa [Value.cells] using this
  | some g =>
    obtain ⟨cap, rfl, cur, hh, htk, hvl, hnc, hcm, hcs⟩ := hv
    by_cases hroom : xs.length + 1 ≤ cap
    · have hr := fun ty => run_append_room (P := Try.prog) w 22 ty 69 i0 Try.underlying22 hi0 g xs.length cap cur.toArray hh ⟨vb, 0, none⟩ 1 1 (elc x) hl hnews h1 hroom (by rw [hz1]; simp [elc, hcs]; omega)
      refine ⟨_, _, hr, some g, ⟨cap, by simp, ?_⟩, .inl rfl, Fr.setRow _ _ _ rfl⟩
      rw [hz1]
      refine ⟨splice cur (xs.length * 3) (elc x), ?_, by simpa using push_take cur xs x xs.length rfl (by omega) htk, rfl, by simpa using hroom, hcm, ?_⟩
      · have := setRow_heap w g cur.toArray (splice cur (xs.length * 3) (elc x)).toArray 69 _ hh
        simpa [splice] using this
      · rw [length_splice _ _ _ (by simp [elc]; omega), hcs]
    · have holds : ∀ j u, (cE xs)[j]? = some u → w.cell? ((⟨g, 0, none⟩ : Addr).add j) = some u := by
        have := row_cells hh htk rfl 0 (Nat.zero_le _)
        simpa using this
      have hr := fun ty => run_append_grow (P := Try.prog) w 22 ty 69 i0 _ Try.underlying22 hi0 hz0 ⟨g, 0, none⟩ xs.length cap (cE xs) (by rw [hz1, cE_len]) holds ⟨vb, 0, none⟩ 1 1 (elc x) hl hnews (by omega) (by omega) (growslice_fits (by omega) (by rw [hz2]; omega))
      have hG1 := grownCap_ge w (xs.length + 1) cap 69
      have hG2 := grownCap_le_maxLen w (xs.length + 1) cap 69 (by unfold maxLen; omega)
      generalize grownCap w (xs.length + 1) cap 69 = G at hr hG1 hG2
      refine ⟨_, _, hr, some w.heap.size, ⟨G, by simp, ?_⟩, .inr ⟨_, rfl, Nat.le_refl _⟩, (Fr.drew _ w).trans (Fr.alloc _ _ _)⟩
      have := newrow G hG1 hG2
      simpa [Value.cells] using this

set_option maxHeartbeats 4000000 in
set_option maxRecDepth 100000 in
theorem insert_end (β : Option Nat) (a : Option Addr) (n c vb : Nat) (x : El) (xs : List El) (w : World) (hc : n ≤ c) (hc63 : c ≤ 9223372036854775807) (hn : n ≤ 4096) (hx : Hid (xs.length = n)) (hS : Hid (SE w β (.slice a n c) xs))
    (hv : Hid (w.heap[vb]? = some (.cells (elc x).toArray 69 (0, 0)))) :
    Calls Try.prog 51 #[.slice a n c, .int .i64 n, .slice (some ⟨vb, 0, none⟩) 1 1] w fun e w' =>
      ∃ v, e = .returned v ∧ NowE w w' β v (xs ++ [x]) := by
  obtain ⟨v', W1, hr, hN⟩ := run_pushE w β _ xs hS.out vb x hv.out (by have := hx.out; omega)
  have R := hd hN
  clear hN
  by_cases hcn : c = n
  · subst hcn
    cases a with
    | none =>
      go_enter Try.func51, Try.ntmps51
      go_wp2_with (at_builtin; refine wpList_append_k _ rfl _ _ 22 22 rfl _ _ rfl rfl (hr _) ?_)
      go_ret
      exact ⟨_, rfl, R.out⟩
    | some a =>
      go_enter Try.func51, Try.ntmps51
      go_wp2_with (at_builtin; refine wpList_append_k _ rfl _ _ 22 22 rfl _ _ rfl rfl (hr _) ?_)
      go_ret
      exact ⟨_, rfl, R.out⟩
  · cases a with
    | none =>
      have : c = 0 ∧ n = 0 := by
        have h := hS.out
        cases β with
        | none =>
          have h1 := h.1
          simp at h1
          omega
        | some g =>
          obtain ⟨cap, h1, _⟩ := h
          simp at h1
      omega
    | some a =>
      go_enter Try.func51, Try.ntmps51
      go_wp2_with (at_builtin; refine wpList_append_k _ rfl _ _ 22 22 rfl _ _ rfl rfl (hr _) ?_)
      go_ret
      exact ⟨_, rfl, R.out⟩

theorem insert_any (β : Option Nat) (v : Value) (i vb : Nat) (x : El) (xs : List El) (w : World) (hS : SE w β v xs) (hi : i ≤ xs.length) (hn : xs.length < 4096)
    (hv : w.heap[vb]? = some (.cells (elc x).toArray 69 (0, 0))) (hvb : β ≠ some vb) :
    Calls Try.prog 51 #[v, .int .i64 i, .slice (some ⟨vb, 0, none⟩) 1 1] w fun e w' => ∃ v', e = .returned v' ∧ NowE w w' β v' (xs.take i ++ x :: xs.drop i) := by
  obtain ⟨a, c, rfl, hE, -⟩ := hS.form
  by_cases hin : i = xs.length
  · subst hin
    rw [List.take_of_length_le (Nat.le_refl _), List.drop_of_length_le (Nat.le_refl _)]
    exact insert_end β a xs.length c vb x xs w hE.2.1 hE.2.2.1 (by omega) rfl hS hv
  · cases β with
    | none =>
      obtain ⟨-, rfl⟩ := hS
      simp at hi hin
      omega
    | some g =>
      obtain ⟨cap, h1, hR⟩ := hS
      have h2 := Value.slice.inj h1
      obtain ⟨rfl, -, rfl⟩ := h2
      obtain ⟨cur, hh, htk, hvl, hnc, hcm, hcs⟩ := hR
      by_cases hroom : xs.length + 1 ≤ c
      · refine (insert_shift g vb xs.length c i x xs cur w (by omega) hroom hcm (fun h => hvb (by rw [h])) hh htk rfl hcs hv).mono ?_
        rintro e w' ⟨rfl, hh', hF⟩
        have hl : (xs.take i ++ x :: xs.drop i).length = xs.length + 1 := by simp; omega
        have hdl : (cE (xs.drop i)).length = (xs.length - i) * 3 := by rw [cE_len, List.length_drop]
        have hl1 : (splice cur ((i + 1) * 3) (cE (xs.drop i))).length = c * 3 := by rw [length_splice _ _ _ (by omega), hcs]
        refine ⟨_, rfl, some g, ⟨c, by rw [hl], _, hh', by rw [hl]; exact shift_take cur xs x i xs.length rfl (by omega) (by omega) htk, rfl, by omega, hcm, ?_⟩, .inl rfl, hF.mono (fun k _ h => by rw [h])⟩
        rw [length_splice _ _ _ (by rw [hl1]; simp [elc]; omega), hl1]
      · obtain rfl : c = xs.length := by omega
        refine (insert_grow g vb xs.length i x xs cur w (by omega) (by omega) hh htk rfl hv).mono ?_
        rintro e w' ⟨G, rfl, hR, hF⟩
        have hl : (xs.take i ++ x :: xs.drop i).length = xs.length + 1 := by simp; omega
        exact ⟨_, rfl, some w.heap.size, ⟨G, by rw [hl], by rw [hl]; exact hR⟩, .inr ⟨_, rfl, Nat.le_refl _⟩, hF.mono (fun k _ h => h.elim)⟩

end Go.Proofs.Ytlmgogonghafeaa
