/-
  slices.Delete of the first elements; Ack.
-/
import Derived.Test.YtpjnhjijipcjkaaAe
namespace Go.Proofs.Ytpjnhjijipcjkaa
open Go.RowKit Go.Lib
set_option linter.unusedVariables false

theorem zeros_one {z : Array Value} (h : ∀ v ∈ z, v.oneCell' = true) (d : Nat) : ∀ v ∈ (Builtin.zeroCells z d).toList, v.oneCell' = true := by
  intro v hv
  simp [Builtin.zeroCells] at hv
  obtain ⟨l, hl, rfl⟩ := hv
  have h0 : 0 < z.size := by
    rcases Nat.eq_zero_or_pos z.size with h0 | h0
    · rw [h0] at hl; omega
    · exact h0
  have hm := Nat.mod_lt l h0
  rw [getElem!_pos z _ hm]
  exact h _ (Array.getElem_mem hm)

theorem run_clear {P : Program} (w : World) (t ty e : TypeId) (i : TypeInfo) (z : Value) (ht : P.underlying t = some (.slice e)) (hi : P.info? e = some i) (hz : i.zero = some z) (hzs : z.cells.size = i.size) (h1 : ∀ v ∈ z.cells, v.oneCell' = true)
    (g o d cap : Nat) (cur : List Value) (hg : w.heap[g]? = some (.cells cur.toArray e (0, 0))) (h0 : 0 < d) (hfit : o + d * i.size ≤ cur.length) :
    (Builtin.clear_ #[t] ty #[.slice (some ⟨g, o, none⟩) d cap]).run P w = .ok (.tuple #[]) (w.setRow g (splice cur o (Builtin.zeroCells z.cells d).toList).toArray) := by
  have hl : (Builtin.zeroCells z.cells d).toList.length = d * i.size := by rw [Array.length_toList, size_zeroCells, hzs]
  have hst := run_storeCells_at P g o e (Builtin.zeroCells z.cells d).toList 0 cur.toArray w hg (by rw [hl]; simpa using hfit) (zeros_one h1 d)
  simp only [Nat.add_zero] at hst
  obtain ⟨d, rfl⟩ : ∃ m, d = m + 1 := ⟨d - 1, by omega⟩
  simp [Builtin.clear_, run_underlying ht, zeroValue, typeInfo, hi, hz, hst, splice]

theorem take_splice {L Z : List Value} {m o : Nat} (h : m ≤ o) (ho : o ≤ L.length) : (splice L o Z).take m = L.take m := by
  unfold splice
  rw [List.take_append_of_le_length (by simp; omega), List.take_take, Nat.min_eq_left h]

/-- What append and clear make of a row whose first d elements go. -/
theorem row_cut {α : Type} {f : α → List Value} {k : Nat} (hz : Sz f k) {P : Program} (w : World) (t e : TypeId) (i : TypeInfo) (z : Value) (ht : P.underlying t = some (.slice e)) (hi : P.info? e = some i) (hzo : i.zero = some z) (hsz : i.size = k) (hzs : z.cells.size = k) (h1 : ∀ v ∈ z.cells, v.oneCell' = true)
    (g N cap d : Nat) (xs : List α) (h : RowF f k w g N cap e xs) (h0 : 0 < d) (hdN : d ≤ N) : ∃ w1 w2,
      (∀ ty A c, (N = d ∨ A = ⟨g, d * k, none⟩) → (Builtin.append_ #[t, t] ty #[.slice (some ⟨g, 0, none⟩) 0 cap, .slice (some A) (N - d) c]).run P w = .ok (.slice (some ⟨g, 0, none⟩) (N - d) cap) w1) ∧
      (∀ ty c, (Builtin.clear_ #[t] ty #[.slice (some ⟨g, (N - d) * k, none⟩) d c]).run P w1 = .ok (.tuple #[]) w2) ∧
      RowF f k w2 g (N - d) cap e (xs.drop d) ∧ Fr (· = g) w w2 := by
  have hR := h
  obtain ⟨cur, hh, htk, hl, hnc, hcm, hcs⟩ := h
  subst hsz
  have hdl : (xs.drop d).length = N - d := by rw [List.length_drop, hl]
  have hlm : (cl f (xs.drop d)).length = (N - d) * i.size := by rw [cl_len hz, hdl]
  have hle : (N - d) * i.size ≤ cap * i.size := Nat.mul_le_mul_right _ (by omega)
  have hle2 : (N - d) * i.size + d * i.size ≤ cap * i.size := by rw [← Nat.add_mul]; exact Nat.mul_le_mul_right _ (by omega)
  obtain ⟨c1, hc1⟩ : ∃ c1, c1 = splice cur 0 (cl f (xs.drop d)) := ⟨_, rfl⟩
  have hl1 : c1.length = cap * i.size := by rw [hc1, length_splice _ _ _ (by rw [hlm]; omega), hcs]
  have hg1 : (w.setRow g c1.toArray).heap[g]? = some (.cells c1.toArray e (0, 0)) := setRow_heap w g _ _ e _ hh
  obtain ⟨c2, hc2⟩ : ∃ c2, c2 = splice c1 ((N - d) * i.size) (Builtin.zeroCells z.cells d).toList := ⟨_, rfl⟩
  have hzl : (Builtin.zeroCells z.cells d).toList.length = d * i.size := by rw [Array.length_toList, size_zeroCells, hzs]
  refine ⟨w.setRow g c1.toArray, (w.setRow g c1.toArray).setRow g c2.toArray, ?_, ?_, ⟨c2, setRow_heap _ g _ _ e _ hg1, ?_, hdl, by omega, hcm, ?_⟩, Fr.trans (S := (· = g)) (Fr.setRow _ _ _ rfl) (Fr.setRow _ _ _ rfl)⟩
  · intro ty A c hA
    obtain ⟨cur', h3, h4, -⟩ := row_moved hz w t ty e i ht hi rfl g N cap d c xs hR hdN A hA
    rw [hh] at h4
    have : cur' = cur := by
      injection h4 with h4
      injection h4 with h4
      simpa using h4.symm
    rw [h3, this, hc1]
  · intro ty c
    rw [hc2]
    exact run_clear _ t ty e i z ht hi hzo hzs h1 g _ d c c1 hg1 h0 (by omega)
  · rw [hc2, take_splice (Nat.le_refl _) (by omega), hc1]
    unfold splice
    rw [List.take_zero, List.nil_append, ← hlm, List.take_left]
  · rw [hc2, length_splice _ _ _ (by omega), hl1]

set_option maxHeartbeats 4000000 in
set_option maxRecDepth 100000 in
theorem delete_row (g N c d : Nat) (xs : List Int) (w : World) (h0 : 0 < d) (hdN : d ≤ N) (hN : N ≤ 4096) (hc63 : c ≤ 9223372036854775807) (hNc : N ≤ c) (h : Hid (RowF ei 1 w g N c 3 xs)) :
    Calls Try.prog 39 #[.slice (some ⟨g, 0, none⟩) N c, .int .i64 0, .int .i64 d] w fun e w' => e = .returned (.slice (some ⟨g, 0, none⟩) (N - d) c) ∧ RowF ei 1 w' g (N - d) c 3 (xs.drop d) ∧ Fr (· = g) w w' := by
  obtain ⟨i0, hi0, hz0, hz1, hz2⟩ := info_parts Try.infoI
  obtain ⟨w1, w2, hap, hcr, hR, hF⟩ := row_cut sz_ei (P := Try.prog) w.drew 22 3 i0 _ Try.underlying22 hi0 hz0 hz1 rfl (fun v hv => by simp [Value.cells] at hv; subst hv; rfl) g N c d xs (h.out.fr (S := fun _ => False) (Fr.drew _ w) (fun h => h)) h0 hdN
  have R := hd (And.intro hR ((Fr.drew _ w).trans hF))
  simp only [Nat.mul_one] at hap hcr
  clear hR hF hi0 hz0 hz1 hz2
  have hb1 : (0 : Int) ≤ (d : Int) := by omega
  have hb2 : (d : Int) ≤ (N : Int) := by omega
  have hb3 : ¬ ((0 : Int) = (d : Int)) := by omega
  have hb4 : d ≤ c := by omega
  have hb5 : ¬ (c = N - d) := by omega
  have hb6 : N - (N - d) = d := by omega
  have hb7 : N - d ≤ N := by omega
  go_enter Try.func39, Try.ntmps39
  go_wp2_with fail
  by_cases hcd : c = d
  · subst hcd
    obtain rfl : N = c := by omega
    have hap0 : ∀ ty, (Builtin.append_ #[22, 22] ty #[.slice (some ⟨g, 0, none⟩) 0 N, .slice (some ⟨g, 0, none⟩) 0 0]).run Try.prog w.drew = .ok (.slice (some ⟨g, 0, none⟩) 0 N) w1 := fun ty => by
      have := hap ty ⟨g, 0, none⟩ 0 (.inl rfl)
      rwa [Nat.sub_self] at this
    rw [Nat.sub_self] at R hcr
    have hn0 : ¬ N = 0 := by omega
    clear hap hb5 hb6 hb7
    go_region_law (refine step_append_k rfl (.tmp 22) (.tmp 25) 22 22 rfl (.slice (some ⟨g, 0, none⟩) 0 N) (.slice (some ⟨g, 0, none⟩) 0 0) (by simp [Act.eval, Act.put]) (by simp [Act.eval, Act.put]) (hap0 _) ?_)
    go_wp2_with (at_builtin; refine wpList_clear_k _ rfl _ 22 rfl _ rfl (hcr _ _) ?_)
    go_ret
    rw [Nat.sub_self]
    exact ⟨rfl, R.out⟩
  · go_region_law (refine step_append_k rfl (.tmp 22) (.tmp 25) 22 22 rfl (.slice (some ⟨g, 0, none⟩) 0 c) (.slice (some ⟨g, d, none⟩) (N - d) (c - d)) (by simp [Act.eval, Act.put]) (by simp [Act.eval, Act.put]) (hap _ ⟨g, d, none⟩ _ (.inr rfl)) ?_)
    go_wp2_with (at_builtin; refine wpList_clear_k _ rfl _ 22 rfl _ rfl (hcr _ _) ?_)
    go_ret
    exact ⟨rfl, R.out⟩

end Go.Proofs.Ytpjnhjijipcjkaa
