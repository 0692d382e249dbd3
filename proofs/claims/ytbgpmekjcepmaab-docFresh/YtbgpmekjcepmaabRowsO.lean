/-
  Rows of operations that grow; replays of lines put together.
-/
import Derived.Test.YtbgpmekjcepmaabRep
namespace Go.Proofs.Ytbgpmekjcepmaab
open Go.RowKit Go.Lib
set_option linter.unusedVariables false

theorem Try.infoO : (Try.prog.info? 29).map (fun i => (i.zero, i.size, i.bytes)) = some (some (.agg #[.int .i64 0, .int .i64 0, .int .u8 0, .int .i64 0, .int .i64 0]), 5, 40) := by kernel_rfl

/-- Block g is a row of cap operations, the first N of them os. -/
def RowO (w : World) (g N cap : Nat) (os : List OpE) : Prop :=
  ∃ cur : List Value, w.heap[g]? = some (.cells cur.toArray 29 (0, 0)) ∧ cur.take (N * 5) = cO os ∧ os.length = N ∧ N ≤ cap ∧ cap ≤ 9223372036854775807 ∧ cur.length = cap * 5

theorem RowO.fr {S : Nat → Prop} {w w' : World} {g N cap : Nat} {os : List OpE} (h : RowO w g N cap os) (hF : Fr S w w') (hS : ¬ S g) : RowO w' g N cap os := by
  obtain ⟨cur, hh, r⟩ := h
  exact ⟨cur, hF.keeps hh hS, r⟩
theorem RowO.lt {w : World} {g N cap : Nat} {os : List OpE} (h : RowO w g N cap os) : g < w.heap.size := by
  obtain ⟨cur, hh, _⟩ := h
  exact block_lt hh
theorem RowO.isO {w : World} {g N cap : Nat} {os : List OpE} (h : RowO w g N cap os) : IsO w (some ⟨g, 0, none⟩) N cap os := by
  obtain ⟨cur, hh, ht, hl, hn, hm, hs⟩ := h
  refine ⟨hl, hn, hm, fun _ => ⟨g, 0, rfl, block_lt hh, fun j v hj => ?_⟩⟩
  rw [Nat.zero_add, cell_row hh, List.getElem?_toArray]
  rw [← ht, List.getElem?_take] at hj
  split at hj
  · exact hj
  · cases hj

/-- nil, or a row at the block. -/
def SO (w : World) (β : Option Nat) (v : Value) (os : List OpE) : Prop :=
  match β with
  | none => v = .slice none 0 0 ∧ os = []
  | some g => ∃ cap, v = .slice (some ⟨g, 0, none⟩) os.length cap ∧ RowO w g os.length cap os

theorem SO.fr {S : Nat → Prop} {w w' : World} {β : Option Nat} {v : Value} {os : List OpE} (h : SO w β v os) (hF : Fr S w w') (hS : ∀ g, β = some g → ¬ S g) : SO w' β v os := by
  cases β with
  | none => exact h
  | some g =>
    obtain ⟨cap, hv, hR⟩ := h
    exact ⟨cap, hv, hR.fr hF (hS g rfl)⟩
theorem SO.below {w w' : World} {β : Option Nat} {v : Value} {os : List OpE} (h : SO w β v os) (hb : Below w.heap.size w w') : SO w' β v os :=
  h.fr (S := fun _ => False) (Fr.of_below hb) (fun _ _ h => h)
theorem SO.lt {w : World} {β : Option Nat} {v : Value} {os : List OpE} (h : SO w β v os) : ∀ g, β = some g → g < w.heap.size := by
  rintro g rfl
  obtain ⟨cap, hv, hR⟩ := h
  exact hR.lt
theorem SO.form {w : World} {β : Option Nat} {v : Value} {os : List OpE} (h : SO w β v os) : ∃ a c, v = .slice a os.length c ∧ IsO w a os.length c os := by
  cases β with
  | none =>
    obtain ⟨rfl, rfl⟩ := h
    exact ⟨none, 0, rfl, ⟨rfl, Nat.le_refl _, by omega, fun h => by simp at h⟩⟩
  | some g =>
    obtain ⟨cap, rfl, hR⟩ := h
    exact ⟨_, cap, rfl, hR.isO⟩
def NowO (w w' : World) (β : Option Nat) (v : Value) (os : List OpE) : Prop := ∃ β', SO w' β' v os ∧ Moved w β β' ∧ Fr (fun k => β = some k) w w'

theorem row_cellsO {w : World} {g N : Nat} {xs : List OpE} {cur : List Value} {t : TypeId} (hg : w.heap[g]? = some (.cells cur.toArray t (0, 0))) (ht : cur.take (N * 5) = cO xs) :
    ∀ j v, (cO xs)[j]? = some v → w.cell? ((⟨g, 0, none⟩ : Addr).add j) = some v := by
  intro j v hj
  rw [add_lit, Nat.zero_add, cell_row hg, List.getElem?_toArray]
  rw [← ht, List.getElem?_take] at hj
  split at hj
  · exact hj
  · cases hj
theorem zero_lenO (k : Nat) : (Builtin.zeroCells #[.int .i64 0, .int .i64 0, .int .u8 0, .int .i64 0, .int .i64 0] k).toList.length = k * 5 := by
  rw [Array.length_toList, size_zeroCells]
  rfl

theorem push_takeO (L : List Value) (xs : List OpE) (x : OpE) (n : Nat) (hx : xs.length = n) (hL : n * 5 ≤ L.length) (ht : L.take (n * 5) = cO xs) :
    (splice L (n * 5) (opc x)).take ((n + 1) * 5) = cO (xs ++ [x]) := by
  have h := splice_take_end L (n * 5) (opc x) hL
  rw [show n * 5 + (opc x).length = (n + 1) * 5 from by simp [opc]; omega, ht] at h
  rw [h, cO_app, cO_one]

/-- append of one element onto nil or a row of the call's own. -/
theorem run_pushO (w : World) (β : Option Nat) (v : Value) (xs : List OpE) (hv : SO w β v xs) (vb : Nat) (x : OpE) (hb : w.heap[vb]? = some (.cells (opc x).toArray 29 (0, 0))) (hn : xs.length ≤ 4096) :
    ∃ v' w', (∀ ty, (Builtin.append_ #[23, 23] ty #[v, .slice (some ⟨vb, 0, none⟩) 1 1]).run Try.prog w = .ok v' w') ∧ NowO w w' β v' (xs ++ [x]) := by
  obtain ⟨i0, hi0, hz0, hz1, hz2⟩ := info_parts Try.infoO
  have hl : (opc x).length = 1 * i0.size := by rw [hz1]; rfl
  have hnews : ∀ j u, (opc x)[j]? = some u → w.cell? ((⟨vb, 0, none⟩ : Addr).add j) = some u := fun j u hj => by
    rw [add_lit, Nat.zero_add, cell_row hb, List.getElem?_toArray]
    exact hj
  have h1 : ∀ u ∈ opc x, u.oneCell' = true := by rw [← cO_one]; exact cO_one' _
  have newrow : ∀ G, xs.length + 1 ≤ G → G ≤ 9223372036854775807 → RowO (w.drew.alloc (.cells ((cO xs).toArray ++ (opc x).toArray ++ Builtin.zeroCells #[.int .i64 0, .int .i64 0, .int .u8 0, .int .i64 0, .int .i64 0] (G - (xs.length + 1))) 29)) w.heap.size (xs.length + 1) G (xs ++ [x]) := by
    intro G hG1 hG2
    refine ⟨((cO xs).toArray ++ (opc x).toArray ++ Builtin.zeroCells #[.int .i64 0, .int .i64 0, .int .u8 0, .int .i64 0, .int .i64 0] (G - (xs.length + 1))).toList, ?_, ?_, by simp, hG1, hG2, ?_⟩
    · rw [show w.heap.size = w.drew.heap.size from rfl, heap_alloc_new]
    · rw [Array.toList_append, Array.toList_append, List.toList_toArray, List.toList_toArray]
      have : (cO xs ++ opc x).length = (xs.length + 1) * 5 := by rw [List.length_append, cO_len]; simp [opc]; omega
      rw [← this, List.take_left, cO_app, cO_one]
    · rw [Array.toList_append, Array.toList_append, List.length_append, List.length_append, zero_lenO, List.toList_toArray, List.toList_toArray, cO_len]
      simp [opc]
      omega
  cases β with
  | none =>
    obtain ⟨rfl, rfl⟩ := hv
    have hr := fun ty => run_append_nil (P := Try.prog) w 23 ty 29 i0 _ Try.underlying23 hi0 hz0 ⟨vb, 0, none⟩ 1 1 (opc x) hl hnews (by omega) (by omega) (by rw [hz2]; omega)
    have hG1 := grownCap_ge w 1 0 29
    have hG2 := grownCap_le_maxLen w 1 0 29 (by unfold maxLen; omega)
    generalize grownCap w 1 0 29 = G at hr hG1 hG2
    refine ⟨_, _, hr, some w.heap.size, ?_, .inr ⟨_, rfl, Nat.le_refl _⟩, (Fr.drew _ w).trans (Fr.alloc _ _ _)⟩
    have := newrow G hG1 hG2
    simp [cO_nil] at this
    refine ⟨G, rfl, ?_⟩
    simpa [Value.cells] using this
  | some g =>
    obtain ⟨cap, rfl, cur, hh, htk, hvl, hnc, hcm, hcs⟩ := hv
    by_cases hroom : xs.length + 1 ≤ cap
    · have hr := fun ty => run_append_room (P := Try.prog) w 23 ty 29 i0 Try.underlying23 hi0 g xs.length cap cur.toArray hh ⟨vb, 0, none⟩ 1 1 (opc x) hl hnews h1 hroom (by rw [hz1]; simp [opc, hcs]; omega)
      refine ⟨_, _, hr, some g, ⟨cap, by simp, ?_⟩, .inl rfl, Fr.setRow _ _ _ rfl⟩
      rw [hz1]
      refine ⟨splice cur (xs.length * 5) (opc x), ?_, by simpa using push_takeO cur xs x xs.length rfl (by omega) htk, rfl, by simpa using hroom, hcm, ?_⟩
      · have := setRow_heap w g cur.toArray (splice cur (xs.length * 5) (opc x)).toArray 29 _ hh
        simpa [splice] using this
      · rw [length_splice _ _ _ (by simp [opc]; omega), hcs]
    · have holds : ∀ j u, (cO xs)[j]? = some u → w.cell? ((⟨g, 0, none⟩ : Addr).add j) = some u := by
        exact row_cellsO hh htk
      have hr := fun ty => run_append_grow (P := Try.prog) w 23 ty 29 i0 _ Try.underlying23 hi0 hz0 ⟨g, 0, none⟩ xs.length cap (cO xs) (by rw [hz1, cO_len]) holds ⟨vb, 0, none⟩ 1 1 (opc x) hl hnews (by omega) (by omega) (growslice_fits (by omega) (by rw [hz2]; omega))
      have hG1 := grownCap_ge w (xs.length + 1) cap 29
      have hG2 := grownCap_le_maxLen w (xs.length + 1) cap 29 (by unfold maxLen; omega)
      generalize grownCap w (xs.length + 1) cap 29 = G at hr hG1 hG2
      refine ⟨_, _, hr, some w.heap.size, ⟨G, by simp, ?_⟩, .inr ⟨_, rfl, Nat.le_refl _⟩, (Fr.drew _ w).trans (Fr.alloc _ _ _)⟩
      have := newrow G hG1 hG2
      simpa [Value.cells] using this


theorem replayP_app : ∀ (L M : List OpE) (xs : List El) (k : Nat), replayP (L ++ M) xs k = if (replayP L xs k).2.2 = 0 then replayP M (replayP L xs k).1 (replayP L xs k).2.1 else replayP L xs k
  | [], M, xs, k => by simp [replayP]
  | o :: L, M, xs, k => by
    rw [List.cons_append]
    by_cases hf : fitsP xs.length o = 0
    · simp only [replayP, if_pos hf]
      exact replayP_app L M _ _
    · simp only [replayP, if_neg hf]

theorem replayP_more {L : List OpE} {xs : List El} {k : Nat} {o : OpE} (h : replayP L [] 0 = (xs, k, 0)) (hf : fitsP xs.length o = 0) : replayP (L ++ [o]) [] 0 = (applyP xs o, k + 1, 0) := by
  rw [replayP_app, h]
  simp only [if_true, replayP, if_pos hf]

theorem replayP_on {L M : List OpE} {xs : List El} {k : Nat} (h : replayP L [] 0 = (xs, k, 0)) : replayP (L ++ M) [] 0 = replayP M xs k := by
  rw [replayP_app, h]
  simp

theorem replayP_good2 {os : List OpE} {xs : List El} {i k : Nat} (hi : i < os.length) (hf : fitsP xs.length os[i] = 0) : replayP (os.drop i) xs k = replayP (os.drop (i + 1)) (applyP xs os[i]) (k + 1) := by
  rw [List.drop_eq_getElem_cons hi]
  simp only [replayP, if_pos hf]
theorem replayP_bad2 {os : List OpE} {xs : List El} {i k : Nat} (hi : i < os.length) (hf : ¬ fitsP xs.length os[i] = 0) : replayP (os.drop i) xs k = (xs, k, fitsP xs.length os[i]) := by
  rw [List.drop_eq_getElem_cons hi]
  simp only [replayP, if_neg hf]
theorem replayP_end2 {os : List OpE} {xs : List El} {i k : Nat} (hi : i = os.length) : replayP (os.drop i) xs k = (xs, k, 0) := by
  rw [hi, List.drop_length]
  rfl

end Go.Proofs.Ytbgpmekjcepmaab
