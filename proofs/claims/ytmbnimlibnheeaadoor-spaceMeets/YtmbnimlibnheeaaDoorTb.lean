/-
  A side in memory: parcels put in; the parts of a side.
-/
import Derived.Test.YtmbnimlibnheeaaDoorTa
namespace Go.Proofs.YtmbnimlibnheeaaDoor
open Go.RowKit Go.Lib
set_option linter.unusedVariables false
variable {T : Nat → Prop}

theorem splice_set (L : List Value) (o : Nat) (v : Value) (r : List Value) (h : o < L.length) : splice (L.set o v) (o + 1) r = splice L o (v :: r) := by
  unfold splice
  have h1 : (L.set o v).take (o + 1) = L.take o ++ [v] := by
    rw [List.take_succ_eq_append_getElem (by simpa using h), List.take_set, List.set_eq_of_length_le (by simp; omega)]
    simp
  have h2 : (L.set o v).drop (o + 1 + r.length) = L.drop (o + (v :: r).length) := by
    rw [List.drop_set, if_pos (by omega), List.length_cons, show o + 1 + r.length = o + (r.length + 1) by omega]
  rw [h1, h2]
  simp
theorem heap_cells {b : Nat} {t : TypeId} : ∀ (vs : List Value) (o : Nat) (w : World) (cur : List Value), w.heap[b]? = some (.cells cur.toArray t (0, 0)) → o + vs.length ≤ cur.length → (w.setCells b o vs).heap[b]? = some (.cells (splice cur o vs).toArray t (0, 0)) ∧ Fr (· = b) w (w.setCells b o vs) := by
  intro vs
  induction vs with
  | nil =>
    intro o w cur h hl
    refine ⟨?_, Fr.refl _ _⟩
    simp only [World.setCells, splice]
    simpa using h
  | cons v r ih =>
    intro o w cur h hl
    simp only [List.length_cons] at hl
    have h1 := set_row h o v
    rw [List.setIfInBounds_toArray] at h1
    obtain ⟨h2, h3⟩ := ih (o + 1) _ _ h1 (by simp; omega)
    rw [splice_set _ _ _ _ (by omega)] at h2
    exact ⟨h2, (Fr.setCell (S := (· = b)) w ⟨b, o, none⟩ v rfl).trans h3⟩

set_option maxHeartbeats 1000000 in
theorem way_room {w : World} {g k n c : Nat} {W : List Pc} {cur : List Value} (ht : T g) (hg : w.heap[g]? = some (.cells cur.toArray 88 (0, 0))) (hlen : cur.length = (k + c) * 7) (hcur : (cur.drop (k * 7)).take (n * 7) = cl pcl W) (h1 : W.length = n) (h3 : c ≤ 9223372036854775807) (hroom : n + 1 ≤ c) {b : Nat} {p : Pc} (hb : w.heap[b]? = some (.cells (pcl p).toArray 88 (0, 0))) :
    ∃ w', (∀ ty, (Builtin.append_ #[56, 56] ty #[.slice (some ⟨g, k * 7, none⟩) n c, .slice (some ⟨b, 0, none⟩) 1 1]).run Tryd.prog w = .ok (.slice (some ⟨g, k * 7, none⟩) (n + 1) c) w') ∧ Way (TU T w.heap.size) w' (some ⟨g, k * 7, none⟩) (n + 1) c (W ++ [p]) ∧ Fr (· = g) w w' := by
  obtain ⟨i0, hi0, hz0, hz1, hz2⟩ := info_parts Tryd.infoP
  have hl : (pcl p).length = 1 * i0.size := by rw [hz1]; rfl
  have hnews : ∀ j u, (pcl p)[j]? = some u → w.cell? ((⟨b, 0, none⟩ : Addr).add j) = some u := fun j u hj => by
    rw [add_lit, Nat.zero_add, cell_row hb, List.getElem?_toArray]
    exact hj
  have hone : ∀ u ∈ pcl p, u.oneCell' = true := (sz_pcl p).2
  have h7 := (sz_pcl p).1
  have hs := Src.ofSlice (P := Tryd.prog) (size := i0.size) (w := w) (tx := 56) Tryd.underlying56 ⟨b, 0, none⟩ 1 1 (pcl p) hl hnews hone
  have hfit : k * 7 + n * 7 + 7 ≤ cur.length := by omega
  have hr := fun ty => run_append_room_src (P := Tryd.prog) (w := w) 56 56 ty 88 i0 Tryd.underlying56 hi0 g (k * 7) n c _ 1 (pcl p) hs hroom (fun j hj => by
    rw [hz1, cell_row hg, List.getElem?_toArray, List.getElem?_eq_getElem (by omega)]
    rfl) (fun j hj => frozen_row hg _)
  obtain ⟨q1, q2⟩ := heap_cells (pcl p) (k * 7 + n * 7) w cur hg (by rw [h7]; exact hfit)
  rw [hz1] at hr
  refine ⟨_, hr, ⟨by simp [h1], hroom, h3, .inr ⟨g, k, _, rfl, .inl ht, q1, ?_, ?_⟩⟩, q2⟩
  · rw [length_splice _ _ _ (by rw [h7]; exact hfit), hlen]
  · have e1 := splice_take_end cur (k * 7 + n * 7) (pcl p) (by omega)
    rw [h7] at e1
    have e2 : ((splice cur (k * 7 + n * 7) (pcl p)).drop (k * 7)).take ((n + 1) * 7) = ((splice cur (k * 7 + n * 7) (pcl p)).take (k * 7 + n * 7 + 7)).drop (k * 7) := by
      rw [List.drop_take, show k * 7 + n * 7 + 7 - k * 7 = (n + 1) * 7 by omega]
    rw [e2, e1, List.drop_append_of_le_length (by simp; omega), List.drop_take, show k * 7 + n * 7 - k * 7 = n * 7 by omega, hcur, cl_app, cl_one]

theorem way_new {w : World} {n : Nat} {W : List Pc} {p : Pc} (h1 : W.length = n) (G : Nat) (hG1 : n + 1 ≤ G) (hG2 : G ≤ 9223372036854775807) (A : Array Value) (hA : A = (cl pcl W).toArray ++ (pcl p).toArray ++ Builtin.zeroCells #[.int .i64 0, .int .i64 0, .int .i64 0, .int .i64 0, .int .u8 0, .int .i64 0, .int .i64 0] (G - (n + 1))) :
    Way (TU T w.heap.size) (w.drew.alloc (.cells A 88)) (some ⟨w.heap.size, 0, none⟩) (n + 1) G (W ++ [p]) := by
  have hh : (w.drew.alloc (.cells A 88)).heap[w.heap.size]? = some (.cells A.toList.toArray 88 (0, 0)) := heap_alloc_new w.drew _
  have hc := cl_len sz_pcl W
  have h7 := (sz_pcl p).1
  have hz : (Builtin.zeroCells #[.int .i64 0, .int .i64 0, .int .i64 0, .int .i64 0, .int .u8 0, .int .i64 0, .int .i64 0] (G - (n + 1))).size = (G - (n + 1)) * 7 := by rw [size_zeroCells]; rfl
  have hl : A.toList = (cl pcl W ++ pcl p) ++ (Builtin.zeroCells #[.int .i64 0, .int .i64 0, .int .i64 0, .int .i64 0, .int .u8 0, .int .i64 0, .int .i64 0] (G - (n + 1))).toList := by
    rw [hA, Array.toList_append, Array.toList_append, List.toList_toArray, List.toList_toArray]
  have hlA : A.toList.length = G * 7 := by
    rw [hl, List.length_append, List.length_append, hc, h7, Array.length_toList (xs := Builtin.zeroCells _ _), hz, h1]
    omega
  have htA : A.toList.take ((n + 1) * 7) = cl pcl (W ++ [p]) := by
    have e : (cl pcl W ++ pcl p).length = (n + 1) * 7 := by rw [List.length_append, hc, h7, h1]; omega
    rw [hl, ← e, List.take_left, cl_app, cl_one]
  refine ⟨by simp [h1], hG1, hG2, .inr ⟨w.heap.size, 0, A.toList, by simp, .inr (Nat.le_refl _), hh, ?_, ?_⟩⟩
  · rw [hlA, Nat.zero_add]
  · rw [Nat.zero_mul, List.drop_zero, htA]

set_option maxHeartbeats 1000000 in
/-- A parcel is put behind the others. -/
theorem Way.push {w : World} {a : Option Addr} {n c : Nat} {W : List Pc} (h : Way T w a n c W) (hnil : a = none → c = 0) (hn : n ≤ 10000) {b : Nat} {p : Pc} (hb : w.heap[b]? = some (.cells (pcl p).toArray 88 (0, 0))) :
    ∃ a' c' w', (∀ ty, (Builtin.append_ #[56, 56] ty #[.slice a n c, .slice (some ⟨b, 0, none⟩) 1 1]).run Tryd.prog w = .ok (.slice a' (n + 1) c') w') ∧ a' ≠ none ∧ Way (TU T w.heap.size) w' a' (n + 1) c' (W ++ [p]) ∧ Fr (fun j => T j ∧ Tg w j 88) w w' := by
  obtain ⟨i0, hi0, hz0, hz1, hz2⟩ := info_parts Tryd.infoP
  obtain ⟨h1, h2, h3, h4⟩ := h
  have hl : (pcl p).length = 1 * i0.size := by rw [hz1]; rfl
  have hnews : ∀ j u, (pcl p)[j]? = some u → w.cell? ((⟨b, 0, none⟩ : Addr).add j) = some u := fun j u hj => by
    rw [add_lit, Nat.zero_add, cell_row hb, List.getElem?_toArray]
    exact hj
  by_cases hroom : n + 1 ≤ c
  · rcases h4 with h4 | ⟨g, k, cur, rfl, ht, hg, hlen, hcur⟩
    · omega
    · obtain ⟨w', hr, hW, hF⟩ := way_room ht hg hlen hcur h1 h3 hroom hb
      exact ⟨_, c, w', hr, by simp, hW, hF.mono (fun j _ hj => by subst hj; exact ⟨ht, ⟨_, hg⟩⟩)⟩
  · have hcn : n = c := by omega
    subst hcn
    have newfr : ∀ o, Fr (fun j => T j ∧ Tg w j 88) w (w.drew.alloc o) := fun o => (Fr.drew _ w).trans (Fr.alloc _ _ _)
    cases a with
    | none =>
      have hc0 := hnil rfl
      subst hc0
      have hW : W = [] := List.eq_nil_of_length_eq_zero h1
      subst hW
      have hr := fun ty => run_append_nil (P := Tryd.prog) w 56 ty 88 i0 _ Tryd.underlying56 hi0 hz0 ⟨b, 0, none⟩ 1 1 (pcl p) hl hnews (by omega) (by omega) (by rw [hz2]; omega)
      have hG1 := grownCap_ge w 1 0 88
      have hG2 := grownCap_le_maxLen w 1 0 88 (by unfold maxLen; omega)
      generalize grownCap w 1 0 88 = G at hr hG1 hG2
      exact ⟨_, G, _, hr, by simp, way_new (n := 0) (W := []) rfl G hG1 hG2 _ (by simp [cl_nil, Value.cells]), newfr _⟩
    | some x =>
      have olds : ∀ j v, (cl pcl W)[j]? = some v → w.cell? (x.add j) = some v := by
        intro j v hj
        rcases h4 with h4 | ⟨g, k, cur, e, ht, hg, hlen, hcur⟩
        · have : W = [] := List.eq_nil_of_length_eq_zero (by omega)
          subst this
          simp [cl_nil] at hj
        · obtain rfl := Option.some.inj e
          rw [add_lit, cell_row hg, List.getElem?_toArray]
          rw [← hcur, List.getElem?_take] at hj
          split at hj
          · rw [List.getElem?_drop] at hj
            exact hj
          · cases hj
      have hr := fun ty => run_append_grow (P := Tryd.prog) w 56 ty 88 i0 _ Tryd.underlying56 hi0 hz0 x n n (cl pcl W) (by rw [hz1, cl_len sz_pcl, h1]) olds ⟨b, 0, none⟩ 1 1 (pcl p) hl hnews (by omega) (by omega) (growslice_fits (by omega) (by rw [hz2]; omega))
      have hG1 := grownCap_ge w (n + 1) n 88
      have hG2 := grownCap_le_maxLen w (n + 1) n 88 (by unfold maxLen; omega)
      generalize grownCap w (n + 1) n 88 = G at hr hG1 hG2
      exact ⟨_, G, _, hr, by simp, way_new h1 G hG1 hG2 _ (by simp [Value.cells]), newfr _⟩

end Go.Proofs.YtmbnimlibnheeaaDoor
