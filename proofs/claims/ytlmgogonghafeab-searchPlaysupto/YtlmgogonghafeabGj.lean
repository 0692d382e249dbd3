/-
  Replace, all ways together; what lists of pieces become.
-/
import Derived.Test.YtlmgogonghafeabMK
import Derived.Test.YtlmgogonghafeabGd
namespace Go.Proofs.Ytlmgogonghafeab
open Go.RowKit Go.Lib
set_option linter.unusedVariables false

theorem qreplace_any (g cap k vb : Nat) (ps : List Pc) (a b : Pc) (w : World) (hR : RowF pcv 1 w g ps.length cap 35 ps) (hk : k < ps.length) (hn : ps.length ≤ 4200) (hv : w.heap[vb]? = some (.cells [a.val, b.val].toArray 35 (0, 0))) (hvb : vb ≠ g) :
    Calls Try.prog 48 #[.slice (some ⟨g, 0, none⟩) ps.length cap, .int .i64 k, .int .i64 ((k : Int) + 1), .slice (some ⟨vb, 0, none⟩) 2 2] w fun e w' =>
      ∃ g' v', e = .returned v' ∧ SF pcv 1 w' 35 (some g') v' (ps.take k ++ a :: b :: ps.drop (k + 1)) ∧ (g' = g ∨ w.heap.size ≤ g') ∧ Fr (· = g) w w' := by
  obtain ⟨S, h1, h2, h3, h4⟩ := row_seg hR
  obtain ⟨y, ds, hd'⟩ : ∃ y ds, ps.drop k = y :: ds := by
    cases h : ps.drop k with
    | nil => have := congrArg List.length h; simp at this; omega
    | cons y ds => exact ⟨y, ds, rfl⟩
  have hdr : ps.drop (k + 1) = ds := by
    have := congrArg (List.drop 1) hd'
    simpa using this
  have hbs : ps.map Pc.val = (ps.take k).map Pc.val ++ y.val :: ds.map Pc.val := by
    have := congrArg (List.map Pc.val) (List.take_append_drop k ps)
    rw [hd'] at this
    simpa using this.symm
  have hl : k + 1 + ds.length = ps.length := by
    have := congrArg List.length hd'
    simp at this
    omega
  rw [hdr]
  rw [hbs] at h1
  have hA : ((ps.take k).map Pc.val).length = k := by simp; omega
  have hx1 : Hid (a.val.oneCell' = true ∧ b.val.oneCell' = true) := ⟨rfl, rfl⟩
  have e2 : ∀ D : List Pc, (ps.take k).map Pc.val ++ a.val :: b.val :: D.map Pc.val = (ps.take k ++ a :: b :: D).map Pc.val := by simp
  have hl2 : (ps.take k ++ a :: b :: ds).length = k + 2 + ds.length := by simp; omega
  cases ds with
  | nil =>
    rw [← hl] at h3 ⊢
    have e3 := e2 []
    simp only [List.map_nil] at e3 h1
    cases S with
    | cons s0 S =>
      refine (qreplace_end g vb 0 k cap y.val a.val b.val s0 [] _ S [] (0, 0) w hx1 rfl hA (by simp at h3; omega) (by omega) h4 hvb h1 hv).mono ?_
      rintro e w' ⟨rfl, hs, hF⟩
      rw [e3] at hs
      refine ⟨g, _, rfl, ⟨cap, by rw [hl2]; rfl, ?_⟩, .inl rfl, hF⟩
      rw [hl2]
      exact seg_row hs hl2 (by simp at h3 ⊢; omega) h4
    | nil =>
      obtain rfl : cap = k + 1 := by simp at h3; omega
      refine (qreplace_endg g vb 0 k y.val a.val b.val [] _ [] (0, 0) w hx1 rfl hA (by omega) h1 hv).mono ?_
      rintro e w' ⟨G, Z, rfl, hs, hG, hG63, hF⟩
      rw [e3] at hs
      refine ⟨w.heap.size, _, rfl, ⟨G, by rw [hl2]; rfl, ?_⟩, .inr (Nat.le_refl _), hF.mono (fun _ _ h => h.elim)⟩
      rw [hl2]
      exact seg_row hs hl2 (by simp; omega) hG63
  | cons d ds =>
    rw [← hl] at h3 ⊢
    have e3 := e2 (d :: ds)
    simp only [List.map_cons] at e3 h1
    have hall : Hid (∀ v ∈ d.val :: ds.map Pc.val, v.oneCell' = true) := by
      have := one_pc (d :: ds)
      simpa [Hid] using this
    have hm : Hid ((ds.map Pc.val).length + 1 = (d :: ds).length) := by simp [Hid]
    cases S with
    | cons s0 S =>
      refine (qreplace_in g vb 0 k (d :: ds).length cap y.val d.val a.val b.val s0 [] _ _ S [] w hx1 hall rfl hA hm (by simp) (by simp at h3 ⊢; omega) (by omega) h4 hvb h1 hv).mono ?_
      rintro e w' ⟨rfl, hs, hF⟩
      rw [e3] at hs
      refine ⟨g, _, rfl, ⟨cap, by rw [hl2], ?_⟩, .inl rfl, hF⟩
      rw [hl2]
      exact seg_row hs hl2 (by simp at h3 ⊢; omega) h4
    | nil =>
      obtain rfl : cap = k + 1 + (d :: ds).length := by simp at h3 ⊢; omega
      refine (qreplace_grow g vb 0 k (d :: ds).length y.val d.val a.val b.val [] _ _ [] w hx1 hall rfl hA hm (by simp) (by omega) h1 hv).mono ?_
      rintro e w' ⟨G, Z, rfl, hs, hG, hG63, hF⟩
      rw [e3] at hs
      refine ⟨w.heap.size, _, rfl, ⟨G, by rw [hl2], ?_⟩, .inr (Nat.le_refl _), hF.mono (fun _ _ h => h.elim)⟩
      rw [hl2]
      exact seg_row hs hl2 (by simp at hG ⊢; omega) hG63

theorem pair_swap {A B X : List Pc} {q : Pc} (h : (A ++ q :: B).Pairwise Aprt) (hX : X.Pairwise Aprt) (hk : ∀ r, r ∈ A ∨ r ∈ B → ∀ x ∈ X, Aprt x r) : (A ++ (X ++ B)).Pairwise Aprt := by
  rw [List.pairwise_append] at h ⊢
  obtain ⟨h1, h2, h3⟩ := h
  rw [List.pairwise_cons] at h2
  refine ⟨h1, ?_, ?_⟩
  · rw [List.pairwise_append]
    exact ⟨hX, h2.2, fun x hx r hr => hk r (.inr hr) x hx⟩
  · intro r hr x hx
    rcases List.mem_append.1 hx with hx | hx
    · exact (hk r (.inl hr) x hx).symm
    · exact h3 r hr x (List.mem_cons_of_mem _ hx)
theorem pair_of {A B : List Pc} {q : Pc} (h : (A ++ q :: B).Pairwise Aprt) : ∀ r, r ∈ A ∨ r ∈ B → Aprt q r := by
  rw [List.pairwise_append] at h
  obtain ⟨h1, h2, h3⟩ := h
  rw [List.pairwise_cons] at h2
  intro r hr
  rcases hr with hr | hr
  · exact (h3 r hr q (by simp)).symm
  · exact h2.1 r hr
theorem NowQ.aprt {w w' : World} {q q' r : Pc} (h : NowQ w w' q q') (hr : PcO w r) (ha : Aprt q r) : Aprt q' r := by
  rcases h.how with ⟨e1, e2, e3, -, -⟩ | ⟨hn, -⟩
  · unfold Aprt at *
    rw [e1, e2, e3]
    exact ha
  · have := hr.lt
    exact .inl (by omega)
theorem NowQ.others {w w' : World} {q q' r : Pc} (h : NowQ w w' q q') (hr : PcO w r) (ha : Aprt q r) : PcO w' r :=
  h.keep hr (by
    rcases ha with ha | ha | ha
    · exact .inl (Ne.symm ha)
    · exact .inr (.inr ha)
    · exact .inr (.inl ha))
/-- The two halves of a piece. -/
theorem PcO.halves {w : World} {q : Pc} (h : PcO w q) (n : Nat) (hn : n ≤ q.bs.length) : PcO w ⟨q.b, q.off, n, q.bs.take n⟩ ∧ PcO w ⟨q.b, q.off + n, q.bs.length - n, q.bs.drop n⟩ := by
  obtain ⟨fz, L, S, R, ⟨h1, h5⟩, h2, h3, h4⟩ := h
  have em : q.bs.map ub = (q.bs.take n).map ub ++ (q.bs.drop n).map ub := by rw [← List.map_append, List.take_append_drop]
  refine ⟨⟨fz, L, [], (q.bs.drop n).map ub ++ (S ++ R), ⟨?_, ?_⟩, h2, by simp; omega, by simp; omega⟩, ⟨fz, L ++ (q.bs.take n).map ub, [], S ++ R, ⟨?_, ?_⟩, by simp; omega, by simp, by simp; omega⟩⟩
  · rw [h1, em]
    simp only [List.append_assoc, List.nil_append]
  · simp only [List.length_append, List.length_map, List.length_take, List.length_drop, List.length_nil] at h5 ⊢
    rw [show L.length + (min n q.bs.length + (0 + (q.bs.length - n + (S.length + R.length)))) = L.length + (q.bs.length + (S.length + R.length)) by omega]
    exact h5
  · show w.heap[q.b]? = _
    rw [h1, em]
    simp only [List.append_assoc, List.nil_append]
  · simp only [List.length_append, List.length_map, List.length_take, List.length_drop, List.length_nil] at h5 ⊢
    rw [show L.length + min n q.bs.length + (q.bs.length - n + (0 + (S.length + R.length))) = L.length + (q.bs.length + (S.length + R.length)) by omega]
    exact h5
theorem Aprt.halves {q r : Pc} (h : Aprt q r) (n : Nat) (hn : n ≤ q.bs.length) (hc : q.bs.length ≤ q.cap) : Aprt ⟨q.b, q.off, n, q.bs.take n⟩ r ∧ Aprt ⟨q.b, q.off + n, q.bs.length - n, q.bs.drop n⟩ r := by
  unfold Aprt at *
  simp only
  constructor <;> omega

/-- A row of pieces, one of them another. -/
theorem RowF.put {w : World} {g N cap : Nat} {A B : List Pc} {q q' : Pc} (h : RowF pcv 1 w g N cap 35 (A ++ q :: B)) : RowF pcv 1 (w.setCell ⟨g, A.length, none⟩ q'.val) g N cap 35 (A ++ q' :: B) := by
  obtain ⟨S, h1, h2, h3, h4⟩ := row_seg h
  refine seg_row (S := S) ⟨?_, .inl rfl⟩ (by simp at h2 ⊢; exact h2) h3 h4
  rw [set_row h1.1]
  congr 2
  simp only [List.setIfInBounds_toArray, List.nil_append, List.append_nil]
  congr 1
  rw [List.map_append, List.map_cons, List.map_append, List.map_cons, List.append_assoc, List.append_assoc, List.set_append_right _ _ (by simp)]
  simp
end Go.Proofs.Ytlmgogonghafeab
