/-
  slices.Insert of one byte: where it grows; at the end; and all ways together.
-/
import Derived.Test.YtlmgogonghafeabGb
import Derived.Test.YtlmgogonghafeabGf
namespace Go.Proofs.Ytlmgogonghafeab
open Go.RowKit Go.Lib
set_option linter.unusedVariables false

set_option maxRecDepth 100000 in
/-- append of the zero values of a make, where there is no room. -/
theorem run_zerosB (w : World) (g o n i : Nat) (fz : Nat × Nat) (L A D R : List Value) (hi : i < n) (hn : n ≤ 4096) (hL : L.length = o) (hA : A.length = i) (hD : A.length + D.length = n) (hg : Seg w g 5 fz L (A ++ D) [] R) :
    ∃ G w' z Z, n + 1 ≤ G ∧ G ≤ 9223372036854775807 ∧ (∀ ty, (Builtin.append_ #[35, 3] ty #[.slice (some ⟨g, o, none⟩) i n, .int .i64 ((n : Int) + 1 - (i : Int))]).run Try.prog w = .ok (.slice (some ⟨w.heap.size, 0, none⟩) (n + 1) G) w') ∧
      w'.heap[w.heap.size]? = some (.cells (A ++ z :: Z : List Value).toArray 5 (0, 0)) ∧ i + (Z.length + 1) = G ∧ Fr (fun _ => False) w w' := by
  obtain ⟨i0, hi0, hz0, hz1, hz2⟩ := info_parts Try.infoU
  have hold : (Builtin.firstCells i0.size i (.slice (some ⟨g, o, none⟩) i n)).run Try.prog w.drew = .ok A.toArray w.drew := by
    refine run_firstCells_some w.drew i0.size i ⟨g, o, none⟩ i n A (by rw [hz1, hA]; omega) (fun j v hj => ?_)
    have hgd : Seg w.drew g 5 fz L (A ++ D) [] R := hg
    have := hgd.cells 0 (Nat.zero_le _) j v (by rw [List.drop_zero, List.getElem?_append_left (List.getElem?_eq_some_iff.1 hj).1]; exact hj)
    rw [Nat.add_zero, hL] at this
    exact this
  have h := fun ty => Lib.run_append_grow_zeros w 35 3 ty 5 i0 _ .i64 .i64 Try.underlying35 Try.underlying3 hi0 hz0 (some ⟨g, o, none⟩) i n A hold (n + 1 - i) (by omega) (by omega) (by omega) (by omega) (by rw [hz2]; omega) (growslice_fits (by omega) (by rw [hz2]; omega))
  have hk : (n : Int) + 1 - (i : Int) = ((n + 1 - i : Nat) : Int) := by omega
  have hik : i + (n + 1 - i) = n + 1 := by omega
  simp only [hik] at h
  have hG1 := grownCap_ge w (n + 1) n 5
  have hG2 := grownCap_le_maxLen w (n + 1) n 5 (by unfold maxLen; omega)
  generalize grownCap w (n + 1) n 5 = G at h hG1 hG2
  obtain ⟨Z0, hZ0⟩ : ∃ Z0, Z0 = (Builtin.zeroCells #[.int .u8 0] (n + 1 - i) ++ Builtin.zeroCells #[.int .u8 0] (G - (n + 1))).toList := ⟨_, rfl⟩
  have hZl : Z0.length = G - i := by
    rw [hZ0, Array.length_toList, Array.size_append, size_zeroCells, size_zeroCells]
    simp
    omega
  obtain ⟨z, Z, hZ⟩ : ∃ z Z, Z0 = z :: Z := by
    cases Z0 with
    | nil => simp at hZl; omega
    | cons z Z => exact ⟨z, Z, rfl⟩
  refine ⟨G, _, z, Z, hG1, hG2, fun ty => by rw [hk]; exact h ty, ?_, by rw [hZ] at hZl; simp at hZl; omega, (Fr.drew _ w).trans (Fr.alloc _ _ _)⟩
  rw [show w.heap.size = w.drew.heap.size from rfl, heap_alloc_new]
  rw [← hZ, hZ0]
  congr 3
  apply Array.toList_inj.1
  simp [Value.cells]

set_option maxHeartbeats 4000000 in
set_option maxRecDepth 100000 in
theorem binsert_grow (g vb o i n : Nat) (x d : Value) (L A ds R : List Value) (fz : Nat × Nat) (w : World) (hx1 : Hid (x.oneCell' = true)) (hall : Hid (∀ v ∈ d :: ds, v.oneCell' = true))
    (hL : Hid (L.length = o)) (hA : Hid (A.length = i)) (hn : Hid (i + (ds.length + 1) = n)) (hin : i < n) (hn9 : n ≤ 4096)
    (hg : Hid (Seg w g 5 fz L (A ++ d :: ds) [] R)) (hv : Hid (w.heap[vb]? = some (.cells [x].toArray 5 (0, 0)))) :
    Calls Try.prog 47 #[.slice (some ⟨g, o, none⟩) n n, .int .i64 i, .slice (some ⟨vb, 0, none⟩) 1 1] w fun e w' =>
      ∃ G Z, e = .returned (.slice (some ⟨w.heap.size, 0, none⟩) (n + 1) G) ∧ Seg w' w.heap.size 5 (0, 0) [] (A ++ x :: d :: ds) Z [] ∧ n + 1 + Z.length = G ∧ G ≤ 9223372036854775807 ∧ Fr (fun _ => False) w w' := by
  obtain ⟨G, W1, z, Z, hG1, hG63, hrz, hR1, hZl, hF1⟩ := run_zerosB w g o n i fz L A (d :: ds) R hin hn9 hL.out hA.out (by rw [hA.out]; exact hn.out) hg.out
  have hv1 : W1.heap[vb]? = some (.cells [x].toArray 5 (0, 0)) := hF1.keeps hv.out (fun h => h)
  have hcpA : ∀ n1 ty dc, n1 = n + 1 - i → (Builtin.copy_ #[35, 35] ty #[.slice (some ⟨w.heap.size, i, none⟩) n1 dc, .slice (some ⟨vb, 0, none⟩) 1 1]).run Try.prog W1 = .ok (goInt (1 : Nat)) (W1.setRow w.heap.size (A ++ ([x] ++ Z)).toArray) := fun n1 ty dc e1 => by
    subst e1
    have := run_copyM (P := Try.prog) W1 35 35 ty 5 w.heap.size i (n + 1 - i) dc ⟨vb, 0, none⟩ 1 1 1 _ 5 (0, 0) [x] Try.underlying35 sizeU' hR1 (.inl rfl) (by simp only [Nat.min_def]; split <;> omega) rfl
      (fun j v hj => by rw [add_lit, Nat.zero_add, cell_row hv1, List.getElem?_toArray]; exact hj) (by have := hA.out; simp; omega) (by intro v hv; simp at hv; subst hv; exact hx1.out)
    rw [this, show A ++ z :: Z = A ++ ([z] ++ Z) by simp, ← hA.out, splice_mid _ _ _ _ (by simp)]
  obtain ⟨W2, hW2⟩ : ∃ W2, W2 = W1.setRow w.heap.size (A ++ ([x] ++ Z)).toArray := ⟨_, rfl⟩
  rw [← hW2] at hcpA
  have hR2 : W2.heap[w.heap.size]? = some (.cells (A ++ ([x] ++ Z)).toArray 5 (0, 0)) := by rw [hW2]; exact setRow_heap W1 _ _ _ 5 _ hR1
  have hF2 : Fr (fun _ => False) w W2 := by rw [hW2]; exact hF1.next (Fr.setRow (S := fun k => k = w.heap.size) _ _ _ rfl) (fun k hk e => by omega)
  have hg2 : Seg W2.drew g 5 fz L (A ++ d :: ds) [] R := hg.out.fr (Q := fun _ => False) (hF2.trans (Fr.drew _ _)) (fun h => h)
  have hR2d : W2.drew.heap[w.heap.size]? = some (.cells (A ++ ([x] ++ Z)).toArray 5 (0, 0)) := hR2
  obtain ⟨Z2, hZ2⟩ : ∃ Z2, Z2 = Z.drop (n - i) := ⟨_, rfl⟩
  have hcpB : ∀ q r n1 n2 ty dc sc, q = i + 1 → r = o + i → n1 = n - i → n2 = n - i → (Builtin.copy_ #[35, 35] ty #[.slice (some ⟨w.heap.size, q, none⟩) n1 dc, .slice (some ⟨g, r, none⟩) n2 sc]).run Try.prog W2.drew = .ok (goInt (n - i : Nat)) (W2.drew.setRow w.heap.size ((A ++ x :: d :: ds) ++ Z2).toArray) := fun q r n1 n2 ty dc sc e1 e2 e3 e4 => by
    subst e1 e2 e3 e4
    have := run_copyM (P := Try.prog) W2.drew 35 35 ty 5 w.heap.size (i + 1) (n - i) dc ⟨g, o + i, none⟩ (n - i) sc (n - i) _ 5 (0, 0) (d :: ds) Try.underlying35 sizeU' hR2d (.inl rfl) (Nat.min_self _).symm (by have := hn.out; simp; omega)
      (by
        have h := hg2.cells i (by rw [← hA.out]; simp)
        rw [hL.out, ← hA.out, List.drop_left] at h
        rw [← hA.out]
        exact h) (by have := hA.out; have := hn.out; simp; omega) hall.out
    have e : A ++ ([x] ++ Z) = (A ++ [x]) ++ (Z.take (n - i) ++ Z2) := by rw [hZ2, List.take_append_drop]; simp
    rw [this, e, show i + 1 = (A ++ [x]).length by simp [hA.out], splice_mid _ _ _ _ (by have := hn.out; simp; omega)]
    simp
  obtain ⟨W3, hW3⟩ : ∃ W3, W3 = W2.drew.setRow w.heap.size ((A ++ x :: d :: ds) ++ Z2).toArray := ⟨_, rfl⟩
  rw [← hW3] at hcpB
  have R : Hid (Seg W3 w.heap.size 5 (0, 0) [] (A ++ x :: d :: ds) Z2 [] ∧ n + 1 + Z2.length = G ∧ Fr (fun _ => False) w W3) := by
    refine ⟨⟨?_, .inl rfl⟩, ?_, ?_⟩
    · rw [hW3, List.nil_append, List.append_nil]
      exact setRow_heap W2.drew _ _ _ 5 _ hR2d
    · rw [hZ2, List.length_drop]
      omega
    · rw [hW3]
      exact (hF2.trans (Fr.drew _ _)).next (Fr.setRow (S := fun k => k = w.heap.size) _ _ _ rfl) (fun k hk e => by omega)
  clear hR1 hZl hF1 hv1 hW2 hR2 hF2 hg2 hR2d hW3 hZ2
  have hz2 : ¬ ((i : Int) = (n : Int)) := by omega
  have hz3 : (n : Int) < (n : Int) + 1 := by omega
  have hw1 : IntKind.i64.wrap ((i : Int) + 1) = (i : Int) + 1 := by rw [IntKind.wrap_i64]; omega
  have hb1 : (0 : Int) ≤ (i : Int) + 1 := by omega
  have hin' : i ≤ n := by omega
  have htn : ((i : Int) + 1).toNat = i + 1 := by omega
  have hb3 : (i : Int) ≤ (n : Int) := by omega
  have hGi : ¬ (G = i) := by omega
  have hGim : ¬ (G = i + 1) := by omega
  have hci : ¬ (n = i) := by omega
  go_enter Try.func47, Try.ntmps47
  go_wp2_with (first
    | (at_builtin; refine wpList_append_k _ rfl _ _ 35 3 rfl _ _ rfl rfl (hrz _) ?_)
    | (at_builtin; refine wpList_copy_k _ rfl _ _ 35 35 rfl _ _ rfl rfl (hcpA _ _ _ (by omega)) ?_))
  go_region_law (refine step_copy_k rfl _ _ 35 35 rfl _ _ (by simp [Act.eval, Act.put]) (by simp [Act.eval, Act.put]) (hcpB _ _ _ _ _ _ _ (by omega) (by omega) (by omega) (by omega)) ?_)
  go_wp2
  go_ret
  exact ⟨G, Z2, rfl, R.out.1, R.out.2.1, hG63, R.out.2.2⟩

set_option maxRecDepth 100000 in
/-- append of one byte onto a part of a row. -/
theorem run_pushB (w : World) (q : Pc) (x : UInt8) (vb : Nat) (hq : PcO w q) (hb : w.heap[vb]? = some (.cells [ub x].toArray 5 (0, 0))) (hn : q.bs.length ≤ 4096) :
    ∃ q' w', (∀ ty, (Builtin.append_ #[35, 35] ty #[q.val, .slice (some ⟨vb, 0, none⟩) 1 1]).run Try.prog w = .ok q'.val w') ∧ q'.bs = q.bs ++ [x] ∧ NowQ w w' q q' := by
  obtain ⟨i0, hi0, hz0, hz1, hz2⟩ := info_parts Try.infoU
  have hq0 := hq
  obtain ⟨fz, L, S, R, h1, h2, h3, h4⟩ := hq
  have hnews : ∀ j u, [ub x][j]? = some u → w.cell? ((⟨vb, 0, none⟩ : Addr).add j) = some u := fun j u hj => by
    rw [add_lit, Nat.zero_add, cell_row hb, List.getElem?_toArray]
    exact hj
  have hone : ∀ u ∈ [ub x], u.oneCell' = true := by intro u hu; simp at hu; subst hu; rfl
  cases S with
  | cons s0 S =>
    have hr := fun ty => run_appendM (P := Try.prog) w 35 ty 5 i0 Try.underlying35 hi0 hz1 q.b q.off q.bs.length q.cap _ fz h1.1 (by have := h1.2; simp only [List.length_append, List.length_map] at this ⊢; exact this) ⟨vb, 0, none⟩ 1 1 [ub x] rfl hnews hone (by simp at h3; omega) (by simp; omega)
    have e : splice (L ++ (q.bs.map ub ++ (s0 :: S ++ R))) (q.off + q.bs.length) [ub x] = L ++ ((q.bs ++ [x]).map ub ++ (S ++ R)) := by
      rw [show L ++ (q.bs.map ub ++ (s0 :: S ++ R)) = (L ++ q.bs.map ub) ++ ([s0] ++ (S ++ R)) by simp, show q.off + q.bs.length = (L ++ q.bs.map ub).length by simp [h2], splice_mid _ _ _ _ (by simp)]
      simp
    rw [e] at hr
    have hs : Seg (w.setRow q.b (L ++ ((q.bs ++ [x]).map ub ++ (S ++ R))).toArray) q.b 5 fz L ((q.bs ++ [x]).map ub) S R := by
      refine ⟨setRow_heap w _ _ _ 5 _ h1.1, ?_⟩
      have := h1.2
      rw [show L.length + (((q.bs ++ [x]).map ub).length + (S.length + R.length)) = L.length + ((q.bs.map ub).length + ((s0 :: S).length + R.length)) by simp; omega]
      exact this
    refine ⟨⟨q.b, q.off, q.cap, q.bs ++ [x]⟩, _, fun ty => ?_, rfl, ⟨fz, L, S, R, hs, h2, by simp at h3 ⊢; omega, h4⟩, .inl ⟨rfl, rfl, rfl, ?_, Fr.setRow _ _ _ rfl⟩⟩
    · have := hr ty
      simpa [Pc.val] using this
    · have := ChR.of h1 hs (by simp; omega)
      rw [h2] at this
      rw [← h3]
      simpa using this
  | nil =>
    have hcap : q.cap = q.bs.length := by simpa using h3.symm
    have hr := fun ty => run_append_grow (P := Try.prog) w 35 ty 5 i0 _ Try.underlying35 hi0 hz0 ⟨q.b, q.off, none⟩ q.bs.length q.cap (q.bs.map ub) (by rw [hz1]; simp) (by
        have := h1.cells 0 (Nat.zero_le _)
        rw [List.drop_zero, Nat.add_zero, h2] at this
        exact this) ⟨vb, 0, none⟩ 1 1 [ub x] (by rw [hz1]; rfl) hnews (by omega) (by omega) (growslice_fits (by omega) (by rw [hz2]; omega))
    have hG1 := grownCap_ge w (q.bs.length + 1) q.cap 5
    have hG2 := grownCap_le_maxLen w (q.bs.length + 1) q.cap 5 (by unfold maxLen; omega)
    generalize grownCap w (q.bs.length + 1) q.cap 5 = G at hr hG1 hG2
    obtain ⟨W, hW⟩ : ∃ W, W = w.drew.alloc (.cells ((List.map ub q.bs).toArray ++ #[ub x] ++ Builtin.zeroCells (Value.int IntKind.u8 0).cells (G - (List.length q.bs + 1))) 5) := ⟨_, rfl⟩
    rw [← hW] at hr
    have hFW : Fr (fun _ => False) w W := by rw [hW]; exact (Fr.drew _ w).trans (Fr.alloc _ _ _)
    have hZl : (Builtin.zeroCells #[.int .u8 0] (G - (q.bs.length + 1))).toList.length = G - (q.bs.length + 1) := by
      rw [Array.length_toList, size_zeroCells]
      simp
    refine ⟨⟨w.heap.size, 0, G, q.bs ++ [x]⟩, W, fun ty => ?_, rfl, ⟨(0, 0), [], (Builtin.zeroCells #[.int .u8 0] (G - (q.bs.length + 1))).toList, [], ⟨?_, .inl rfl⟩, rfl, ?_, hG2⟩, .inr ⟨Nat.le_refl _, hFW⟩⟩
    · have := hr ty
      simpa [Pc.val] using this
    · show W.heap[w.drew.heap.size]? = _
      rw [hW, heap_alloc_new]
      congr 2
      apply Array.toList_inj.1
      simp [Value.cells]
    · show (q.bs ++ [x]).length + _ = G
      rw [hZl, List.length_append]
      simp
      omega

set_option maxHeartbeats 4000000 in
set_option maxRecDepth 100000 in
theorem binsert_end (q : Pc) (x : UInt8) (vb : Nat) (w : World) (hq : Hid (PcO w q)) (hv : Hid (w.heap[vb]? = some (.cells [ub x].toArray 5 (0, 0)))) (hn : Hid (q.bs.length ≤ 4096)) :
    Calls Try.prog 47 #[q.val, .int .i64 q.bs.length, .slice (some ⟨vb, 0, none⟩) 1 1] w fun e w' => ∃ q', e = .returned q'.val ∧ q'.bs = q.bs ++ [x] ∧ NowQ w w' q q' := by
  obtain ⟨q', W1, hr, hN⟩ := run_pushB w q x vb hq.out hv.out hn.out
  have R := hd hN
  clear hN
  have hle := hq.out.le
  have hc := hq.out.cap
  have hn9 := hn.out
  obtain ⟨v', hv'⟩ : ∃ v', v' = q'.val := ⟨_, rfl⟩
  rw [← hv'] at hr
  have E := hd hv'
  clear hv'
  have Z : Hid (∃ q', v' = q'.val ∧ q'.bs = q.bs ++ [x] ∧ NowQ w W1 q q') := ⟨q', E.out, R.out⟩
  clear E R
  obtain ⟨n, hnn⟩ : ∃ n, q.bs.length = n := ⟨_, rfl⟩
  have ev : q.val = .slice (some ⟨q.b, q.off, none⟩) n q.cap := by rw [← hnn]; rfl
  rw [ev] at hr ⊢
  rw [hnn] at hle hn9 ⊢
  clear ev
  generalize q.cap = c at *
  generalize q.b = g at *
  generalize q.off = o at *
  by_cases hcn : c = n
  · subst hcn
    go_enter Try.func47, Try.ntmps47
    go_wp2_with (at_builtin; refine wpList_append_k _ rfl _ _ 35 35 rfl _ _ rfl rfl (hr _) ?_)
    go_ret
    obtain ⟨q1, e1, r1⟩ := Z.out
    subst e1
    exact ⟨q1, rfl, r1⟩
  · go_enter Try.func47, Try.ntmps47
    go_wp2_with (at_builtin; refine wpList_append_k _ rfl _ _ 35 35 rfl _ _ rfl rfl (hr _) ?_)
    go_ret
    obtain ⟨q1, e1, r1⟩ := Z.out
    subst e1
    exact ⟨q1, rfl, r1⟩

theorem binsert_any (q : Pc) (x : UInt8) (i vb : Nat) (w : World) (hq : PcO w q) (hi : i ≤ q.bs.length) (hn : q.bs.length ≤ 4096) (hv : w.heap[vb]? = some (.cells [ub x].toArray 5 (0, 0))) (hvb : vb ≠ q.b) :
    Calls Try.prog 47 #[q.val, .int .i64 i, .slice (some ⟨vb, 0, none⟩) 1 1] w fun e w' => ∃ q', e = .returned q'.val ∧ q'.bs = q.bs.take i ++ x :: q.bs.drop i ∧ NowQ w w' q q' := by
  by_cases hin : i = q.bs.length
  · subst hin
    rw [List.take_of_length_le (Nat.le_refl _), List.drop_of_length_le (Nat.le_refl _)]
    exact binsert_end q x vb w hq hv hn
  · obtain ⟨fz, L, S, R, h1, h2, h3, h4⟩ := hq
    obtain ⟨d, ds, hd'⟩ : ∃ d ds, q.bs.drop i = d :: ds := by
      cases h : q.bs.drop i with
      | nil => have := congrArg List.length h; simp at this; omega
      | cons d ds => exact ⟨d, ds, rfl⟩
    have hbs : q.bs.map ub = (q.bs.take i).map ub ++ ub d :: ds.map ub := by
      have := congrArg (List.map ub) (List.take_append_drop i q.bs)
      rw [hd'] at this
      simpa using this.symm
    have hl : i + (ds.length + 1) = q.bs.length := by
      have := congrArg List.length hd'
      simp at this
      omega
    have hone : ∀ v ∈ ub d :: ds.map ub, v.oneCell' = true := by
      have := one_ub (d :: ds)
      simpa using this
    rw [hbs] at h1
    rw [hd']
    have hlt : i < q.bs.length := by omega
    cases S with
    | cons s0 S =>
      refine (binsert_shift q.b vb q.off i q.bs.length q.cap (ub x) (ub d) s0 L _ _ S R fz w rfl hone h2 (by simp [Hid]; omega) (by simpa [Hid] using hl) hlt (by simp at h3; omega) h4 hvb h1 hv).mono ?_
      rintro e w' ⟨rfl, hs, hF⟩
      have e2 : (q.bs.take i).map ub ++ ub x :: ub d :: ds.map ub = (q.bs.take i ++ x :: d :: ds).map ub := by simp
      rw [e2] at hs
      have hl2 : (q.bs.take i ++ x :: d :: ds).length = q.bs.length + 1 := by simp; omega
      refine ⟨⟨q.b, q.off, q.cap, q.bs.take i ++ x :: d :: ds⟩, by simp only [Pc.val, hl2], rfl, ⟨fz, L, S, R, hs, h2, by simp at h3; simp only [hl2]; omega, h4⟩, .inl ⟨rfl, rfl, rfl, ?_, hF⟩⟩
      have := ChR.of h1 hs (by simp only [List.length_map, hl2]; simp; omega)
      rw [h2, ← hbs] at this
      rw [← h3]
      simpa using this
    | nil =>
      have hcap : q.cap = q.bs.length := by simpa using h3.symm
      unfold Pc.val
      rw [hcap]
      refine (binsert_grow q.b vb q.off i q.bs.length (ub x) (ub d) L _ _ R fz w rfl hone h2 (by simp [Hid]; omega) (by simpa [Hid] using hl) hlt hn h1 hv).mono ?_
      rintro e w' ⟨G, Z, rfl, hs, hG, hG63, hF⟩
      have e2 : (q.bs.take i).map ub ++ ub x :: ub d :: ds.map ub = (q.bs.take i ++ x :: d :: ds).map ub := by simp
      rw [e2] at hs
      have hl2 : (q.bs.take i ++ x :: d :: ds).length = q.bs.length + 1 := by simp; omega
      exact ⟨⟨w.heap.size, 0, G, q.bs.take i ++ x :: d :: ds⟩, by simp only [hl2], rfl, ⟨(0, 0), [], Z, [], hs, rfl, by simp only [hl2]; omega, hG63⟩, .inr ⟨Nat.le_refl _, hF⟩⟩
end Go.Proofs.Ytlmgogonghafeab
