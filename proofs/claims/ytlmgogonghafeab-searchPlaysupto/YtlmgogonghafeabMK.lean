/-
  Texts put together: Gg Gh Gi.
-/
import Derived.Test.YtlmgogonghafeabGe
import Derived.Deep.AppendSrc
/-! Gg -/
namespace Go.Proofs.Ytlmgogonghafeab
open Go.RowKit Go.Lib
set_option linter.unusedVariables false

theorem Try.underlyingQQ : Try.prog.underlying 56 = some (.slice 35) := Try.underlying56
theorem sizeBs (w : World) : (Go.sizeOf 35).run Try.prog w = .ok 1 w := by
  obtain ⟨i0, hi, hz0, hz1, hz2⟩ := info_parts Try.infoBs
  simp [sizeOf, typeInfo, hi, hz1]
theorem sizeBs' : (Try.prog.info? 35).map (·.size) = some 1 := by
  obtain ⟨i0, hi, hz0, hz1, hz2⟩ := info_parts Try.infoBs
  rw [hi]
  simp [hz1]

section
variable {P : Program}
theorem run_appendX (w : World) (t tx ty e e' : TypeId) (i : TypeInfo) (ht : P.underlying t = some (.slice e)) (htx : P.underlying tx = some (.slice e')) (hi : P.info? e = some i) (hs : i.size = 1)
    (g o sLen sCap : Nat) (cur : List Value) (fz : Nat × Nat) (hg : w.heap[g]? = some (.cells cur.toArray e fz)) (hfz : Free fz cur.length)
    (a : Addr) (m c : Nat) (news : List Value) (hl : news.length = m) (hnews : ∀ j u, news[j]? = some u → w.cell? (a.add j) = some u) (h1 : ∀ u ∈ news, u.oneCell' = true)
    (hroom : sLen + m ≤ sCap) (hfit : o + sLen + news.length ≤ cur.length) :
    (Builtin.append_ #[t, tx] ty #[.slice (some ⟨g, o, none⟩) sLen sCap, .slice (some a) m c]).run P w =
      .ok (.slice (some ⟨g, o, none⟩) (sLen + m) sCap) (w.setRow g (splice cur (o + sLen) news).toArray) := by
  have hf := run_firstCells_some (P := P) w i.size m a m c news (by rw [hs, hl]; omega) hnews
  have hst := run_storeM P g (o + sLen) e fz news 0 cur.toArray w hg (by simpa using hfz) (by simpa using hfit) h1
  simp only [Nat.add_zero] at hst
  rw [hs] at hf
  simp [Builtin.append_, run_underlying ht, run_underlying htx, sizeOf, typeInfo, hi, hs, Builtin.lenOf, hroom, add_lit, hf, hst, splice]
end

section
variable (g vb o k n c : Nat) (y p q s0 : Value) (L A ds S R : List Value) (fz : Nat × Nat) (w : World)

set_option maxHeartbeats 4000000 in
set_option maxRecDepth 100000 in
/-- The last piece, with room. -/
theorem qreplace_end (hx1 : Hid (p.oneCell' = true ∧ q.oneCell' = true)) (hL : Hid (L.length = o)) (hA : Hid (A.length = k)) (hroom : k + 2 ≤ c) (hk : k ≤ 5000) (hc63 : c ≤ 9223372036854775807) (hvb : vb ≠ g)
    (hg : Hid (Seg w g 35 fz L (A ++ [y]) (s0 :: S) R)) (hv : Hid (w.heap[vb]? = some (.cells [p, q].toArray 35 (0, 0)))) :
    Calls Try.prog 48 #[.slice (some ⟨g, o, none⟩) (k + 1) c, .int .i64 k, .int .i64 ((k : Int) + 1), .slice (some ⟨vb, 0, none⟩) 2 2] w fun e w' =>
      e = .returned (.slice (some ⟨g, o, none⟩) (k + 2) c) ∧ Seg w' g 35 fz L (A ++ [p, q]) S R ∧ Fr (· = g) w w' := by
  obtain ⟨i0, hi0, hz0, hz1, hz2⟩ := info_parts Try.infoBs
  obtain ⟨W1, hW1⟩ : ∃ W1, W1 = w.setRow g (L ++ ((A ++ [p, q]) ++ (S ++ R))).toArray := ⟨_, rfl⟩
  have hap : ∀ ty, (Builtin.append_ #[57, 56] ty #[.slice (some ⟨g, o, none⟩) k c, .slice (some ⟨vb, 0, none⟩) 2 2]).run Try.prog w = .ok (.slice (some ⟨g, o, none⟩) (k + 2) c) W1 := fun ty => by
    have hr := run_appendX (P := Try.prog) w 57 56 ty 35 35 i0 Try.underlying57 Try.underlyingQQ hi0 hz1 g o k c _ fz hg.out.1 (by have := hg.out.2; simp only [List.length_append] at this ⊢; exact this) ⟨vb, 0, none⟩ 2 2 [p, q] rfl
      (fun j v hj => by rw [add_lit, Nat.zero_add, cell_row hv.out, List.getElem?_toArray]; exact hj) (by intro v hv; simp at hv; rcases hv with rfl | rfl; exact hx1.out.1; exact hx1.out.2) hroom (by have := hL.out; have := hA.out; simp; omega)
    have e : L ++ ((A ++ [y]) ++ ((s0 :: S) ++ R)) = (L ++ A) ++ ([y, s0] ++ (S ++ R)) := by simp
    rw [hr, e, show o + k = (L ++ A).length by simp [hL.out, hA.out], splice_mid _ _ _ _ (by simp), hW1]
    simp
  have R : Hid (Seg W1 g 35 fz L (A ++ [p, q]) S R ∧ Fr (· = g) w W1) := by
    rw [hW1]
    refine ⟨⟨setRow_heap w g _ _ 35 _ hg.out.1, ?_⟩, Fr.setRow _ _ _ rfl⟩
    have h := hg.out.2
    rw [show L.length + ((A ++ [p, q]).length + (S.length + R.length)) = L.length + ((A ++ [y]).length + ((s0 :: S).length + R.length)) by simp; omega]
    exact h
  clear hW1 hi0 hz0 hz1 hz2
  have hw1 : IntKind.i64.wrap ((k : Int) + 1) = (k : Int) + 1 := by rw [IntKind.wrap_i64]; omega
  have hb1 : (0 : Int) ≤ (k : Int) + 1 := by omega
  have htn : ((k : Int) + 1).toNat = k + 1 := by omega
  have hb3 : (k : Int) ≤ (k : Int) + 1 := by omega
  have hb4 : ¬ ((k : Int) = (k : Int) + 1) := by omega
  have hb5 : ¬ (c = k) := by omega
  have hb6 : k ≤ c := by omega
  have hb8 : ¬ (k + 2 < k + 1) := by omega
  go_enter Try.func48, Try.ntmps48
  go_wp2_with (at_builtin; refine wpList_append_k _ rfl _ _ 57 56 rfl _ _ rfl rfl (hap _) ?_)
  go_ret
  exact ⟨rfl, R.out⟩

set_option maxHeartbeats 4000000 in
set_option maxRecDepth 100000 in
/-- The last piece, without room. -/
theorem qreplace_endg (hx1 : Hid (p.oneCell' = true ∧ q.oneCell' = true)) (hL : Hid (L.length = o)) (hA : Hid (A.length = k)) (hk : k ≤ 5000)
    (hg : Hid (Seg w g 35 fz L (A ++ [y]) [] R)) (hv : Hid (w.heap[vb]? = some (.cells [p, q].toArray 35 (0, 0)))) :
    Calls Try.prog 48 #[.slice (some ⟨g, o, none⟩) (k + 1) (k + 1), .int .i64 k, .int .i64 ((k : Int) + 1), .slice (some ⟨vb, 0, none⟩) 2 2] w fun e w' =>
      ∃ G Z, e = .returned (.slice (some ⟨w.heap.size, 0, none⟩) (k + 2) G) ∧ Seg w' w.heap.size 35 (0, 0) [] (A ++ [p, q]) Z [] ∧ k + 2 + Z.length = G ∧ G ≤ 9223372036854775807 ∧ Fr (fun _ => False) w w' := by
  obtain ⟨i0, hi0, hz0, hz1, hz2⟩ := info_parts Try.infoBs
  have hold : (Builtin.firstCells i0.size k (.slice (some ⟨g, o, none⟩) k (k + 1))).run Try.prog w.drew = .ok A.toArray w.drew := by
    refine run_firstCells_some w.drew i0.size k ⟨g, o, none⟩ k (k + 1) A (by rw [hz1, hA.out]; omega) (fun j v hj => ?_)
    have hgd : Seg w.drew g 35 fz L (A ++ [y]) [] R := hg.out
    have := hgd.cells 0 (Nat.zero_le _) j v (by rw [List.drop_zero, List.getElem?_append_left (List.getElem?_eq_some_iff.1 hj).1]; exact hj)
    rw [Nat.add_zero, hL.out] at this
    exact this
  have h := fun ty => run_append_grow_src (P := Try.prog) w 57 56 ty 35 i0 _ Try.underlying57 hi0 hz0 (some ⟨g, o, none⟩) k (k + 1) A hold (.slice (some ⟨vb, 0, none⟩) 2 2) 2 [p, q]
    (Src.ofSlice w Try.underlyingQQ ⟨vb, 0, none⟩ 2 2 [p, q] (by rw [hz1]; rfl) (fun j v hj => by rw [add_lit, Nat.zero_add, cell_row hv.out, List.getElem?_toArray]; exact hj) (by intro v hv; simp at hv; rcases hv with rfl | rfl; exact hx1.out.1; exact hx1.out.2)) (by omega) (by omega) (growslice_fits (by omega) (by rw [hz2]; omega))
  have hG1 := grownCap_ge w (k + 2) (k + 1) 35
  have hG2 := grownCap_le_maxLen w (k + 2) (k + 1) 35 (by unfold maxLen; omega)
  generalize grownCap w (k + 2) (k + 1) 35 = G at h hG1 hG2
  obtain ⟨Z, hZ⟩ : ∃ Z, Z = (Builtin.zeroCells #[.slice none 0 0] (G - (k + 2))).toList := ⟨_, rfl⟩
  have hZl : Z.length = G - (k + 2) := by
    rw [hZ, Array.length_toList, size_zeroCells]
    simp
  obtain ⟨W1, hW1⟩ : ∃ W1, W1 = w.drew.alloc (.cells ((A ++ [p, q]).toArray ++ Builtin.zeroCells (Value.slice none 0 0).cells (G - (k + 2))) 35) := ⟨_, rfl⟩
  rw [← hW1] at h
  have R : Hid (Seg W1 w.heap.size 35 (0, 0) [] (A ++ [p, q]) Z [] ∧ k + 2 + Z.length = G ∧ G ≤ 9223372036854775807 ∧ Fr (fun _ => False) w W1) := by
    refine ⟨⟨?_, .inl rfl⟩, by omega, hG2, by rw [hW1]; exact (Fr.drew _ w).trans (Fr.alloc _ _ _)⟩
    show W1.heap[w.drew.heap.size]? = _
    rw [hW1, heap_alloc_new, hZ]
    congr 2
    apply Array.toList_inj.1
    simp [Value.cells]
  clear hW1 hi0 hz0 hz1 hz2 hZ hZl hold
  have hw1 : IntKind.i64.wrap ((k : Int) + 1) = (k : Int) + 1 := by rw [IntKind.wrap_i64]; omega
  have hb1 : (0 : Int) ≤ (k : Int) + 1 := by omega
  have htn : ((k : Int) + 1).toNat = k + 1 := by omega
  have hb3 : (k : Int) ≤ (k : Int) + 1 := by omega
  have hb4 : ¬ ((k : Int) = (k : Int) + 1) := by omega
  have hb5 : ¬ (k + 1 = k) := by omega
  have hb6 : k ≤ k + 1 := by omega
  have hb8 : ¬ (k + 2 < k + 1) := by omega
  go_enter Try.func48, Try.ntmps48
  go_wp2_with (at_builtin; refine wpList_append_k _ rfl _ _ 57 56 rfl _ _ rfl rfl (h _) ?_)
  go_ret
  exact ⟨G, Z, rfl, R.out⟩
end
end Go.Proofs.Ytlmgogonghafeab

/-! Gh -/
namespace Go.Proofs.Ytlmgogonghafeab
open Go.RowKit Go.Lib
set_option linter.unusedVariables false

theorem splice_two {α : Type} (L A ds S R : List α) (y d s0 p q : α) : splice (splice (L ++ ((A ++ y :: d :: ds) ++ ((s0 :: S) ++ R))) (L.length + A.length + 2) (d :: ds)) (L.length + A.length) [p, q] = L ++ ((A ++ p :: q :: d :: ds) ++ (S ++ R)) := by
  have e1 : L ++ ((A ++ y :: d :: ds) ++ ((s0 :: S) ++ R)) = (L ++ A ++ [y, d]) ++ ((ds ++ [s0]) ++ (S ++ R)) := by simp
  have l1 : L.length + A.length + 2 = (L ++ A ++ [y, d]).length := by simp; omega
  rw [e1, l1, splice_mid _ _ _ _ (by simp)]
  have e2 : (L ++ A ++ [y, d]) ++ ((d :: ds) ++ (S ++ R)) = (L ++ A) ++ ([y, d] ++ ((d :: ds) ++ (S ++ R))) := by simp
  rw [e2, show L.length + A.length = (L ++ A).length by simp, splice_mid _ _ _ _ (by simp)]
  simp

section
variable (g vb o k m c : Nat) (y d p q s0 : Value) (L A ds S R : List Value) (w : World)

set_option maxHeartbeats 4000000 in
set_option maxRecDepth 100000 in
/-- Within the list, with room. -/
theorem qreplace_in (hx1 : Hid (p.oneCell' = true ∧ q.oneCell' = true)) (hall : Hid (∀ v ∈ d :: ds, v.oneCell' = true)) (hL : Hid (L.length = o)) (hA : Hid (A.length = k)) (hm : Hid (ds.length + 1 = m)) (hm0 : 0 < m) (hroom : k + 2 + m ≤ c) (hk : k + m ≤ 5000) (hc63 : c ≤ 9223372036854775807) (hvb : vb ≠ g)
    (hg : Hid (Seg w g 35 (0, 0) L (A ++ y :: d :: ds) (s0 :: S) R)) (hv : Hid (w.heap[vb]? = some (.cells [p, q].toArray 35 (0, 0)))) :
    Calls Try.prog 48 #[.slice (some ⟨g, o, none⟩) (k + 1 + m) c, .int .i64 k, .int .i64 ((k : Int) + 1), .slice (some ⟨vb, 0, none⟩) 2 2] w fun e w' =>
      e = .returned (.slice (some ⟨g, o, none⟩) (k + 2 + m) c) ∧ Seg w' g 35 (0, 0) L (A ++ p :: q :: d :: ds) S R ∧ Fr (· = g) w w' := by
  obtain ⟨cur, hcur⟩ : ∃ cur, cur = L ++ ((A ++ y :: d :: ds) ++ ((s0 :: S) ++ R)) := ⟨_, rfl⟩
  have hgd : Seg w.drew.drew g 35 (0, 0) L (A ++ y :: d :: ds) (s0 :: S) R := hg.out
  have hgc := hgd.1
  rw [← hcur] at hgc
  have hfz : Free (0, 0) cur.length := by
    have := hgd.2
    rw [hcur]
    simp only [List.length_append] at this ⊢
    exact this
  have hcl : o + (k + 2 + m) ≤ cur.length := by
    have := hL.out; have := hA.out; have := hm.out
    rw [hcur]
    simp
    omega
  have hov : ∀ lb cb a1, (callFunc 68 #[.slice (some ⟨g, a1, none⟩) lb cb, .slice (some ⟨vb, 0, none⟩) 2 2]).run Try.prog w.drew = .ok (.value (.bool false)) w.drew := fun lb cb a1 => by
    have hsa : w.drew.shape? g = some (35, cur.length) := by
      have : w.drew.heap[g]? = some (.cells cur.toArray 35 (0, 0)) := hgc
      simp [World.shape?, this]
    have hvd : w.drew.heap[vb]? = some (.cells [p, q].toArray 35 (0, 0)) := hv.out
    have hsb : w.drew.shape? vb = some (35, 2) := by simp [World.shape?, hvd]
    rw [run_callFunc_extern Try.func68 (by kernel_rfl) (by kernel_rfl) (by kernel_rfl) (e := Extern.SlicesOverlaps.overlaps #[56, 56] #[4]) (by kernel_rfl),
      Lib.run_overlaps_apart w.drew 56 4 35 Try.underlyingQQ 1 sizeBs ⟨g, a1, none⟩ ⟨vb, 0, none⟩ lb cb 2 2 (Ne.symm hvb) 35 35 _ 2 hsa hsb (by decide) (frozen_row hgc a1) (frozen_row hgc _)]
    rfl
  have hcp1 : ∀ q1 r1 n1 n2 ty dc sc, q1 = o + (k + 2) → r1 = o + (k + 1) → n1 = m → n2 = m → (Builtin.copy_ #[57, 57] ty #[.slice (some ⟨g, q1, none⟩) n1 dc, .slice (some ⟨g, r1, none⟩) n2 sc]).run Try.prog w.drew.drew = .ok (goInt (m : Nat)) (w.drew.drew.setRow g (splice cur (o + (k + 2)) (d :: ds)).toArray) := fun q1 r1 n1 n2 ty dc sc e1 e2 e3 e4 => by
    subst e1 e2
    rw [e3, e4]
    exact run_copyM (P := Try.prog) w.drew.drew 57 57 ty 35 g (o + (k + 2)) m dc ⟨g, o + (k + 1), none⟩ m sc m cur 35 (0, 0) (d :: ds) Try.underlying57 sizeBs' hgc hfz (Nat.min_self _).symm (by have := hm.out; simp; omega)
      (by
        have h := hgd.cells (k + 1) (by rw [← hA.out]; simp)
        rw [hL.out, ← hA.out, show (A ++ y :: d :: ds) = (A ++ [y]) ++ d :: ds by simp, show A.length + 1 = (A ++ [y]).length by simp, List.drop_left] at h
        rw [← hA.out]
        simpa using h) (by have := hm.out; simp; omega) hall.out
  obtain ⟨W1, hW1⟩ : ∃ W1, W1 = w.drew.drew.setRow g (splice cur (o + (k + 2)) (d :: ds)).toArray := ⟨_, rfl⟩
  rw [← hW1] at hcp1
  have hl1 : (splice cur (o + (k + 2)) (d :: ds)).length = cur.length := length_splice _ _ _ (by have := hm.out; simp; omega)
  have hg1 : W1.heap[g]? = some (.cells (splice cur (o + (k + 2)) (d :: ds)).toArray 35 (0, 0)) := by rw [hW1]; exact setRow_heap w.drew.drew g _ _ 35 _ hgc
  have F1 : Fr (· = g) w W1 := by rw [hW1]; exact ((Fr.drew _ w).trans (Fr.drew _ _)).trans (Fr.setRow _ _ _ rfl)
  have hv1 : W1.heap[vb]? = some (.cells [p, q].toArray 35 (0, 0)) := F1.keeps hv.out hvb
  have hcp2 : ∀ q1 n1 ty dc, q1 = o + k → n1 = m + 2 → (Builtin.copy_ #[57, 56] ty #[.slice (some ⟨g, q1, none⟩) n1 dc, .slice (some ⟨vb, 0, none⟩) 2 2]).run Try.prog W1 = .ok (goInt (2 : Nat)) (W1.setRow g (splice (splice cur (o + (k + 2)) (d :: ds)) (o + k) [p, q]).toArray) := fun q1 n1 ty dc e1 e2 => by
    subst e1 e2
    exact run_copyM (P := Try.prog) W1 57 56 ty 35 g (o + k) (m + 2) dc ⟨vb, 0, none⟩ 2 2 2 _ 35 (0, 0) [p, q] Try.underlying57 sizeBs' hg1 (.inl rfl) (by simp only [Nat.min_def]; split <;> omega) rfl
      (fun j v hj => by rw [add_lit, Nat.zero_add, cell_row hv1, List.getElem?_toArray]; exact hj) (by rw [hl1]; simp; omega) (by intro v hv; simp at hv; rcases hv with rfl | rfl; exact hx1.out.1; exact hx1.out.2)
  obtain ⟨W2, hW2⟩ : ∃ W2, W2 = W1.setRow g (splice (splice cur (o + (k + 2)) (d :: ds)) (o + k) [p, q]).toArray := ⟨_, rfl⟩
  rw [← hW2] at hcp2
  have R : Hid (Seg W2 g 35 (0, 0) L (A ++ p :: q :: d :: ds) S R ∧ Fr (· = g) w W2) := by
    have e : splice (splice cur (o + (k + 2)) (d :: ds)) (o + k) [p, q] = L ++ ((A ++ p :: q :: d :: ds) ++ (S ++ R)) := by
      have h := splice_two L A ds S R y d s0 p q
      rw [hL.out, hA.out] at h
      rw [hcur, ← Nat.add_assoc]
      exact h
    rw [hW2, e]
    exact ⟨⟨setRow_heap W1 g _ _ 35 _ hg1, .inl rfl⟩, F1.trans (Fr.setRow _ _ _ rfl)⟩
  clear hW1 hg1 hl1 F1 hv1 hW2 hgd hgc hfz hcl hcur
  have hw1 : IntKind.i64.wrap ((k : Int) + 1) = (k : Int) + 1 := by rw [IntKind.wrap_i64]; omega
  have hb1 : (0 : Int) ≤ (k : Int) + 1 := by omega
  have htn : ((k : Int) + 1).toNat = k + 1 := by omega
  have hb3 : (k : Int) ≤ (k : Int) + 1 := by omega
  have hb4 : ¬ ((k : Int) = (k : Int) + 1) := by omega
  have hb5 : ¬ (c = k) := by omega
  have hb6 : k ≤ c := by omega
  have hs1 : k + 1 + m - (k + 1) = m := by omega
  have hb7 : ¬ ((k : Int) + 1 = (k : Int) + 1 + (m : Int)) := by omega
  have hb8 : ¬ (c = k + 1) := by omega
  have hw2 : IntKind.i64.wrap ((k : Int) + 2) = (k : Int) + 2 := by rw [IntKind.wrap_i64]; omega
  have hw3 : IntKind.i64.wrap ((k : Int) + 2 + (m : Int)) = (k : Int) + 2 + (m : Int) := by rw [IntKind.wrap_i64]; omega
  have htn2 : ((k : Int) + 2).toNat = k + 2 := by omega
  have htn3 : ((k : Int) + 2 + (m : Int)).toNat = k + 2 + m := by omega
  have hb9 : ¬ ((c : Int) < (k : Int) + 2 + (m : Int)) := by omega
  have hb10 : ¬ (c = k + 2) := by omega
  have hb11 : (k : Int) + 1 ≤ (k : Int) + 1 + (m : Int) := by omega
  have hb12 : k + 2 + m ≤ c := hroom
  have hb13 : (k : Int) + 2 ≤ (k : Int) + 2 + (m : Int) := by omega
  have hb14 : (k : Int) ≤ (k : Int) + 2 + (m : Int) := by omega
  have hb16 : (0 : Int) ≤ (k : Int) + 2 := by omega
  have hb15 : ¬ ((k : Int) + 2 ≤ (k : Int) + 1) := by omega
  have hcp3 : ∀ ty dc, (Builtin.copy_ #[57, 56] ty #[.slice (some ⟨g, o + k, none⟩) (k + 2 + m - k) dc, .slice (some ⟨vb, 0, none⟩) 2 2]).run Try.prog W1 = .ok (goInt (2 : Nat)) W2 := fun ty dc => hcp2 _ _ ty dc rfl (by omega)
  clear hcp2
  go_enter Try.func48, Try.ntmps48
  go_wp2_with fail
  go_region_law (fail)
  go_wp2_with (simp only [hov])
  go_region_law (refine step_copy_k rfl _ _ 57 57 rfl _ _ (by simp [Act.eval, Act.put]) (by simp [Act.eval, Act.put]) (hcp1 _ _ _ _ _ _ _ (by omega) (by omega) (by omega) (by omega)) ?_)
  go_wp2_with (at_builtin; refine wpList_copy_k _ rfl _ _ 57 56 rfl _ _ rfl rfl (hcp3 _ _) ?_)
  go_ret
  exact ⟨rfl, R.out⟩
end
end Go.Proofs.Ytlmgogonghafeab

/-! Gi -/
namespace Go.Proofs.Ytlmgogonghafeab
open Go.RowKit Go.Lib
set_option linter.unusedVariables false

set_option maxRecDepth 100000 in
theorem run_zerosQ (w : World) (g o k m : Nat) (L A D R : List Value) (hk : k + m ≤ 5000) (hL : L.length = o) (hA : A.length = k) (hg : Seg w g 35 (0, 0) L (A ++ D) [] R) :
    ∃ G w' Z, k + 2 + m ≤ G ∧ G ≤ 9223372036854775807 ∧ (∀ N ty, N = ((m + 2 : Nat) : Int) → (Builtin.append_ #[57, 3] ty #[.slice (some ⟨g, o, none⟩) k (k + 1 + m), .int .i64 N]).run Try.prog w = .ok (.slice (some ⟨w.heap.size, 0, none⟩) (k + 2 + m) G) w') ∧
      w'.heap[w.heap.size]? = some (.cells (A ++ Z : List Value).toArray 35 (0, 0)) ∧ k + Z.length = G ∧ Fr (fun _ => False) w w' := by
  obtain ⟨i0, hi0, hz0, hz1, hz2⟩ := info_parts Try.infoBs
  have hold : (Builtin.firstCells i0.size k (.slice (some ⟨g, o, none⟩) k (k + 1 + m))).run Try.prog w.drew = .ok A.toArray w.drew := by
    refine run_firstCells_some w.drew i0.size k ⟨g, o, none⟩ k (k + 1 + m) A (by rw [hz1, hA]; omega) (fun j v hj => ?_)
    have hgd : Seg w.drew g 35 (0, 0) L (A ++ D) [] R := hg
    have := hgd.cells 0 (Nat.zero_le _) j v (by rw [List.drop_zero, List.getElem?_append_left (List.getElem?_eq_some_iff.1 hj).1]; exact hj)
    rw [Nat.add_zero, hL] at this
    exact this
  have h := fun ty => Lib.run_append_grow_zeros w 57 3 ty 35 i0 _ .i64 .i64 Try.underlying57 Try.underlying3 hi0 hz0 (some ⟨g, o, none⟩) k (k + 1 + m) A hold (m + 2) (by omega) (by omega) (by omega) (by omega) (by rw [hz2]; omega) (growslice_fits (by omega) (by rw [hz2]; omega))
  have hik : k + (m + 2) = k + 2 + m := by omega
  rw [hik] at h
  have hG1 := grownCap_ge w (k + 2 + m) (k + 1 + m) 35
  have hG2 := grownCap_le_maxLen w (k + 2 + m) (k + 1 + m) 35 (by unfold maxLen; omega)
  generalize grownCap w (k + 2 + m) (k + 1 + m) 35 = G at h hG1 hG2
  obtain ⟨Z0, hZ0⟩ : ∃ Z0, Z0 = (Builtin.zeroCells #[.slice none 0 0] (m + 2) ++ Builtin.zeroCells #[.slice none 0 0] (G - (k + 2 + m))).toList := ⟨_, rfl⟩
  have hZl : Z0.length = G - k := by
    rw [hZ0, Array.length_toList, Array.size_append, size_zeroCells, size_zeroCells]
    simp
    omega
  refine ⟨G, _, Z0, hG1, hG2, fun N ty hN => by rw [hN]; exact h ty, ?_, by omega, (Fr.drew _ w).trans (Fr.alloc _ _ _)⟩
  rw [show w.heap.size = w.drew.heap.size from rfl, heap_alloc_new]
  rw [hZ0]
  congr 3
  apply Array.toList_inj.1
  simp [Value.cells]

set_option maxHeartbeats 4000000 in
set_option maxRecDepth 100000 in
theorem qreplace_grow (g vb o k m : Nat) (y d p q : Value) (L A ds R : List Value) (w : World) (hx1 : Hid (p.oneCell' = true ∧ q.oneCell' = true)) (hall : Hid (∀ v ∈ d :: ds, v.oneCell' = true)) (hL : Hid (L.length = o)) (hA : Hid (A.length = k)) (hm : Hid (ds.length + 1 = m)) (hm0 : 0 < m) (hk : k + m ≤ 5000)
    (hg : Hid (Seg w g 35 (0, 0) L (A ++ y :: d :: ds) [] R)) (hv : Hid (w.heap[vb]? = some (.cells [p, q].toArray 35 (0, 0)))) :
    Calls Try.prog 48 #[.slice (some ⟨g, o, none⟩) (k + 1 + m) (k + 1 + m), .int .i64 k, .int .i64 ((k : Int) + 1), .slice (some ⟨vb, 0, none⟩) 2 2] w fun e w' =>
      ∃ G Z, e = .returned (.slice (some ⟨w.heap.size, 0, none⟩) (k + 2 + m) G) ∧ Seg w' w.heap.size 35 (0, 0) [] (A ++ p :: q :: d :: ds) Z [] ∧ k + 2 + m + Z.length = G ∧ G ≤ 9223372036854775807 ∧ Fr (fun _ => False) w w' := by
  have hgd : Seg w.drew g 35 (0, 0) L (A ++ y :: d :: ds) [] R := hg.out
  obtain ⟨G, W1, Z, hG1, hG63, hrz0, hR1, hZl, hF1d⟩ := run_zerosQ w.drew g o k m L A (y :: d :: ds) R hk hL.out hA.out hgd
  have hF1 : Fr (fun _ => False) w W1 := (Fr.drew _ w).trans hF1d
  have hsz : w.drew.heap.size = w.heap.size := rfl
  rw [hsz] at hrz0 hR1
  have hrz : ∀ ty, (Builtin.append_ #[57, 3] ty #[.slice (some ⟨g, o, none⟩) k (k + 1 + m), .int .i64 ((k : Int) + 2 + (m : Int) - (k : Int))]).run Try.prog w.drew = .ok (.slice (some ⟨w.heap.size, 0, none⟩) (k + 2 + m) G) W1 := fun ty => hrz0 _ ty (by omega)
  have hv1 : W1.heap[vb]? = some (.cells [p, q].toArray 35 (0, 0)) := hF1.keeps hv.out (fun h => h)
  obtain ⟨Z1, hZ1⟩ : ∃ Z1, Z1 = Z.drop 2 := ⟨_, rfl⟩
  have hcpA : ∀ ty dc, (Builtin.copy_ #[57, 56] ty #[.slice (some ⟨w.heap.size, k, none⟩) (k + 2 + m - k) dc, .slice (some ⟨vb, 0, none⟩) 2 2]).run Try.prog W1 = .ok (goInt (2 : Nat)) (W1.setRow w.heap.size (A ++ ([p, q] ++ Z1)).toArray) := fun ty dc => by
    have := run_copyM (P := Try.prog) W1 57 56 ty 35 w.heap.size k (k + 2 + m - k) dc ⟨vb, 0, none⟩ 2 2 2 _ 35 (0, 0) [p, q] Try.underlying57 sizeBs' hR1 (.inl rfl) (by simp only [Nat.min_def]; split <;> omega) rfl
      (fun j v hj => by rw [add_lit, Nat.zero_add, cell_row hv1, List.getElem?_toArray]; exact hj) (by have := hA.out; simp; omega) (by intro v hv; simp at hv; rcases hv with rfl | rfl; exact hx1.out.1; exact hx1.out.2)
    rw [this, show A ++ Z = A ++ (Z.take 2 ++ Z1) by rw [hZ1, List.take_append_drop], ← hA.out, splice_mid _ _ _ _ (by simp; have := hA.out; omega)]
  obtain ⟨W2, hW2⟩ : ∃ W2, W2 = W1.setRow w.heap.size (A ++ ([p, q] ++ Z1)).toArray := ⟨_, rfl⟩
  rw [← hW2] at hcpA
  have hR2 : W2.heap[w.heap.size]? = some (.cells (A ++ ([p, q] ++ Z1)).toArray 35 (0, 0)) := by rw [hW2]; exact setRow_heap W1 _ _ _ 35 _ hR1
  have hF2 : Fr (fun _ => False) w W2 := by rw [hW2]; exact hF1.next (Fr.setRow (S := fun k => k = w.heap.size) _ _ _ rfl) (fun k hk e => by omega)
  have hg2 : Seg W2.drew g 35 (0, 0) L (A ++ y :: d :: ds) [] R := hg.out.fr (Q := fun _ => False) (hF2.trans (Fr.drew _ _)) (fun h => h)
  have hR2d : W2.drew.heap[w.heap.size]? = some (.cells (A ++ ([p, q] ++ Z1)).toArray 35 (0, 0)) := hR2
  have hZ1l : Z1.length = G - (k + 2) := by rw [hZ1, List.length_drop]; omega
  obtain ⟨Z2, hZ2⟩ : ∃ Z2, Z2 = Z1.drop m := ⟨_, rfl⟩
  have hcpB : ∀ q1 r1 n1 n2 ty dc sc, q1 = k + 2 → r1 = o + (k + 1) → n1 = m → n2 = m → (Builtin.copy_ #[57, 57] ty #[.slice (some ⟨w.heap.size, q1, none⟩) n1 dc, .slice (some ⟨g, r1, none⟩) n2 sc]).run Try.prog W2.drew = .ok (goInt (m : Nat)) (W2.drew.setRow w.heap.size ((A ++ p :: q :: d :: ds) ++ Z2).toArray) := fun q1 r1 n1 n2 ty dc sc e1 e2 e3 e4 => by
    subst e1 e2
    rw [e3, e4]
    have := run_copyM (P := Try.prog) W2.drew 57 57 ty 35 w.heap.size (k + 2) m dc ⟨g, o + (k + 1), none⟩ m sc m _ 35 (0, 0) (d :: ds) Try.underlying57 sizeBs' hR2d (.inl rfl) (Nat.min_self _).symm (by have := hm.out; simp; omega)
      (by
        have h := hg2.cells (k + 1) (by rw [← hA.out]; simp)
        rw [hL.out, ← hA.out, show (A ++ y :: d :: ds) = (A ++ [y]) ++ d :: ds by simp, show A.length + 1 = (A ++ [y]).length by simp, List.drop_left] at h
        rw [← hA.out]
        simpa using h) (by have := hA.out; have := hm.out; simp; omega) hall.out
    have e : A ++ ([p, q] ++ Z1) = (A ++ [p, q]) ++ (Z1.take m ++ Z2) := by rw [hZ2, List.take_append_drop]; simp
    rw [this, e, show k + 2 = (A ++ [p, q]).length by simp [hA.out], splice_mid _ _ _ _ (by have := hm.out; simp; omega)]
    simp
  obtain ⟨W3, hW3⟩ : ∃ W3, W3 = W2.drew.setRow w.heap.size ((A ++ p :: q :: d :: ds) ++ Z2).toArray := ⟨_, rfl⟩
  rw [← hW3] at hcpB
  have R : Hid (Seg W3 w.heap.size 35 (0, 0) [] (A ++ p :: q :: d :: ds) Z2 [] ∧ k + 2 + m + Z2.length = G ∧ Fr (fun _ => False) w W3) := by
    refine ⟨⟨?_, .inl rfl⟩, ?_, ?_⟩
    · rw [hW3, List.nil_append, List.append_nil]
      exact setRow_heap W2.drew _ _ _ 35 _ hR2d
    · rw [hZ2, List.length_drop]
      omega
    · rw [hW3]
      exact (hF2.trans (Fr.drew _ _)).next (Fr.setRow (S := fun k => k = w.heap.size) _ _ _ rfl) (fun k hk e => by omega)
  have hc3 : ¬ (G = k + 2) := by omega
  have hc4 : ¬ (G = k) := by omega
  have hc5 : k + 2 + m ≤ G := hG1
  clear hR1 hZl hF1 hF1d hv1 hW2 hR2 hF2 hg2 hR2d hW3 hZ2 hZ1l hZ1 hrz0 hsz hgd
  have hw1 : IntKind.i64.wrap ((k : Int) + 1) = (k : Int) + 1 := by rw [IntKind.wrap_i64]; omega
  have hb1 : (0 : Int) ≤ (k : Int) + 1 := by omega
  have htn : ((k : Int) + 1).toNat = k + 1 := by omega
  have hb3 : (k : Int) ≤ (k : Int) + 1 := by omega
  have hb4 : ¬ ((k : Int) = (k : Int) + 1) := by omega
  have hb5 : ¬ (k + 1 + m = k) := by omega
  have hb6 : k ≤ k + 1 + m := by omega
  have hs1 : k + 1 + m - (k + 1) = m := by omega
  have hb7 : ¬ ((k : Int) + 1 = (k : Int) + 1 + (m : Int)) := by omega
  have hb8 : ¬ (k + 1 + m = k + 1) := by omega
  have hw2 : IntKind.i64.wrap ((k : Int) + 2) = (k : Int) + 2 := by rw [IntKind.wrap_i64]; omega
  have hw3 : IntKind.i64.wrap ((k : Int) + 2 + (m : Int)) = (k : Int) + 2 + (m : Int) := by rw [IntKind.wrap_i64]; omega
  have hw4 : IntKind.i64.wrap ((k : Int) + 2 + (m : Int) - (k : Int)) = (k : Int) + 2 + (m : Int) - (k : Int) := by rw [IntKind.wrap_i64]; omega
  have htn2 : ((k : Int) + 2).toNat = k + 2 := by omega
  have htn3 : ((k : Int) + 2 + (m : Int)).toNat = k + 2 + m := by omega
  have hb9 : (k : Int) + 1 + (m : Int) < (k : Int) + 2 + (m : Int) := by omega
  have hb11 : (k : Int) + 1 ≤ (k : Int) + 1 + (m : Int) := by omega
  have hb13 : (k : Int) + 2 ≤ (k : Int) + 2 + (m : Int) := by omega
  have hb14 : (k : Int) ≤ (k : Int) + 2 + (m : Int) := by omega
  have hb17 : (k : Int) ≤ (k : Int) + 1 + (m : Int) := by omega
  have hb16 : (0 : Int) ≤ (k : Int) + 2 := by omega
  go_enter Try.func48, Try.ntmps48
  go_wp2_with fail
  go_region_law (fail)
  go_wp2_with (first
    | (at_builtin; refine wpList_append_k _ rfl _ _ 57 3 rfl _ _ rfl rfl (hrz _) ?_)
    | (at_builtin; refine wpList_copy_k _ rfl _ _ 57 56 rfl _ _ rfl rfl (hcpA _ _) ?_))
  go_region_law (refine step_copy_k rfl _ _ 57 57 rfl _ _ (by simp [Act.eval, Act.put]) (by simp [Act.eval, Act.put]) (hcpB _ _ _ _ _ _ _ (by omega) (by omega) (by omega) (by omega)) ?_)
  go_wp2
  go_ret
  exact ⟨G, Z2, rfl, R.out.1, R.out.2.1, hG63, R.out.2.2⟩
end Go.Proofs.Ytlmgogonghafeab
