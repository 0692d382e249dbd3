/-
  slices.Delete of one byte, in a part of a row.
-/
import Derived.Test.YtlmgogonghafeabGc
namespace Go.Proofs.Ytlmgogonghafeab
open Go.RowKit Go.Lib
set_option linter.unusedVariables false

def zU : Value := .int .u8 0
set_option maxHeartbeats 4000000 in
set_option maxRecDepth 100000 in
theorem bdelete_row (g o i n c : Nat) (y : Value) (L A ds S R : List Value) (fz : Nat × Nat) (w : World) (hall : Hid (∀ v ∈ ds, v.oneCell' = true))
    (hL : Hid (L.length = o)) (hA : Hid (A.length = i)) (hm : Hid (i + ds.length = n)) (hin : i ≤ n) (hSc : Hid (n + 1 + S.length = c)) (hroom : n + 1 ≤ c) (hn : n ≤ 5000) (hc63 : c ≤ 9223372036854775807)
    (hg : Hid (Seg w g 5 fz L (A ++ y :: ds) S R)) :
    Calls Try.prog 49 #[.slice (some ⟨g, o, none⟩) (n + 1) c, .int .i64 i, .int .i64 ((i : Int) + 1)] w fun e w' =>
      e = .returned (.slice (some ⟨g, o, none⟩) n c) ∧ Seg w' g 5 fz L (A ++ ds) (zU :: S) R ∧ Fr (· = g) w w' := by
  obtain ⟨i0, hi0, hz0, hz1, hz2⟩ := info_parts Try.infoU
  have hgd : Seg w.drew g 5 fz L (A ++ y :: ds) S R := hg.out
  obtain ⟨cur, hcur⟩ : ∃ cur, cur = L ++ ((A ++ y :: ds) ++ (S ++ R)) := ⟨_, rfl⟩
  have hgc := hgd.1
  rw [← hcur] at hgc
  have hfz : Free fz cur.length := by
    have := hgd.2
    rw [hcur]
    simp only [List.length_append] at this ⊢
    exact this
  have hcl : o + (n + 1) ≤ cur.length := by
    have := hL.out; have := hA.out; have := hm.out
    rw [hcur]
    simp
    omega
  obtain ⟨W1, hW1⟩ : ∃ W1, W1 = w.drew.setRow g (splice cur (o + i) ds).toArray := ⟨_, rfl⟩
  have hap : ∀ (Ad : Addr) n1 c1 ty, (c = i + 1 ∨ Ad = ⟨g, o + (i + 1), none⟩) → n1 = n - i → (Builtin.append_ #[35, 35] ty #[.slice (some ⟨g, o, none⟩) i c, .slice (some Ad) n1 c1]).run Try.prog w.drew = .ok (.slice (some ⟨g, o, none⟩) n c) W1 := fun Ad n1 c1 ty hAd e1 => by
    subst e1
    have hsrc : ∀ j u, ds[j]? = some u → w.drew.cell? (Ad.add j) = some u := by
      rcases hAd with hAd | rfl
      · intro j u hj
        have : ds.length = 0 := by have := hm.out; omega
        rw [List.length_eq_zero_iff.1 this] at hj
        simp at hj
      · have h := hgd.cells (i + 1) (by rw [← hA.out]; simp)
        rw [hL.out, ← hA.out, show (A ++ y :: ds) = (A ++ [y]) ++ ds by simp, show A.length + 1 = (A ++ [y]).length by simp, List.drop_left] at h
        rw [← hA.out]
        simpa using h
    have hr := run_appendM (P := Try.prog) w.drew 35 ty 5 i0 Try.underlying35 hi0 hz1 g o i c cur fz hgc hfz Ad (n - i) c1 ds (by have := hm.out; omega) hsrc hall.out (by omega) (by have := hm.out; omega)
    rw [show i + (n - i) = n by omega] at hr
    rw [hW1]
    exact hr
  have hg1 : W1.heap[g]? = some (.cells (splice cur (o + i) ds).toArray 5 fz) := by rw [hW1]; exact setRow_heap w.drew g _ _ 5 _ hgc
  have hl1 : (splice cur (o + i) ds).length = cur.length := length_splice _ _ _ (by have := hm.out; omega)
  have F1 : Fr (· = g) w W1 := by rw [hW1]; exact (Fr.drew _ w).trans (Fr.setRow _ _ _ rfl)
  have hcr : ∀ q n1 ty dc, q = o + n → n1 = 1 → (Builtin.clear_ #[35] ty #[.slice (some ⟨g, q, none⟩) n1 dc]).run Try.prog W1 = .ok (.tuple #[]) (W1.setRow g (splice (splice cur (o + i) ds) (o + n) [zU]).toArray) := fun q n1 ty dc e1 e2 => by
    subst e1 e2
    exact run_clearM W1 35 ty 5 i0 _ Try.underlying35 hi0 hz0 zU (by kernel_rfl) rfl g _ dc _ fz hg1 (by rw [hl1]; exact hfz) (by rw [hl1]; omega)
  obtain ⟨W2, hW2⟩ : ∃ W2, W2 = W1.setRow g (splice (splice cur (o + i) ds) (o + n) [zU]).toArray := ⟨_, rfl⟩
  rw [← hW2] at hcr
  have R : Hid (Seg W2 g 5 fz L (A ++ ds) (zU :: S) R ∧ Fr (· = g) w W2) := by
    have e : splice (splice cur (o + i) ds) (o + n) [zU] = L ++ ((A ++ ds) ++ ((zU :: S) ++ R)) := by
      have h := splice_out L A ds (S ++ R) y zU
      rw [hL.out, hA.out, hm.out] at h
      rw [hcur]
      simpa using h
    rw [hW2, e]
    refine ⟨⟨setRow_heap W1 g _ _ 5 _ hg1, ?_⟩, F1.trans (Fr.setRow _ _ _ rfl)⟩
    have h := hgd.2
    rw [show L.length + ((A ++ ds).length + ((zU :: S).length + R.length)) = L.length + ((A ++ y :: ds).length + (S.length + R.length)) by simp; omega]
    exact h
  clear hW1 hg1 hl1 F1 hW2 hgd hgc hfz hcl hcur hi0 hz0 hz1 hz2
  have hw1 : IntKind.i64.wrap ((i : Int) + 1) = (i : Int) + 1 := by rw [IntKind.wrap_i64]; omega
  have hb1 : (0 : Int) ≤ (i : Int) + 1 := by omega
  have htn : ((i : Int) + 1).toNat = i + 1 := by omega
  have hb3 : (i : Int) ≤ (i : Int) + 1 := by omega
  have hb4 : (i : Int) + 1 ≤ (n : Int) + 1 := by omega
  have hb5 : ¬ (c = i) := by omega
  have hb6 : i ≤ c := by omega
  have hb7 : i + 1 ≤ c := by omega
  have hb8 : ¬ (c = n) := by omega
  go_enter Try.func49, Try.ntmps49
  go_wp2_with fail
  by_cases hcj : c = i + 1
  · subst hcj
    have hap0 : ∀ ty, (Builtin.append_ #[35, 35] ty #[.slice (some ⟨g, o, none⟩) i (i + 1), .slice (some ⟨g, o, none⟩) 0 0]).run Try.prog w.drew = .ok (.slice (some ⟨g, o, none⟩) n (i + 1)) W1 := fun ty => hap ⟨g, o, none⟩ 0 0 ty (.inl rfl) (by omega)
    clear hap
    go_region_law (refine step_append_k rfl (.tmp 22) (.tmp 25) 35 35 rfl (.slice (some ⟨g, o, none⟩) i (i + 1)) (.slice (some ⟨g, o, none⟩) 0 0) (by simp [Act.eval, Act.put]) (by simp [Act.eval, Act.put]) (hap0 _) ?_)
    go_wp2_with (at_builtin; refine wpList_clear_k _ rfl _ 35 rfl _ rfl (hcr _ _ _ _ (by omega) (by omega)) ?_)
    go_ret
    exact ⟨rfl, R.out⟩
  · go_region_law (refine step_append_k rfl (.tmp 22) (.tmp 25) 35 35 rfl (.slice (some ⟨g, o, none⟩) i c) (.slice (some ⟨g, o + (i + 1), none⟩) (n - i) (c - (i + 1))) (by simp [Act.eval, Act.put]) (by simp [Act.eval, Act.put]) (hap ⟨g, o + (i + 1), none⟩ (n - i) _ _ (.inr rfl) rfl) ?_)
    go_wp2_with (at_builtin; refine wpList_clear_k _ rfl _ 35 rfl _ rfl (hcr _ _ _ _ (by omega) (by omega)) ?_)
    go_ret
    exact ⟨rfl, R.out⟩
theorem bdelete_any (q : Pc) (i : Nat) (w : World) (hq : PcO w q) (hi : i < q.bs.length) (hn : q.bs.length ≤ 4096) :
    Calls Try.prog 49 #[q.val, .int .i64 i, .int .i64 ((i : Int) + 1)] w fun e w' => ∃ q', e = .returned q'.val ∧ q'.bs = q.bs.take i ++ q.bs.drop (i + 1) ∧ q'.b = q.b ∧ q'.off = q.off ∧ q'.cap = q.cap ∧ NowQ w w' q q' := by
  obtain ⟨fz, L, S, R, h1, h2, h3, h4⟩ := hq
  obtain ⟨m, hm⟩ : ∃ m, q.bs.length = m + 1 := ⟨q.bs.length - 1, by omega⟩
  obtain ⟨d, ds, hd'⟩ : ∃ d ds, q.bs.drop i = d :: ds := by
    cases h : q.bs.drop i with
    | nil => have := congrArg List.length h; simp at this; omega
    | cons d ds => exact ⟨d, ds, rfl⟩
  have hdr : q.bs.drop (i + 1) = ds := by
    have := congrArg (List.drop 1) hd'
    simpa using this
  have hbs : q.bs.map ub = (q.bs.take i).map ub ++ ub d :: ds.map ub := by
    have := congrArg (List.map ub) (List.take_append_drop i q.bs)
    rw [hd'] at this
    simpa using this.symm
  have hl : i + ds.length = m := by
    have := congrArg List.length hd'
    simp at this
    omega
  have h1' := h1
  rw [hbs] at h1
  rw [hdr]
  unfold Pc.val
  rw [hm]
  refine (bdelete_row q.b q.off i m q.cap (ub d) L _ _ S R fz w (one_ub ds) h2 (by simp [Hid]; omega) (by simpa [Hid] using hl) (by omega) (by rw [← hm]; exact h3) (by omega) (by omega) h4 h1).mono ?_
  rintro e w' ⟨rfl, hs, hF⟩
  have e2 : (q.bs.take i).map ub ++ ds.map ub = (q.bs.take i ++ ds).map ub := by simp
  rw [e2] at hs
  have hl2 : (q.bs.take i ++ ds).length = m := by simp; omega
  refine ⟨⟨q.b, q.off, q.cap, q.bs.take i ++ ds⟩, by simp only [hl2], rfl, rfl, rfl, rfl, ⟨fz, L, zU :: S, R, hs, h2, by simp only [hl2]; simp; omega, h4⟩, .inl ⟨rfl, rfl, rfl, ?_, hF⟩⟩
  have := ChR.of h1' hs (by simp only [List.length_map, hl2]; simp; omega)
  rw [h2] at this
  rw [← h3]
  simpa using this
end Go.Proofs.Ytlmgogonghafeab
