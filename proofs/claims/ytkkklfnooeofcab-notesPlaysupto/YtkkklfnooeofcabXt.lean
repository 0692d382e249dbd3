/-
  The law's asks: At, walked.
-/
import Derived.Test.YtkkklfnooeofcabXs
import Derived.Deep.DeepCutAuto
namespace Go.Proofs.Ytkkklfnooeofcab
open Go.RowKit
set_option linter.unusedVariables false

/-- New numbers. -/
def RI (w : World) (l : List Int) (v : Value) (u : World) : Prop := ∃ β, SF ic 1 u 3 β v l ∧ (∀ k, β = some k → w.heap.size ≤ k) ∧ Below w.heap.size w u

set_option maxRecDepth 100000 in
set_option maxHeartbeats 16000000 in
theorem asks_at (X off k : Nat) (D : Nat → Prop) (sl id0 f t cc : Int) (s : ByteArray) (a : Option Addr) (n c : Nat) (xs : List El) (w : World) (h : PI w X off D k) (hE : IsE w a n c xs) (hwf : ∀ x ∈ xs, wfE x) (ha : 0 < n → ∀ b o, a = some ⟨b, o, none⟩ → ¬ D b ∧ b ≠ X) (hn : n ≤ 900000) (hk : k ≤ 400000) :
    Calls Try.prog 9 #[.pointer (some ⟨X, off, none⟩), .agg (lopA 6 sl id0 f t cc s a n c)] w fun e w' => e = .returned (.bool true) ∧ StO w w' X off D (k + 1) := by
  obtain ⟨r, q, O, Oq, K1, K2, g, Ns, m1, m2, hP, hD, hsd, hm1, hm2⟩ := h
  have AS := hd (fun w3 gd cd hg hS hb => AW.start (w3 := w3) (gd := gd) (cd := cd) hP hE hD ha (lopA 6 sl id0 f t cc s a n c) hg hS hb)
  have CRM := hd (room_any a n c xs (w.alloc (.cells (lopA 6 sl id0 f t cc s a n c) 36)) (hE.below ((Below.refl _ _).alloc (Nat.le_refl _) _)) hn)
  have FIN := hd (fun wx wy K1n K2n n1 n2 bcs gd cd h => AW.fin (w := w) (X := X) (off := off) (r := r) (q := q) (g := g) (wx := wx) (wy := wy) (K1n := K1n) (K2n := K2n) (n1 := n1) (n2 := n2) (bcs := bcs) (a := a) (n := n) (c := c) (xs := xs) (gd := gd) (cd := cd) hD hsd h)
  have HXN := hd hE.1
  have HRM := hd (show ∀ m ∈ Ns, roomy m.sd.length 24 from fun m hm => roomy24 _ (by have := hsd m hm; omega))
  have HNs := hd (show Ns.length ≤ 256 by obtain ⟨b, ps, rfl, hK⟩ := hP.b; rw [List.length_map]; exact Nat.le_trans hK.len hK.le)
  have HM := hd (And.intro hm1 hm2)
  clear hP hD hsd hm1 hm2 hE ha
  unfold lopA at AS CRM ⊢
  go_enter Try.func9, Try.ntmps9
  go_upto_region 2 with (go_at_call 16; refine CRM.out.mono ?_; rintro e w3 ⟨gd, cd, rfl, hgd, hSd, hb3⟩)
  have A3 := AS.out w3 gd cd hgd hSd hb3
  have hcd : n + 2 ≤ cd ∧ cd ≤ 9223372036854775807 := by
    obtain ⟨a', d', hv, h1, h2⟩ := hSd.form
    obtain ⟨-, -, rfl⟩ := Value.slice.inj hv
    rw [mkR_len, HXN.out] at h1
    exact ⟨h1, h2⟩
  clear AS CRM hgd hSd hb3
  obtain ⟨c0, c1⟩ := A3.pk.heads
  have x0 := A3.box 0; have x3 := A3.box 3; have x7 := A3.box 7
  simp at x0 x3 x7
  obtain ⟨hX1, hB1, hG1⟩ := A3.size
  have i1 : (n : Int) ≤ (cd : Int) := by omega
  have i2 : (0 : Int) ≤ (n : Int) := by omega
  have HA3 := hd A3
  clear A3
  obtain ⟨l, hl⟩ : ∃ l, atP xs f Ns = l := ⟨_, rfl⟩
  have HLL : Hid (l.length ≤ 256) := by
    show _ ≤ _
    rw [← hl]
    unfold atP
    rw [List.length_map]
    exact Nat.le_trans (List.length_filter_le _ _) HNs.out
  have HL := hd hl
  clear hl
  go_upto_region 26 with fail
  have HCR := hd (fun W (hW : Below w3.heap.size w3 W) => (rat_any Oq q g Ns W (HA3.out.pk.d.below hW) a n c xs (HA3.out.ie.below hW) f HRM.out).mono fun e w' h => (show ∃ v, e = .returned v ∧ RI w3 l v w' by
    obtain ⟨v, β, h1, h2, h3, h4⟩ := h
    have h2' : SF ic 1 w' 3 β v l := by rw [← HL.out]; exact h2
    exact ⟨v, h1, β, h2', fun k hk => Nat.le_trans hW.size (h3 k hk), hW.trans (h4.mono hW.size)⟩))
  go_cut [18] (fun v wx => ∃ am cm, v = .slice am l.length cm ∧ Hid (RI w3 l v wx))
  case first =>
    refine regAE _ w3 X off w.heap.size r q n c 0 0 a id0 f t cc s (RI w3 l) hX1 hB1 x3 x7 c1 HCR.out (by simp) rfl rfl ?_
    intro L val u hL hW hV
    have Z0 := hW.2.1 (hL 8 (by omega))
    have E0 := hW.2.2 (hL 9 (by omega))
    rw [← E0] at Z0
    have Z0' := Z0
    obtain ⟨β, hS, -, -⟩ := Z0'
    obtain ⟨am, cm, hv, -, -⟩ := hS.form
    have Z := hd Z0
    clear hW hV hL Z0 E0 hS
    simp only [slAE, DAE, List.getD_cons_zero, List.getD_cons_succ, List.map_cons, List.map_nil, puts, List.foldl_cons, List.foldl_nil, Act.put, List.setIfInBounds_toArray, List.set_cons_succ, List.set_cons_zero]
    generalize val 9 = v9 at *
    subst hv
    go_wp2_with fail
    go_meet
    exact ⟨am, cm, rfl, Z⟩
  case rest =>
    obtain ⟨am, cm, rfl, HRI⟩ := hcut
    obtain ⟨βm, hSm, hnm, hbm⟩ := HRI.out
    have HA4 := hd (HA3.out.below hbm)
    have HM4 := hd hSm
    have HNM : Hid (∀ k, βm = some k → w3.heap.size ≤ k ∧ k < wc.heap.size) := fun k hk => ⟨hnm k hk, hSm.lt k hk⟩
    have HS3 := hd hbm.size
    clear HCR HRI c0 c1 x0 x3 x7 hX1 hB1 hG1 hSm hnm hbm
    generalize wc = w4 at *
    obtain ⟨c0, c1⟩ := HA4.out.pk.heads
    have x3 := HA4.out.box 3
    simp at x3
    obtain ⟨hX1, hB1, hG1⟩ := HA4.out.size
    have HCR := hd (fun W (hW : Below w4.heap.size w4 W) => (at_any O r g Ns W (HA4.out.pk.b.below hW) (some ⟨gd, 0, none⟩) n cd xs ((room_isE HA4.out.rm HXN.out).below hW) hwf f).mono fun e w' h => (show ∃ v, e = .returned v ∧ RI w4 l v w' by
      obtain ⟨v, β, h1, h2, h3, h4⟩ := h
      have h2' : SF ic 1 w' 3 β v l := by rw [← HL.out]; exact h2
      exact ⟨v, h1, β, h2', fun k hk => Nat.le_trans hW.size (h3 k hk), hW.trans (h4.mono hW.size)⟩))
    go_upto_region 27 with fail
    go_cut [19] (fun v wx => ∃ am cm, v = .slice am l.length cm ∧ Hid (RI w4 l v wx))
    case first =>
      refine regAF _ w4 X off w.heap.size r q n c gd cd a id0 f t cc s (RI w4 l) hX1 hB1 x3 c0 HCR.out (by simp) rfl rfl rfl ?_
      intro L val u hL hW hV
      have Z0 := hW.2.1 (hL 7 (by omega))
      have E0 := hW.2.2 (hL 8 (by omega))
      rw [← E0] at Z0
      have Z0' := Z0
      obtain ⟨β, hS, -, -⟩ := Z0'
      obtain ⟨am, cm, hv, -, -⟩ := hS.form
      have Z := hd Z0
      clear hW hV hL Z0 E0 hS
      simp only [slAF, DAF, List.getD_cons_zero, List.getD_cons_succ, List.map_cons, List.map_nil, puts, List.foldl_cons, List.foldl_nil, Act.put, List.setIfInBounds_toArray, List.set_cons_succ, List.set_cons_zero]
      generalize val 8 = v9 at *
      subst hv
      go_wp2_with fail
      go_meet
      exact ⟨am, cm, rfl, Z⟩
    case rest =>
      obtain ⟨al, cl, rfl, HRI⟩ := hcut
      obtain ⟨βl, hSl, hnl, hbl⟩ := HRI.out
      have HA5 := hd (HA4.out.below hbl)
      have HM5 := hd (HM4.out.fr (S := fun _ => False) (Fr.of_below hbl) (fun _ _ h => h))
      have HL5 := hd hSl
      have HNL : Hid (∀ k, βl = some k → w4.heap.size ≤ k ∧ k < wc.heap.size) := fun k hk => ⟨hnl k hk, hSl.lt k hk⟩
      have HS4 := hd hbl.size
      clear HCR HRI c0 c1 x3 hX1 hB1 hG1 hSl hnl hbl HM4 HA4
      generalize wc = w5 at *
      obtain ⟨c0, c1⟩ := HA5.out.pk.heads
      have x3 := HA5.out.box 3
      simp at x3
      obtain ⟨hX1, hB1, hG1⟩ := HA5.out.size
      have HCR := hd (fun W (hW : Below w5.heap.size w5 W) => (at_any O r g Ns W (HA5.out.pk.b.below hW) (some ⟨gd, 0, none⟩) n cd xs ((room_isE HA5.out.rm HXN.out).below hW) hwf f).mono fun e w' h => (show ∃ v, e = .returned v ∧ RI w5 l v w' by
        obtain ⟨v, β, h1, h2, h3, h4⟩ := h
        have h2' : SF ic 1 w' 3 β v l := by rw [← HL.out]; exact h2
        exact ⟨v, h1, β, h2', fun k hk => Nat.le_trans hW.size (h3 k hk), hW.trans (h4.mono hW.size)⟩))
      go_upto_region 28 with fail
      go_cut [20] (fun v wx => ∃ am cm, v = .slice am l.length cm ∧ Hid (RI w5 l v wx))
      case first =>
        refine regAG _ w5 X off w.heap.size r q n c gd cd a id0 f t cc s (RI w5 l) hX1 hB1 x3 c0 HCR.out (by simp) rfl rfl rfl ?_
        intro L val u hL hW hV
        have Z0 := hW.2.1 (hL 7 (by omega))
        have E0 := hW.2.2 (hL 8 (by omega))
        rw [← E0] at Z0
        have Z0' := Z0
        obtain ⟨β, hS, -, -⟩ := Z0'
        obtain ⟨am, cm, hv, -, -⟩ := hS.form
        have Z := hd Z0
        clear hW hV hL Z0 E0 hS
        simp only [slAG, DAG, List.getD_cons_zero, List.getD_cons_succ, List.map_cons, List.map_nil, puts, List.foldl_cons, List.foldl_nil, Act.put, List.setIfInBounds_toArray, List.set_cons_succ, List.set_cons_zero]
        generalize val 8 = v9 at *
        subst hv
        go_wp2_with fail
        go_meet
        exact ⟨am, cm, rfl, Z⟩
      case rest =>
        obtain ⟨at', ct, rfl, HRI⟩ := hcut
        obtain ⟨βt, hSt, hnt, hbt⟩ := HRI.out
        have F6 : Fr (fun _ => False) w5 wc := Fr.of_below hbt
        have HA6 := hd (HA5.out.below hbt)
        have HM6 := hd (HM5.out.fr F6 (fun _ _ h => h))
        have HL6 := hd (HL5.out.fr F6 (fun _ _ h => h))
        have HT6 := hd hSt
        have HNT : Hid (∀ k, βt = some k → w5.heap.size ≤ k ∧ k < wc.heap.size) := fun k hk => ⟨hnt k hk, hSt.lt k hk⟩
        clear HCR HRI c0 c1 x3 hX1 hB1 hG1 hSt hnt hbt HM5 HL5 HA5 F6
        generalize wc = w6 at *
        have CE := hd (eqInts_true _ _ βl βm l w6 HL6.out HM6.out)
        go_upto_region 30 with (go_at_call 14; refine CE.out.mono ?_; rintro e w7 ⟨rfl, q7, rfl⟩)
        have D7 : Below w6.heap.size w6 (w6.drewN q7) := below_drewN (Below.refl _ _) q7
        have F7 : Fr (fun _ => False) w6 (w6.drewN q7) := Fr.of_below D7
        have HA7 := hd (HA6.out.below D7)
        have HM7 := hd (HM6.out.fr F7 (fun _ _ h => h))
        have HL7 := hd (HL6.out.fr F7 (fun _ _ h => h))
        have HT7 := hd (HT6.out.fr F7 (fun _ _ h => h))
        have hs7 : Hid (w6.heap.size ≤ (w6.drewN q7).heap.size) := D7.size
        clear CE D7 F7 HA6 HM6 HL6 HT6
        generalize w6.drewN q7 = w7 at *
        have hw3 := HA3.out.size
        have CI := hd (ints_any X off K1 m1 al l.length cl l βl w7 HA7.out.pk.p1 HL7.out (fun j hj hK => by
          have h1 := (HNL.out j hj).1
          have h2 := HS3.out
          have h3 := HA3.out.old j (.inr (.inr (.inl hK)))
          omega) (by have := HLL.out; omega) (by have := HM.out.1; omega))
        have HNLc : Hid (∀ j, βl = some j → w.heap.size < j ∧ j ≠ gd ∧ ¬ K1 j ∧ ¬ K2 j) := by
          intro j hj
          have h1 := (HNL.out j hj).1
          have h2 := HS3.out
          have h4 := HA3.out.gw
          exact ⟨by omega, by omega, fun hK => by have := HA3.out.old j (.inr (.inr (.inl hK))); omega, fun hK => by have := HA3.out.old j (.inr (.inr (.inr (.inl hK)))); omega⟩
        clear hw3
        go_upto_region 31 with (go_at_call 25; refine CI.out.mono ?_; rintro e w8 ⟨rfl, hO8⟩)
        obtain ⟨K8, hA8, hK8, hF8⟩ := HA7.out.ints hO8 HNLc.out
        have nm : ∀ j, βm = some j → ¬ (K1 j ∨ βl = some j ∨ j = X) := by
          intro j hj hb
          have h1 := HNM.out j hj
          rcases hb with h3 | h3 | h3
          · have := HA3.out.old j (.inr (.inr (.inl h3))); have := HA3.out.size; omega
          · have := HNL.out j h3; omega
          · have := HA3.out.size; omega
        have nt : ∀ j, βt = some j → ¬ (K1 j ∨ βl = some j ∨ j = X) := by
          intro j hj hb
          have h1 := HNT.out j hj
          have h2 := HS3.out
          have h2' := HS4.out
          rcases hb with h3 | h3 | h3
          · have := HA3.out.old j (.inr (.inr (.inl h3))); have := HA3.out.size; omega
          · have := HNL.out j h3; omega
          · have := HA3.out.size; omega
        have HA8 := hd hA8
        have HM8 := HM7.out.fr hF8 (fun j hj => nm j hj)
        have HT8 := HT7.out.fr hF8 (fun j hj => nt j hj)
        have CE := hd (eqInts_true _ _ βt βm l w8 HT8 HM8)
        have HT8 := hd HT8
        have NT8 : Hid (∀ j, βt = some j → w.heap.size < j ∧ j ≠ gd ∧ ¬ K8 j ∧ ¬ K2 j) := by
          intro j hj
          have h1 := HNT.out j hj
          have h2 := HS3.out
          have h2' := HS4.out
          have h4 := HA3.out.size
          have h5 := hs7.out
          refine ⟨by omega, by omega, fun hK => ?_, fun hK => by have := HA3.out.old j (.inr (.inr (.inr (.inl hK)))); omega⟩
          rcases hK8 j hK with h6 | h6 | h6
          · have := HA3.out.old j (.inr (.inr (.inl h6))); omega
          · have := HNL.out j h6; omega
          · omega
        clear CI HA7 HM7 HL7 HT7 hO8 hA8 hK8 hF8 nm nt HM8
        go_upto_region 32 with (go_at_call 14; refine CE.out.mono ?_; rintro e w9 ⟨rfl, q9, rfl⟩)
        have D9 : Below w8.heap.size w8 (w8.drewN q9) := below_drewN (Below.refl _ _) q9
        have HA9 := hd (HA8.out.below D9)
        have HT9 := hd (HT8.out.fr (S := fun _ => False) (Fr.of_below D9) (fun _ _ h => h))
        clear CE D9 HA8 HT8
        generalize w8.drewN q9 = w9 at *
        have CI := hd (ints_any X off K8 (m1 + 2) at' l.length ct l βt w9 HA9.out.pk.p1 HT9.out (fun j hj => (NT8.out j hj).2.2.1) (by have := HLL.out; omega) (by have := HM.out.1; omega))
        go_upto_region 33 with (go_at_call 25; refine CI.out.mono ?_; rintro e w10 ⟨rfl, hO10⟩)
        obtain ⟨K10, hA10, hK10, hF10⟩ := HA9.out.ints hO10 NT8.out
        have CK := hd (kept_any gd cd (n + 2) a n c xs w10 hA10.ie hn hA10.rm)
        have x7 := hA10.box 7
        simp at x7
        have Z := hd (fun wy hF => FIN.out w10 wy K10 K2 (m1 + 2 + 2) m2 _ gd cd hA10 (by have := HM.out.1; omega) (by have := HM.out.2; omega) hF)
        clear CI HA9 HT9 hO10 hA10 hK10 hF10 FIN
        go_wp2_with (go_at_call 26; refine CK.out.mono ?_; rintro e w11 ⟨rfl, hF11⟩)
        go_ret
        exact ⟨rfl, Z.out _ hF11⟩
end Go.Proofs.Ytkkklfnooeofcab
