/-
  The law Fresh, walked.
-/
import Derived.Test.YtlmgogonghafeabHj
import Derived.Test.YtlmgogonghafeabEa
namespace Go.Proofs.Ytlmgogonghafeab
open Go.RowKit Go.Lib
set_option linter.unusedVariables false

theorem IsE.frm2 {w w' : World} {a : Option Addr} {n c : Nat} {xs : List El} {Q : Nat → Prop} (h : IsE w a n c xs) (hF : Fr Q w w') (hQ : ∀ b off, a = some ⟨b, off, none⟩ → ¬ Q b) : IsE w' a n c xs := by
  obtain ⟨h1, h2, h3, h4⟩ := h
  refine ⟨h1, h2, h3, fun h0 => ?_⟩
  obtain ⟨b, off, e, hb, hc⟩ := h4 h0
  refine ⟨b, off, e, Nat.lt_of_lt_of_le hb hF.size, fun j v hj => ?_⟩
  rw [hF.cell (p := ⟨b, off + j, none⟩) hb (hQ b off e)]
  exact hc j v hj
theorem one_str (w : World) (q : Int) (h0 : 0 ≤ q) (h1 : q ≤ 255) : (convert 35 9 (.slice (some ⟨w.heap.size, 0, none⟩) 1 1)).run Try.prog (World.drew (w.alloc (.cells #[.int .u8 q] 5))) = .ok (.string (bsA [UInt8.ofNat q.toNat])) (w.alloc (.cells #[.int .u8 q] 5)).drew := by
  refine run_str _ w.heap.size 0 1 1 [UInt8.ofNat q.toNat] rfl (fun j hj => ?_)
  rw [Nat.zero_add, cell_row (w := World.drew _) (heap_alloc_new w _)]
  match j, hj with
  | 0, _ =>
    have : (((UInt8.ofNat q.toNat).toNat : Nat) : Int) = q := by
      rw [UInt8.toNat_ofNat']
      omega
    show some (Value.int .u8 q) = some (Value.int .u8 (((UInt8.ofNat q.toNat).toNat : Nat) : Int))
    rw [this]
theorem fits_ins (n : Nat) (q : Int) (hn : n ≤ 300) (h0 : 32 ≤ q) (h1 : q ≤ 126) : fitsP (n : Int) ⟨1, (n : Int), q, 1, 1⟩ = 0 := by
  have e1 : decide (32 ≤ q) = true := by simpa using h0
  have e2 : decide (q ≤ 126) = true := by simpa using h1
  have hv : validP ⟨1, (n : Int), q, 1, 1⟩ = 0 := by
    unfold validP holdP pointP inR
    simp
    omega
  unfold fitsP inR
  rw [if_neg (by rw [hv]; simp)]
  simp
  omega
theorem fits_del (n : Nat) (hn : n ≤ 301) (h0 : 1 ≤ n) : fitsP (n : Int) ⟨2, 0, 0, 1, 2⟩ = 0 := by
  have hv : validP ⟨2, 0, 0, 1, 2⟩ = 0 := by decide
  unfold fitsP inR
  rw [if_neg (by rw [hv]; simp)]
  simp
  omega
theorem apT_one (T : By) (n : Nat) (q : Int) (hn : T.length = n) : (apT T ⟨1, (n : Int), q, 1, 1⟩).length = n + 1 := by
  unfold apT
  simp only []
  rw [if_pos trivial, List.length_append, List.length_take, List.length_cons, List.length_drop]
  omega

set_option maxRecDepth 100000 in
set_option maxHeartbeats 16000000 in
theorem fresh_law (t : ByteArray) (c : Int) (w : World) (ht : t.size ≤ 140737488351232) (h0 : 0 ≤ c) (h1 : c ≤ 255) :
    Calls Try.prog 3 #[.string t, .int .u8 c] w fun e w' => e = .returned (.bool true) ∧ Below w.heap.size w w' := by
  obtain ⟨SS, hSS⟩ : ∃ SS, (⟨#[97, 98, 32, 97, 98, 32]⟩ : ByteArray) ++ t = SS := ⟨_, rfl⟩
  have hSd : SS.data.toList = [97, 98, 32, 97, 98, 32] ++ t.data.toList := by rw [← hSS, ByteArray.data_append, Array.toList_append]
  have hSz : SS.size = 6 + t.size := by
    have a1 : SS.data.toList.length = SS.size := by simp
    have a2 : t.data.toList.length = t.size := by simp
    rw [hSd, List.length_append, a2] at a1
    exact a1.symm
  have CE := hd (elems_any SS 300 w (by omega) (by omega))
  obtain ⟨N, hN⟩ : ∃ N, min SS.size 300 = N := ⟨_, rfl⟩
  have HN : Hid (6 ≤ N ∧ N ≤ 300) := by constructor <;> omega
  rw [hN, show ((300 : Nat) : Int) = 300 from rfl] at CE
  have HLN := hd (elS_len SS.data.toList N)
  obtain ⟨xs, hxs⟩ : ∃ xs, elS SS.data.toList N = xs := ⟨_, rfl⟩
  obtain ⟨T, hT⟩ : ∃ T, tB xs = T := ⟨_, rfl⟩
  have HF : Hid (FT T) := by
    refine ⟨t.data.toList.take (N - 6), ?_⟩
    have a1 : SS.data.toList.length = SS.size := by simp
    have a2 : N ≤ SS.data.toList.length := by omega
    rw [← hT, ← hxs, tB_elS _ _ a2, hSd]
    clear a1 a2
    obtain ⟨k, hk⟩ : ∃ k, N = 6 + k := ⟨N - 6, by have := HN.out; omega⟩
    subst hk
    rw [show 6 + k - 6 = k by omega, show 6 + k = ([97, 98, 32, 97, 98, 32] : By).length + k from rfl, List.take_length_add_append]
    rfl
  rw [hxs] at CE HLN
  have HTl : Hid (T.length = N) := by show _ = _; rw [← hT]; simp [tB]; exact HLN.out
  have HT := hd hT
  clear hxs hT hN hSd
  go_enter Try.func3, Try.ntmps3
  go_upto_region 2 with (go_at_call 5; refine CE.out.mono ?_; rintro e w1 ⟨v, rfl, hX⟩)
  obtain ⟨g, c2, w2, hr, hg, hgl, hS, hc2, hc3, b2⟩ := run_room w w1 v xs N hX HLN.out HN.out.2
  obtain ⟨a, cc, rfl, -, -⟩ := hX.isE
  rw [HLN.out] at hr ⊢
  obtain ⟨N2, hN2⟩ : ∃ N2, N + 2 = N2 := ⟨_, rfl⟩
  obtain ⟨ys, hys⟩ : ∃ ys, xs ++ [((82 : Int), ((1 : Int), (9 : Int))), (83, 1, 9)] = ys := ⟨_, rfl⟩
  rw [hN2] at hr hS hc2
  rw [hys] at hS
  have HYL : Hid (ys.length = N2) := by show _ = _; rw [← hys, List.length_append, HLN.out, ← hN2]; rfl
  have HYT : Hid (ys.take N = xs) := by show _ = _; rw [← hys, ← HLN.out, List.take_left]
  have HN2 := hd hN2
  have hE2 : IsE w2 (some ⟨g, 0, none⟩) N2 c2 ys := by
    obtain ⟨a', c', hv, hE, -⟩ := (sf_se hS).form
    obtain ⟨rfl, -, rfl⟩ := Value.slice.inj hv
    rw [HYL.out] at hE
    exact hE
  have hE2m : IsE w2 (some ⟨g, 0, none⟩) N c2 xs := by
    have := hE2.take N (by omega)
    rw [HYT.out] at this
    exact this
  obtain ⟨M, cM, w3, hr3, hM, hSK, hEK, b3⟩ := run_copied2 w2 (some ⟨g, 0, none⟩) N2 c2 ys hE2 (by have := HN.out; omega)
  have HG := hd hg
  have HGL := hd hgl
  have HM := hd hM
  have B2 := hd b2
  have B3 := hd (b2.trans (b3.mono b2.size))
  have D3 := hd b3
  have S3 := hd (hS.fr (S := fun _ => False) (Fr.of_below b3) (fun _ _ h => h))
  have E3 := hd (hE2.below b3)
  have E3m := hd (hE2m.below b3)
  have K3 := hd hEK
  have CT := text_any (some ⟨g, 0, none⟩) N c2 xs w3 (hE2m.below b3) (by have := HN.out; omega)
  rw [bstr_tB, HT.out] at CT
  have CT := hd CT
  have i1 : (N : Int) ≤ (c2 : Int) := by omega
  have i2 : (0 : Int) ≤ (N : Int) := by omega
  have i3 : N ≤ c2 := by omega
  clear hX hS hE2 hE2m hSK hEK b2 b3 hys hg hgl hM hc2 CE
  go_upto_region 5 with (at_builtin; refine wpList_append_k _ rfl _ _ 22 22 rfl _ _ rfl rfl (hr _) ?_)
  go_upto_region 6 with (at_builtin; refine wpList_append_k _ rfl _ _ 22 22 rfl _ _ rfl rfl (hr3 _) ?_)
  clear hr hr3
  go_upto_region 7 with (go_at_call 6; refine CT.out.mono ?_; rintro e w4 ⟨rfl, hb4⟩)
  have D4 := hd (D3.out.trans (hb4.mono D3.out.size))
  have F4 := hd hb4
  have D4' := hd (D3.out.trans (hb4.mono D3.out.size))
  clear hb4 CT D3
  have CNx := hd (new_own (some ⟨g, 0, none⟩) N c2 xs w4 (E3m.out.below F4.out) (by have := HN.out; omega))
  have CNy := hd (fun W (hW : Below w3.heap.size w3 W) => new_own (some ⟨g, 0, none⟩) N c2 xs W (E3m.out.below hW) (by have := HN.out; omega))
  rw [HT.out] at CNx CNy
  go_upto_region 8 with (go_at_call 7; refine CNx.out.mono ?_; rintro e w5 ⟨x, rfl, hIx, hx, hb5⟩)
  have D5 := hd (D4.out.trans (hb5.mono D4.out.size))
  have F5 := hd (F4.out.trans (hb5.mono F4.out.size))
  have G5 := hd hb5
  have HX := hd hIx
  clear hIx hx hb5 CNx D4
  go_upto_region 9 with (go_at_call 7; refine (CNy.out _ F5.out).mono ?_; rintro e w6 ⟨y, rfl, hIy, hy, hb6⟩)
  have D6 := hd (D5.out.trans (hb6.mono D5.out.size))
  have F6 := hd (F5.out.trans (hb6.mono F5.out.size))
  have G6 := hd (G5.out.trans (hb6.mono G5.out.size))
  have HX6 := hd (HX.out.below hb6)
  have HY6 := hd hIy
  clear hIy hy hb6 CNy D5 F5 HX E3m
  go_upto_region 11 with fail
  obtain ⟨q, hq⟩ : ∃ q, 32 + c % 95 = q := ⟨_, rfl⟩
  have hq0 : 32 ≤ q ∧ q ≤ 126 := by omega
  have HQ := hd hq
  obtain ⟨T1, hT1⟩ : ∃ T1, apT T ⟨1, (N : Int), q, 1, 1⟩ = T1 := ⟨_, rfl⟩
  have HT1 : Hid (T1.length = N + 1) := by show _ = _; rw [← hT1]; exact apT_one T N q HTl.out
  obtain ⟨T2, hT2⟩ : ∃ T2, apT T1 ⟨2, 0, 0, 1, 2⟩ = T2 := ⟨_, rfl⟩
  have HT2 : Hid (T2 = T.drop 1 ++ [UInt8.ofNat q.toNat]) := by
    show _ = _
    rw [← hT2, ← hT1]
    exact apT_two T N q HTl.out (by have := HN.out; omega)
  have CA1 := iapply_good x _ T 1 (N : Int) q 1 1 w6 HX6.out (by omega) (by omega) (by rw [HTl.out]; exact fits_ins N q HN.out.2 hq0.1 hq0.2)
  rw [hT1] at CA1
  have CA2 := hd (fun W O (hI : IM W O x T1) => iapply_good x O T1 2 0 0 1 2 W hI (by omega) (by omega) (by rw [HT1.out]; exact fits_del (N + 1) (by have := HN.out; omega) (by omega)))
  simp only [hT2] at CA2
  have CA1 := hd CA1
  clear hT1 hT2 HX6
  go_upto_region 12 with (go_at_call 8; refine CA1.out.mono ?_; rintro e w7 ⟨rfl, hA1⟩)
  obtain ⟨hI7, hF7⟩ := hA1
  have HI7 := hd hI7
  have HF7 := hd hF7
  clear hI7 hF7 CA1
  go_upto_region 13 with (go_at_call 8; refine (CA2.out _ _ HI7.out).mono ?_; rintro e w8 ⟨rfl, hI8, hF8⟩)
  have z6 := G6.out.size
  have z7 := HF7.out.size
  have HX8 : Hid (IM w8 (fun k => w4.heap.size ≤ k) x T2) := hI8.more (fun k _ h => by omega)
  have z5 : w4.heap.size ≤ w5.heap.size := G5.out.size
  have HY8 : Hid (IM w8 (fun k => w4.heap.size ≤ k) y T) := ((HY6.out.fr HF7.out (fun k hk h => by omega)).fr hF8 (fun k hk h => by omega)).more (fun k _ h => by omega)
  have G8 : Hid (Below w4.heap.size w4 w8) := (G6.out.trans (HF7.out.below z6 (fun k h => h.1.1))).trans (hF8.below (Nat.le_trans z6 z7) (fun k h => by omega))
  clear hI8 hF8 z6 z7 z5 HI7 HF7 CA2 HY6 G5 G6 F6 D6
  have SR := hd ((S3.out.fr (S := fun _ => False) (Fr.of_below F4.out) (fun _ _ h => h)).fr (S := fun _ => False) (Fr.of_below (G8.out)) (fun _ _ h => h))
  have KR := hd ((K3.out.below F4.out).below G8.out)
  have CEq := hd (equal_same (some ⟨g, 0, none⟩) (some ⟨M, 0, none⟩) N2 c2 cM ys w8 ((E3.out.below F4.out).below G8.out) KR.out)
  have CY := hd (fun W (hW : Below w8.heap.size w8 W) => itext_any y T W (HY8.out.ix.below hW) (by have := HTl.out; have := HN.out; omega))
  have g4 : Hid (g < w4.heap.size) := Nat.lt_of_lt_of_le HGL.out D4'.out.size
  clear S3 K3 E3
  go_wp2_with (first
    | (go_at_call 9; refine CEq.out.mono ?_; rintro e w9 ⟨rfl, hb9⟩)
    | (go_at_call 10; refine (CY.out _ hb9).mono ?_; rintro e w10 ⟨rfl, hb10⟩))
  have H10 := hd (hb9.trans (hb10.mono hb9.size))
  have M0 : Hid (MkI 87 w10 w10 g N2 c2 ys 0) := ⟨by rw [mkE_zero]; exact SR.out.fr (S := fun _ => False) (Fr.of_below H10.out) (fun _ _ h => h), Fr.refl _ _⟩
  clear hb9 hb10 CEq CY SR
  go_loopw [15] (fun iv wr => ∃ k : Nat, iv = .int .i64 k ∧ k ≤ N2 ∧ Hid (MkI 87 w10 wr g N2 c2 ys k)) (fun iv _ => N2 - (intOf iv).toNat)
  case atStart => exact ⟨0, rfl, Nat.zero_le _, M0⟩
  case round =>
    obtain ⟨k, rfl, hk, hS⟩ := hrel
    clear M0
    by_cases hlt : k < N2
    · obtain ⟨⟨v0, f0⟩, f1, st⟩ := hS.out.step (by rw [HYL.out]; exact hlt)
      have ST := hd st
      have i4 : (k : Int) < (N2 : Int) := by omega
      have i5 : N2 ≤ 302 := by have := HN.out; omega
      clear hS st
      go_wp2
      exact ⟨⟨k + 1, by go_num, by omega, ST.out⟩, by simp only [intOf]; omega⟩
    · obtain rfl : N2 = k := by omega
      have hF := hS.out.2
      clear i1 i2 i3 hk hlt hN2 hc3
      have G10 := hd (G8.out.trans (H10.out.mono G8.out.size))
      have HO : Hid (∀ k, w4.heap.size ≤ k → ¬ k = g) := fun k hk e => by have := g4.out; omega
      have HX := hd ((HX8.out.below H10.out).fr hF HO.out).ix
      have HY := hd ((HY8.out.below H10.out).fr hF HO.out).ix
      have KR2 := hd ((KR.out.below H10.out).frm2 hF (fun b off e h => by
        have := HM.out
        have := HGL.out
        injection e with e
        injection e with e1 e2
        omega))
      have b4 : Below w.heap.size w w4 := B3.out.trans (F4.out.mono B3.out.size)
      have b10 : Below w.heap.size w w10 := b4.trans (G10.out.mono b4.size)
      have BR := hd (b10.trans (hF.below b10.size (fun j hj => by rw [hj]; exact HG.out)))
      clear hS hF b4 b10 G10 HX8 HY8 H10 KR HO g4 G8 F4 B3 B2 HM HG HGL HYL
      obtain ⟨TT, hTT⟩ : ∃ TT, bsA T = TT := ⟨_, rfl⟩
      obtain ⟨NOW, hNOW⟩ : ∃ NOW, bsA T2 = NOW := ⟨_, rfl⟩
      obtain ⟨OB, hOB⟩ : ∃ OB, bsA [UInt8.ofNat q.toNat] = OB := ⟨_, rfl⟩
      have hTs : TT.size = N := by rw [← hTT, bsA_size]; exact HTl.out
      have hnow : TT.extract 1 N ++ OB = NOW := by
        rw [← hTT, ← hOB, ← hNOW, HT2.out]
        exact now_str T N _ HTl.out (by have := HN.out; omega)
      have hwq : IntKind.u8.wrap (32 + c.tmod 95) = q := by
        rw [Int.tmod_eq_emod_of_nonneg h0, hq, IntKind.wrap_u8]
        omega
      have hcv := one_str wr q (by omega) (by omega)
      rw [hOB] at hcv
      have CX := hd (fun W (hW : Below wr.heap.size wr W) => itext_any x T2 W (HX.out.below hW) (by
        have h1 := HTl.out
        have h2 := HN.out
        rw [HT2.out, List.length_append, List.length_drop]
        simp
        omega))
      have CYt := hd (fun W (hW : Below wr.heap.size wr W) => itext_any y T W (HY.out.below hW) (by have := HTl.out; have := HN.out; omega))
      simp only [hNOW] at CX
      simp only [hTT] at CYt ⊢
      have hN1 : 1 ≤ N := by have := HN.out; omega
      have hN1i : (1 : Int) ≤ (N : Int) := by omega
      have hcc : ¬ 9223372036854775807 < N - 1 + OB.size := by
        have h1 : OB.size = 1 := by rw [← hOB, bsA_size]; rfl
        have h2 := HN.out
        omega
      clear hOB hTT hNOW
      go_upto_region 19 with fail
      clear hSS hSz ht
      go_region_law (fail)
      clear hcv hwq hcc hTs hN1i
      have HB : Hid (Below wr.heap.size wr (World.drew (wr.alloc (.cells #[.int .u8 q] 5)))) := below_drewN ((Below.refl _ _).alloc (Nat.le_refl _) _) 1
      generalize World.drew (wr.alloc (.cells #[.int .u8 q] 5)) = wn at *
      clear hq hnow
      go_upto_region 22 with (first
        | (go_at_call 10; refine (CX.out _ HB.out).mono ?_; rintro e wq ⟨rfl, hq⟩; replace HB := hd (HB.out.trans (hq.mono HB.out.size)); clear hq)
        | (go_at_call 10; refine (CYt.out _ HB.out).mono ?_; rintro e w12 ⟨rfl, hq⟩; replace HB := hd (HB.out.trans (hq.mono HB.out.size)); clear hq))
      have PAB : Hid (patB (⟨#[97, 98]⟩ : ByteArray).data.toList = true) := by show _ = _; decide
      have PC : Hid (fillB (⟨#[99]⟩ : ByteArray).data.toList = true) := by show _ = _; decide
      have HY2 := hd (HY.out.below HB.out)
      have B12 := hd (BR.out.trans (HB.out.mono BR.out.size))
      have CXf := hd (fun W (hW : Below w12.heap.size w12 W) => CX.out W (HB.out.trans (hW.mono HB.out.size)))
      have KM : Hid (IsE w12 (some ⟨M, 0, none⟩) N cM xs) := by
        have := (KR2.out.below HB.out).take N (by have := HN2.out; omega)
        rw [HYT.out] at this
        exact this
      have hN23 : N ≤ cM := Nat.le_trans (by have := HN2.out; omega) KR2.out.2.1
      have hcM3 : cM ≤ 9223372036854775807 := KR2.out.2.2.1
      have HCM : Hid (N ≤ N2 ∧ N2 ≤ cM ∧ cM ≤ 9223372036854775807) := ⟨by have := HN2.out; omega, KR2.out.2.1, hcM3⟩
      have CTw := hd (fun W (hW : Below w12.heap.size w12 W) => twice_any (some ⟨M, 0, none⟩) N cM xs W (KM.out.below hW) (by have := HN.out; omega) (by have := HN.out; omega) (by rw [HT.out]; exact HF.out.k N))
      have CF := hd (fun W (hW : Below w12.heap.size w12 W) => find_good y T ⟨#[97, 98]⟩ W (HY2.out.below hW) (by have := HTl.out; have := HN.out; omega) PAB.out)
      have CW := hd (fun W (hW : Below w12.heap.size w12 W) => words_any y T W (HY2.out.below hW) (by have := HTl.out; have := HN.out; omega))
      have CS := hd (fun W (hW : Below w12.heap.size w12 W) => (swap_good y T ⟨#[97, 98]⟩ ⟨#[99]⟩ 1 1 W (HY2.out.below hW) (by have := HTl.out; have := HN.out; omega) PAB.out PC.out (by omega)).mono fun e w' h => h.ll)
      have hsw := HF.out.sw (b := (⟨#[99]⟩ : ByteArray).data.toList) (cl := 1) (fs := 1)
      obtain ⟨PL, hPL⟩ : ∃ PL, swL T (⟨#[97, 98]⟩ : ByteArray).data.toList (⟨#[99]⟩ : ByteArray).data.toList 1 1 = PL := ⟨_, rfl⟩
      obtain ⟨ge, hge⟩ : ∃ ge, swE T (⟨#[97, 98]⟩ : ByteArray).data.toList (⟨#[99]⟩ : ByteArray).data.toList 1 1 = ge := ⟨_, rfl⟩
      have HPL : Hid (PL.length ≤ 1000) := by show _ ≤ _; rw [← hPL]; exact swL_le _ _ _ _
      simp only [hPL, hge] at CS hsw
      obtain ⟨np, hnp⟩ : ∃ np, PL.length = np := ⟨_, rfl⟩
      obtain ⟨LA, hLA⟩ : ∃ LA, plc T (⟨#[97, 98]⟩ : ByteArray).data.toList = LA := ⟨_, rfl⟩
      have hla := HF.out.two
      rw [hLA] at CF hla
      obtain ⟨nl, hnl⟩ : ∃ nl, LA.length = nl := ⟨_, rfl⟩
      have HLA : Hid (nl ≤ 1000) := by
        have := fnd_len (T := T) (p := (⟨#[97, 98]⟩ : ByteArray).data.toList) (s0 := 0) (t := T.length) (by decide)
        have h3 := HTl.out
        have h4 := HN.out
        show _ ≤ _
        rw [← hnl, ← hLA]
        unfold plc
        omega
      have HNL := hd hnl
      have HNP := hd hnp
      have HSW := hd hsw
      have HL2 := hd hla
      clear hPL hge hnp hLA hnl hsw hla hN23 hcM3 HY HX CX CYt BR HY2 KR2 HYT KM HT HB PAB PC HT1 HT2 HQ
      go_upto_region 23 with (go_at_call 11; refine (CF.out _ (Below.refl _ _)).mono ?_; rintro e w13 ⟨vl, rfl, hN, hb⟩)
      obtain ⟨βl, al, cl, rfl, hS, hβ, hL⟩ := hN.ll
      rw [HNL.out] at hS hL ⊢
      have E13 := hd hb
      have L1 := hd ((LLs.nil : LLs ei 1 3 w12.heap.size w12 []).push hb (Nat.le_refl _) hS hβ)
      have Il := hd hL
      clear hN hb hS hβ hL
      go_upto_region 24 with (go_at_call 11; refine (CF.out _ E13.out).mono ?_; rintro e w14 ⟨vm, rfl, hN, hb⟩)
      obtain ⟨βm, am, cm, rfl, hS, hβ, hL⟩ := hN.ll
      rw [HNL.out] at hS hL ⊢
      have E14 := hd (E13.out.trans (hb.mono E13.out.size))
      have L2 := hd (L1.out.push hb E13.out.size hS hβ)
      have Il := hd (Il.out.below hb)
      have Im := hd hL
      clear hN hb hS hβ hL L1 E13
      go_upto_region 25 with (go_at_call 12; refine (CS.out _ E14.out).mono ?_; rintro e w15 ⟨βp, ap, cp, rfl, hS, hβ, hb⟩)
      rw [HNP.out] at hS ⊢
      have E15 := hd (E14.out.trans (hb.mono E14.out.size))
      have O1 := hd ((LLs.nil : LLs opc 5 32 w12.heap.size w14 []).push hb E14.out.size hS hβ)
      have L2 := hd (L2.out.below hb)
      have Il := hd (Il.out.below hb)
      have Im := hd (Im.out.below hb)
      clear hb hS hβ CS E14
      go_upto_region 26 with (go_at_call 13; refine (CW.out _ E15.out).mono ?_; rintro e w16 ⟨vw, vc, ks, rfl, hWd, hSt, hN, hb⟩)
      obtain ⟨βw, aw, cw, rfl, hS2, hβ2, hL2⟩ := hSt.ll
      obtain ⟨βc, ac, c3, rfl, hS, hβ, hL⟩ := hN.ll
      rw [List.length_map] at hS hL hS2 hL2
      simp only [List.length_map]
      have E16 := hd (E15.out.trans (hb.mono E15.out.size))
      have L3 := hd (L2.out.push hb E15.out.size hS hβ)
      have S1 := hd ((LLs.nil : LLs eSt 1 9 w12.heap.size w15 []).push hb E15.out.size hS2 hβ2)
      have O1 := hd (O1.out.below hb)
      have HKS : Hid (ks.length ≤ 1000) := by
        have h1 := wds_len hWd
        have h2 := HTl.out
        have h3 := HN.out
        show _ ≤ _
        omega
      have HK1 := hd (HF.out.ks hWd)
      have WD := hd hWd
      have Iw := hd hL2
      have Ic := hd hL
      have Il := hd (Il.out.below hb)
      have Im := hd (Im.out.below hb)
      clear hN hb hS hβ hL hS2 hβ2 hL2 hSt hWd L2 E15
      go_upto_region 27 with (go_at_call 13; refine (CW.out _ E16.out).mono ?_; rintro e w17 ⟨vv, vb, ks2, rfl, hWd, hSt, hN, hb⟩)
      obtain rfl : ks = ks2 := wds_one WD.out hWd
      obtain ⟨βv, av, cv, rfl, hS2, hβ2, hL2⟩ := hSt.ll
      obtain ⟨βb, ab, cb, rfl, hS, hβ, hL⟩ := hN.ll
      rw [List.length_map] at hS hL hS2 hL2
      simp only [List.length_map]
      have E17 := hd (E16.out.trans (hb.mono E16.out.size))
      have L4 := hd (L3.out.push hb E16.out.size hS hβ)
      have S2 := hd (S1.out.push hb E16.out.size hS2 hβ2)
      have O2 := hd (O1.out.below hb)
      have Iw := hd (Iw.out.below hb)
      have Ic := hd (Ic.out.below hb)
      have Il := hd (Il.out.below hb)
      have Im := hd (Im.out.below hb)
      have Iv := hd hL2
      have Ib := hd hL
      have CW2 : Hid (∀ W, Below w12.heap.size w12 W → Calls Try.prog 13 #[.pointer (some ⟨y, 0, none⟩)] W fun e w' => ∃ v1 v2, e = .returned (.tuple #[v1, v2]) ∧ StI W w' v1 (ks.map bsA) ∧ IsN W w' v2 (ks.map (fun k => (wdP T).count k)) ∧ Below W.heap.size W w') := by
        intro W hW
        refine (CW.out W hW).mono ?_
        rintro e w' ⟨v1, v2, k2, he, hw2, h3, h4, h5⟩
        obtain rfl : ks = k2 := wds_one WD.out hw2
        exact ⟨v1, v2, he, h3, h4, h5⟩
      clear hN hb hS hβ hL hS2 hβ2 hL2 hSt hWd L3 S1 E16 CW O1 WD
      obtain ⟨KC, hKC⟩ : ∃ KC, ks.map (fun k => (wdP T).count k) = KC := ⟨_, rfl⟩
      obtain ⟨KW, hKW⟩ : ∃ KW, ks.map bsA = KW := ⟨_, rfl⟩
      obtain ⟨m, hm⟩ : ∃ m, ks.length = m := ⟨_, rfl⟩
      have HLAn := hd HNL.out
      have HKC : Hid (KC.length = m) := by show _ = _; rw [← hKC, List.length_map]; exact hm
      have HKW : Hid (KW.length = m) := by show _ = _; rw [← hKW, List.length_map]; exact hm
      have HKCn := hd HKC.out
      have HKWn := hd HKW.out
      simp only [hKC, hKW, hm] at L4 S2 Iw Ic Iv Ib CW2 HKS HK1 ⊢
      clear hKC hKW hm
      have C1 := hd (ints_below al am nl cl cm LA w17 Il.out Im.out)
      have C2 := hd (fun W (hW : Below w17.heap.size w17 W) => words_below aw av m cw cv KW W (Iw.out.below hW) (Iv.out.below hW))
      have C3 := hd (fun W (hW : Below w17.heap.size w17 W) => ints_below ac ab m c3 cb KC W (Ic.out.below hW) (Ib.out.below hW))
      have i1 : ¬ (nl : Int) < 2 := by have := HL2.out; have := HNL.out; omega
      have i2 : ¬ (m : Int) < 1 := by have := HK1.out; omega
      have i3 : 1 ≤ (m : Int) := by have := HK1.out; omega
      have hfin : (!(ge == 0) == decide (0 < np)) = false := by
        rcases HSW.out with ⟨z1, z2⟩ | ⟨z1, z2⟩
        · rw [z1, decide_eq_true (by have := HNP.out; omega)]
          rfl
        · rw [decide_eq_false (by have := HNP.out; omega), beq_eq_false_iff_ne.2 z1]
          rfl
      clear Iw Ic Il
      go_upto_region 29 with (first
        | (go_at_call 14; refine C1.out.mono ?_; rintro e wa ⟨rfl, ha⟩; clear C1)
        | (go_at_call 15; refine (C2.out _ ha).mono ?_; rintro e wb ⟨rfl, hb⟩; replace ha := ha.trans (hb.mono ha.size); clear hb C2)
        | (go_at_call 14; refine (C3.out _ ha).mono ?_; rintro e w18 ⟨rfl, hb⟩; replace ha := ha.trans (hb.mono ha.size); clear hb C3))
      have E18 := hd (E17.out.trans (ha.mono E17.out.size))
      have L5 := L4.out.below ha
      have S3 := S2.out.below ha
      have O3 := O2.out.below ha
      simp only [List.nil_append, List.cons_append] at L5 S3 O3
      have Q0 : Hid (QS βl βw βc βp ⟨al, nl, cl⟩ ⟨aw, m, cw⟩ ⟨ac, m, c3⟩ ⟨ap, np, cp⟩ w18 w18 (mkG (fun _ => -7) (nI LA) 0) KW (nI KC) PL) := by
        rw [mkG_zero]
        exact ⟨L5.sf _ List.mem_cons_self, S3.sf _ List.mem_cons_self, L5.sf _ (List.mem_cons_of_mem _ (List.mem_cons_of_mem _ List.mem_cons_self)), O3.sf _ List.mem_cons_self, Fr.refl _ _, fun g h => (List.pairwise_cons.1 L5.pw).1 _ (List.mem_cons_of_mem _ List.mem_cons_self) g h⟩
      have HLO : Hid (∀ g, (βl = some g ∨ βw = some g ∨ βc = some g ∨ βp = some g) → w12.heap.size ≤ g) := by
        intro g h
        rcases h with h | h | h | h
        · exact L5.lo _ List.mem_cons_self g h
        · exact S3.lo _ List.mem_cons_self g h
        · exact L5.lo _ (List.mem_cons_of_mem _ (List.mem_cons_of_mem _ List.mem_cons_self)) g h
        · exact O3.lo _ List.mem_cons_self g h
      obtain ⟨pw1, pw2⟩ := List.pairwise_cons.1 L5.pw
      obtain ⟨pw3, pw4⟩ := List.pairwise_cons.1 pw2
      obtain ⟨pw5, -⟩ := List.pairwise_cons.1 pw4
      have s1 := L5.sf _ (List.mem_cons_of_mem _ List.mem_cons_self)
      have s2 := L5.sf _ (List.mem_cons_of_mem _ (List.mem_cons_of_mem _ (List.mem_cons_of_mem _ List.mem_cons_self)))
      have s3 := S3.sf _ (List.mem_cons_of_mem _ List.mem_cons_self)
      have HIm : Hid (∀ W', Fr (fun g => βl = some g ∨ βw = some g ∨ βc = some g ∨ βp = some g) w18 W' → IsL W' am nl cm LA) := fun W' hF => SF.isL (s1.fr hF (fun g hg h => by
        rcases h with h | h | h | h
        · exact pw1 _ List.mem_cons_self g h hg
        · exact s1.apart (S3.sf _ List.mem_cons_self) (by decide) g hg h
        · exact pw3 _ List.mem_cons_self g hg h
        · exact s1.apart (O3.sf _ List.mem_cons_self) (by decide) g hg h))
      have HIb : Hid (∀ W', Fr (fun g => βl = some g ∨ βw = some g ∨ βc = some g ∨ βp = some g) w18 W' → IsL W' ab m cb KC) := fun W' hF => SF.isL (s2.fr hF (fun g hg h => by
        rcases h with h | h | h | h
        · exact pw1 _ (List.mem_cons_of_mem _ (List.mem_cons_of_mem _ List.mem_cons_self)) g h hg
        · exact s2.apart (S3.sf _ List.mem_cons_self) (by decide) g hg h
        · exact pw5 _ List.mem_cons_self g h hg
        · exact s2.apart (O3.sf _ List.mem_cons_self) (by decide) g hg h))
      have HIv : Hid (∀ W', Fr (fun g => βl = some g ∨ βw = some g ∨ βc = some g ∨ βp = some g) w18 W' → IsW W' av m cv KW) := fun W' hF => SF.isW (s3.fr hF (fun g hg h => by
        rcases h with h | h | h | h
        · exact s3.apart (L5.sf _ List.mem_cons_self) (by decide) g hg h
        · exact (List.pairwise_cons.1 S3.pw).1 _ List.mem_cons_self g h hg
        · exact s3.apart (L5.sf _ (List.mem_cons_of_mem _ (List.mem_cons_of_mem _ List.mem_cons_self))) (by decide) g hg h
        · exact s3.apart (O3.sf _ List.mem_cons_self) (by decide) g hg h))
      clear pw1 pw2 pw3 pw4 pw5 s1 s2 s3 Im Iv Ib
      have HLn : Hid ((nI LA).length = nl) := by show _ = _; rw [← HNL.out]; simp [nI]
      have HCn : Hid ((nI KC).length = m) := by show _ = _; rw [← HKC.out]; simp [nI]
      clear L5 S3 O3 L4 S2 O2 E17 ha i1 i2 i3 hfin HSW HL2 HKC HNL
      go_wp2
      go_loopw [25] (fun iv wr => ∃ k : Nat, iv = .int .i64 k ∧ k ≤ nl ∧ Hid (QS βl βw βc βp ⟨al, nl, cl⟩ ⟨aw, m, cw⟩ ⟨ac, m, c3⟩ ⟨ap, np, cp⟩ w18 wr (mkG (fun _ => -7) (nI LA) k) KW (nI KC) PL)) (fun iv _ => nl - (intOf iv).toNat)
      case atStart => exact ⟨0, rfl, Nat.zero_le _, Q0⟩
      case round =>
        obtain ⟨k, rfl, hk, hS⟩ := hrel
        clear Q0
        by_cases hlt : k < nl
        · obtain ⟨gl, hga, ⟨v0, c0⟩, f0, st⟩ := hS.out.stepl (by rw [HLn.out]; exact hlt)
          have hga : al = some ⟨gl, 0, none⟩ := hga
          subst hga
          have ST := hd st
          have j1 : (k : Int) < (nl : Int) := by omega
          have j2 : nl ≤ 1000 := HLA.out
          clear hS st
          go_wp2
          exact ⟨⟨k + 1, by go_num, by omega, ST.out⟩, by simp only [intOf]; omega⟩
        · obtain rfl : nl = k := by omega
          obtain ⟨Ll, hLl⟩ : ∃ Ll, mkG (fun _ => (-7 : Int)) (nI LA) nl = Ll := ⟨_, rfl⟩
          obtain ⟨hl1, hl2⟩ := mkG_const (-7 : Int) (nI LA) nl HLn.out
          rw [hLl] at hS hl1 hl2
          have HL1 := hd hl1
          have HL7 := hd hl2
          have Q1 : Hid (QS βl βw βc βp ⟨al, nl, cl⟩ ⟨aw, m, cw⟩ ⟨ac, m, c3⟩ ⟨ap, np, cp⟩ w18 wr Ll (mkG (fun _ => ⟨#[63]⟩) KW 0) (mkG (fun _ => -8) (nI KC) 0) PL) := by
            rw [mkG_zero, mkG_zero]
            exact hS.out
          clear hS hLl hl1 hl2 hk hlt HLn
          go_wp2
          go_loopw [26] (fun iv wr => ∃ k : Nat, iv = .int .i64 k ∧ k ≤ m ∧ Hid (QS βl βw βc βp ⟨al, nl, cl⟩ ⟨aw, m, cw⟩ ⟨ac, m, c3⟩ ⟨ap, np, cp⟩ w18 wr Ll (mkG (fun _ => ⟨#[63]⟩) KW k) (mkG (fun _ => -8) (nI KC) k) PL)) (fun iv _ => m - (intOf iv).toNat)
          case atStart => exact ⟨0, rfl, Nat.zero_le _, Q1⟩
          case round =>
            obtain ⟨k, rfl, hk, hS⟩ := hrel
            clear Q1
            by_cases hlt : k < m
            · obtain ⟨gw, hga, ⟨v0, c0⟩, f0, st⟩ := hS.out.stepw (by rw [HKW.out]; exact hlt)
              obtain ⟨gc, hgc, ⟨v1, d1⟩, f1, st2⟩ := st.stepc (by rw [HCn.out]; exact hlt)
              have hga : aw = some ⟨gw, 0, none⟩ := hga
              have hgc : ac = some ⟨gc, 0, none⟩ := hgc
              subst hga hgc
              have ST := hd st2
              have j1 : (k : Int) < (m : Int) := by omega
              have j2 : m ≤ 1000 := HKS.out
              clear hS st st2
              go_wp2
              exact ⟨⟨k + 1, by go_num, by omega, ST.out⟩, by simp only [intOf]; omega⟩
            · obtain rfl : m = k := by omega
              obtain ⟨Lw, hLw⟩ : ∃ Lw, mkG (fun _ => (⟨#[63]⟩ : ByteArray)) KW m = Lw := ⟨_, rfl⟩
              obtain ⟨Lc, hLc⟩ : ∃ Lc, mkG (fun _ => (-8 : Int)) (nI KC) m = Lc := ⟨_, rfl⟩
              obtain ⟨hl1, hl2⟩ := mkG_const (⟨#[63]⟩ : ByteArray) KW m HKW.out
              obtain ⟨hl3, hl4⟩ := mkG_const (-8 : Int) (nI KC) m HCn.out
              rw [hLw] at hS hl1 hl2
              rw [hLc] at hS hl3 hl4
              have HW1 := hd hl1
              have HW7 := hd hl2
              have HC1 := hd hl3
              have HC7 := hd hl4
              have Q2 : Hid (QS βl βw βc βp ⟨al, nl, cl⟩ ⟨aw, m, cw⟩ ⟨ac, m, c3⟩ ⟨ap, np, cp⟩ w18 wr Ll Lw Lc (mkG (mkPos (-9)) PL 0)) := by
                rw [mkG_zero]
                exact hS.out
              clear hS hLw hLc hl1 hl2 hl3 hl4 hk hlt HCn HKW
              go_wp2
              go_loopw [27] (fun iv wr => ∃ k : Nat, iv = .int .i64 k ∧ k ≤ np ∧ Hid (QS βl βw βc βp ⟨al, nl, cl⟩ ⟨aw, m, cw⟩ ⟨ac, m, c3⟩ ⟨ap, np, cp⟩ w18 wr Ll Lw Lc (mkG (mkPos (-9)) PL k))) (fun iv _ => np - (intOf iv).toNat)
              case atStart => exact ⟨0, rfl, Nat.zero_le _, Q2⟩
              case round =>
                obtain ⟨k, rfl, hk, hS⟩ := hrel
                clear Q2
                by_cases hlt : k < np
                · obtain ⟨gp, hga, ⟨v0, c0⟩, f0, st⟩ := hS.out.stepp (by rw [HNP.out]; exact hlt)
                  have hga : ap = some ⟨gp, 0, none⟩ := hga
                  subst hga
                  have ST := hd st
                  have j1 : (k : Int) < (np : Int) := by omega
                  have j2 : np ≤ 1000 := by have := HPL.out; have := HNP.out; omega
                  clear hS st
                  go_wp2
                  exact ⟨⟨k + 1, by go_num, by omega, ST.out⟩, by simp only [intOf]; omega⟩
                · obtain rfl : np = k := by omega
                  obtain ⟨Lp, hLp⟩ : ∃ Lp, mkG (mkPos (-9)) PL np = Lp := ⟨_, rfl⟩
                  obtain ⟨hl1, hl2⟩ := mkG_pos (-9) PL np HNP.out
                  rw [hLp] at hS hl1 hl2
                  have HP1 := hd hl1
                  have HP7 := hd hl2
                  obtain ⟨gh, ch, u1, r1, gj, cj, u2, r2, gt, ct, u3, r3, hQV, hFr, hh, hj, hto⟩ := hS.out.appends (by rw [HL1.out]; exact HLA.out) (by rw [HW1.out]; exact HKS.out) (by rw [HC1.out]; exact HKS.out)
                  simp only [SV.val] at r1 r2 r3
                  rw [HL1.out] at r1 hh
                  rw [HC1.out] at r2 hj
                  rw [HW1.out] at r3 hto
                  have QV0 := hd hQV
                  have HPn : Hid (np ≤ 1000) := by have h1 := HPL.out; have h2 := HNP.out; show _ ≤ _; omega
                  have Im3 := hd (HIm.out _ hFr)
                  have Ib3 := hd (HIb.out _ hFr)
                  have Iv3 := hd (HIv.out _ hFr)
                  have EU := hd (E18.out.trans (hFr.below E18.out.size HLO.out))
                  have HH := hd hh
                  have HJ := hd hj
                  have HTO := hd hto
                  clear hS hLp hl1 hl2 hk hlt hQV hFr hh hj hto HNP HPL HLO HIm HIb HIv
                  go_upto_region 43 with (at_builtin; refine wpList_append_k _ rfl _ _ 36 36 rfl _ _ rfl rfl (r1 _) ?_)
                  go_upto_region 44 with (at_builtin; refine wpList_append_k _ rfl _ _ 36 36 rfl _ _ rfl rfl (r2 _) ?_)
                  go_upto_region 45 with (at_builtin; refine wpList_append_k _ rfl _ _ 42 42 rfl _ _ rfl rfl (r3 _) ?_)
                  clear r1 r2 r3
                  go_upto_region 46 with (go_at_call 11; refine (CF.out _ EU.out).mono ?_; rintro e u4 ⟨vr, rfl, hN, hb⟩)
                  obtain ⟨βr, ar, cr, rfl, -, -, hL⟩ := hN.ll
                  have hll : LA.length = nl := HLAn.out
                  rw [hll] at hL ⊢
                  have E4 := hd (EU.out.trans (hb.mono EU.out.size))
                  have QV4 := hd (QV0.out.below hb)
                  have Im4 := hd (Im3.out.below hb)
                  have Ib4 := hd (Ib3.out.below hb)
                  have Iv4 := hd (Iv3.out.below hb)
                  have Ir4 := hd hL
                  clear hN hb hL hll CF EU QV0 Im3 Ib3 Iv3
                  go_upto_region 47 with (go_at_call 13; refine (CW2.out _ E4.out).mono ?_; rintro e u5 ⟨vs, vu, rfl, hSt, hN, hb⟩)
                  obtain ⟨βs, a9, c9, rfl, -, -, hL2⟩ := hSt.ll
                  obtain ⟨βu, au, cu, rfl, -, -, hL⟩ := hN.ll
                  have hkw : KW.length = m := HKWn.out
                  have hkc : KC.length = m := HKCn.out
                  simp only [hkw, hkc] at hL hL2 ⊢
                  have E5 := hd (E4.out.trans (hb.mono E4.out.size))
                  have QV5 := hd (QV4.out.below hb)
                  have C4 := hd (fun W (hW : Below u5.heap.size u5 W) => ints_below ar am nl cr cm LA W ((Ir4.out.below hb).below hW) ((Im4.out.below hb).below hW))
                  have C5 := hd (fun W (hW : Below u5.heap.size u5 W) => words_below a9 av m c9 cv KW W (hL2.below hW) ((Iv4.out.below hb).below hW))
                  have C6 := hd (fun W (hW : Below u5.heap.size u5 W) => ints_below au ab m cu cb KC W (hL.below hW) ((Ib4.out.below hb).below hW))
                  clear hSt hN hL hL2 hb hkw hkc E4 QV4 Im4 Ib4 Iv4 Ir4 CW2
                  go_wp2
                  go_loopw [34] (fun iv wr => ∃ k : Nat, iv = .int .i64 k ∧ k ≤ nl ∧ wr = u5) (fun iv _ => nl - (intOf iv).toNat)
                  case atStart => exact ⟨0, rfl, Nat.zero_le _, rfl⟩
                  case round =>
                    obtain ⟨k, rfl, hk, hwc⟩ := hrel
                    obtain rfl := hwc.symm
                    by_cases hlt : k < nl
                    · obtain ⟨g5, e5, c5⟩ := QV5.out.getl (-7) HL7.out hlt
                      have e5 : al = some ⟨g5, 0, none⟩ := e5
                      subst e5
                      have j1 : (k : Int) < (nl : Int) := by omega
                      have j2 : nl ≤ 1000 := HLA.out
                      go_wp2
                      exact ⟨⟨k + 1, by go_num, by omega, trivial⟩, by simp only [intOf]; omega⟩
                    · obtain rfl : nl = k := by omega
                      clear hk hlt hwc
                      go_wp2
                      go_loopw [35] (fun iv wr => ∃ k : Nat, iv = .int .i64 k ∧ k ≤ m ∧ wr = u5) (fun iv _ => m - (intOf iv).toNat)
                      case atStart => exact ⟨0, rfl, Nat.zero_le _, rfl⟩
                      case round =>
                        obtain ⟨k, rfl, hk, hwc⟩ := hrel
                        obtain rfl := hwc.symm
                        by_cases hlt : k < m
                        · obtain ⟨g5, e5, c5⟩ := QV5.out.getw ⟨#[63]⟩ HW7.out hlt
                          obtain ⟨g6, e6, c6⟩ := QV5.out.getc (-8) HC7.out hlt
                          have e5 : aw = some ⟨g5, 0, none⟩ := e5
                          have e6 : ac = some ⟨g6, 0, none⟩ := e6
                          subst e5 e6
                          have j1 : (k : Int) < (m : Int) := by omega
                          have j2 : m ≤ 1000 := HKS.out
                          go_wp2
                          exact ⟨⟨k + 1, by go_num, by omega, trivial⟩, by simp only [intOf]; omega⟩
                        · obtain rfl : m = k := by omega
                          clear hk hlt hwc
                          go_wp2
                          go_loopw [36] (fun iv wr => ∃ k : Nat, iv = .int .i64 k ∧ k ≤ np ∧ wr = u5) (fun iv _ => np - (intOf iv).toNat)
                          case atStart => exact ⟨0, rfl, Nat.zero_le _, rfl⟩
                          case round =>
                            obtain ⟨k, rfl, hk, hwc⟩ := hrel
                            obtain rfl := hwc.symm
                            by_cases hlt : k < np
                            · obtain ⟨g5, e5, c5⟩ := QV5.out.getp (-9) HP7.out hlt
                              have e5 : ap = some ⟨g5, 0, none⟩ := e5
                              subst e5
                              have j1 : (k : Int) < (np : Int) := by omega
                              have j2 : np ≤ 1000 := HPn.out
                              go_wp2
                              exact ⟨⟨k + 1, by go_num, by omega, trivial⟩, by simp only [intOf]; omega⟩
                            · obtain rfl : np = k := by omega
                              clear hk hlt hwc
                              obtain ⟨k1, k2, k3⟩ := HCM.out
                              have k4 : N ≤ cM := Nat.le_trans k1 k2
                              have k5 : (N : Int) ≤ (cM : Int) := by omega
                              have HB := hd (Below.refl u5.heap.size u5)
                              go_wp2_with (first
                                | (go_at_call 16; refine (CTw.out _ E5.out).mono ?_; rintro e wq ⟨rfl, hq⟩; replace HB := hd hq; clear hq CTw)
                                | (go_at_call 14; refine (C4.out _ HB.out).mono ?_; rintro e wq ⟨rfl, hq⟩; replace HB := hd (HB.out.trans (hq.mono HB.out.size)); clear hq C4)
                                | (go_at_call 15; refine (C5.out _ HB.out).mono ?_; rintro e wq ⟨rfl, hq⟩; replace HB := hd (HB.out.trans (hq.mono HB.out.size)); clear hq C5)
                                | (go_at_call 14; refine (C6.out _ HB.out).mono ?_; rintro e wq ⟨rfl, hq⟩; replace HB := hd (HB.out.trans (hq.mono HB.out.size)); have d1 := (QV5.out.below HB.out).h; have d2 := (QV5.out.below HB.out).j; have d3 := (QV5.out.below HB.out).o; rw [HL1.out] at d1; rw [HC1.out] at d2; rw [HW1.out] at d3; clear hq C6)
                                | (go_at_call 10; refine (CXf.out _ (E5.out.trans (HB.out.mono E5.out.size))).mono ?_; rintro e wq ⟨rfl, hq⟩; replace HB := hd (HB.out.trans (hq.mono HB.out.size)); clear hq CXf))
                              go_ret
                              exact ⟨by simp, B12.out.trans ((E5.out.trans (HB.out.mono E5.out.size)).mono B12.out.size)⟩
end Go.Proofs.Ytlmgogonghafeab
