/-
  The law Back, walked.
-/
import Derived.Test.YtlmgogonghafeaaBp
import Derived.Test.YtlmgogonghafeaaWu
import Derived.Test.YtlmgogonghafeaaGq
import Derived.Test.YtlmgogonghafeaaGp
import Derived.Test.YtlmgogonghafeaaEa
import Derived.Test.YtlmgogonghafeaaNd
import Derived.Test.YtlmgogonghafeaaIn
import Derived.Test.YtlmgogonghafeaaSk
import Derived.Test.YtlmgogonghafeaaSp
import Derived.Deep.CutRange
namespace Go.Proofs.Ytlmgogonghafeaa
open Go.RowKit Go.Lib
set_option linter.unusedVariables false

def BkI (w : World) (x : Nat) (T0 : By) (os : List OpE) (β : Option Nat) (vo : Value) (k : Nat) (wr : World) : Prop :=
  ∃ (O : Nat → Prop), IM wr O x (runT T0 (os.take k)) ∧ (∀ k, O k → w.heap.size ≤ k ∧ k < wr.heap.size) ∧ Below w.heap.size w wr ∧ SF opc 5 wr 39 β vo os ∧ ∀ g, β = some g → ¬ O g
theorem runT_take {T : By} {os : List OpE} {k : Nat} (hk : k < os.length) : runT T (os.take (k + 1)) = apT (runT T (os.take k)) os[k] := by
  unfold runT
  rw [List.take_succ_eq_append_getElem hk, List.foldl_append]
  rfl
theorem bk_step {w W W' : World} {x k : Nat} {T0 : By} {os : List OpE} {β : Option Nat} {vo : Value} {O : Nat → Prop} (hk : k < os.length) (hO : ∀ k, O k → w.heap.size ≤ k ∧ k < W.heap.size) (hB : Below w.heap.size w W) (hS : SF opc 5 W 39 β vo os) (hβ : ∀ g, β = some g → ¬ O g)
    (hA : ApR W W' O x (apT (runT T0 (os.take k)) os[k])) : BkI w x T0 os β vo (k + 1) W' := by
  obtain ⟨hI, hF⟩ := hA
  have hs := hF.size
  unfold BkI
  rw [runT_take hk]
  refine ⟨fun j => O j ∨ (W.heap.size ≤ j ∧ j < W'.heap.size), hI, ?_, ?_, ?_, ?_⟩
  · intro j hj
    have := hB.size
    rcases hj with hj | hj
    · have := hO j hj
      omega
    · omega
  · exact hB.trans (hF.below hB.size (fun j hj => (hO j hj.1).1))
  · exact hS.fr hF (fun g' hg' h => hβ g' hg' h.1)
  · intro g' hg' h
    rcases h with h | h
    · exact hβ g' hg' h
    · have := hS.lt g' hg'
      omega
theorem wo_no (s : By) (c : Nat) : ∀ x ∈ woP s c, x.toNat ≠ c := by
  intro x hx
  unfold woP at hx
  rw [List.mem_filter] at hx
  simpa using hx.2
theorem wo_sub (s : By) (c : Nat) : ∀ x ∈ woP s c, x ∈ s := fun x hx => (List.mem_filter.1 hx).1

set_option maxRecDepth 100000 in
set_option maxHeartbeats 8000000 in
theorem back_law (t p0 : ByteArray) (many : Int) (w : World) (ht : t.size ≤ 140737488351232) (hp0 : p0.size ≤ 9223372036854775807) :
    Calls Try.prog 6 #[.string t, .string p0, .int .i64 many] w fun e w' => e = .returned (.bool true) ∧ Below w.heap.size w w' := by
  have CW := hd (without_big t 126 w ht)
  obtain ⟨SS, hSS⟩ : ∃ SS, bsA (woP t.data.toList 126) = SS := ⟨_, rfl⟩
  have hSd : SS.data.toList = woP t.data.toList 126 := by rw [← hSS]; exact bsA_list _
  have hSsz : SS.size ≤ t.size := by
    have h1 : SS.data.toList.length = SS.size := by simp
    have h2 : t.data.toList.length = t.size := by simp
    have h3 : (woP t.data.toList 126).length ≤ t.data.toList.length := List.length_filter_le _ _
    rw [hSd] at h1
    omega
  rw [hSS] at CW
  have CE := hd (fun W => elems_any SS 200 W (by omega) (by omega))
  obtain ⟨N, hN⟩ : ∃ N, min SS.size 200 = N := ⟨_, rfl⟩
  have HN : Hid (N ≤ 200) := by show N ≤ 200; omega
  have HTz : Hid (∀ c ∈ tB (elS SS.data.toList N), c.toNat ≠ 126) := by
    intro c hc
    rw [tB_elS _ _ (by have h1 : SS.data.toList.length = SS.size := by simp
                       omega)] at hc
    have := List.mem_of_mem_take hc
    rw [hSd] at this
    exact wo_no _ _ c this
  simp only [hN] at CE
  have HLN := hd (elS_len SS.data.toList N)
  generalize elS SS.data.toList N = xs at *
  have CP := hd (fun W => needle_any p0 W hp0)
  obtain ⟨PA, hPA⟩ : ∃ PA : ByteArray, bsA (ndP p0.data.toList) = PA := ⟨_, rfl⟩
  have hPAd : PA.data.toList = ndP p0.data.toList := by rw [← hPA]; exact bsA_list _
  have hPAs : PA.size ≤ 64 := by
    have h1 : PA.data.toList.length = PA.size := by simp
    have := (ndP_len p0.data.toList).2
    rw [hPAd] at h1
    omega
  rw [hPA] at CP
  have CP2 := hd (fun W => without_big PA 126 W (by omega))
  obtain ⟨PB, hPB⟩ : ∃ PB : ByteArray, bsA (woP PA.data.toList 126) = PB := ⟨_, rfl⟩
  rw [hPB] at CP2
  have HPB : Hid (∀ c ∈ PB.data.toList, 32 ≤ c.toNat ∧ c.toNat ≤ 125) := by
    intro c hc
    rw [← hPB, bsA_list] at hc
    have h1 := wo_no _ _ c hc
    have h2 := wo_sub _ _ c hc
    rw [hPAd] at h2
    have := ndP_chars p0.data.toList c h2
    omega
  clear hSS hSd hSsz hN hPA hPAd hPAs hPB ht hp0
  go_enter Try.func6, Try.ntmps6
  go_upto_region 2 with (first
    | (go_at_call 23; refine CW.out.mono ?_; rintro e w0 ⟨rfl, hb0⟩)
    | (go_at_call 9; refine (CE.out w0).mono ?_; rintro e w1 ⟨v, rfl, hT⟩))
  obtain ⟨a, c, rfl, hE, -⟩ := hT.isE
  have B1 := hd (hb0.trans (hT.choose_spec.2.2.mono hb0.size))
  rw [HLN.out] at hE ⊢
  have CT := text_any a N c xs w1 hE (by have := HN.out; omega)
  rw [bstr_tB] at CT
  have HE := hd hE
  obtain ⟨T, hTx⟩ : ∃ T, tB xs = T := ⟨_, rfl⟩
  obtain ⟨TT, hTT⟩ : ∃ TT, bsA T = TT := ⟨_, rfl⟩
  rw [hTx, hTT] at CT
  have CT := hd CT
  have HTl : Hid (T.length = N) := by show _ = _; rw [← hTx]; simp [tB, HLN.out]
  have HTd : Hid (TT.data.toList = T) := by show _ = _; rw [← hTT]; exact bsA_list _
  have HTs : Hid (TT.size = N) := by show _ = _; rw [← hTT, bsA_size]; exact HTl.out
  have HTx := hd hTx
  rw [hTx] at HTz
  clear hE hT CE hb0 hTx
  go_upto_region 3 with (go_at_call 14; refine CT.out.mono ?_; rintro e w2 ⟨rfl, hb2⟩)
  have B2 := hd (B1.out.trans (hb2.mono B1.out.size))
  have HE2 := hd (HE.out.below hb2)
  clear hb2 CT HE B1
  go_upto_region 4 with (first
    | (go_at_call 11; refine (CP.out _).mono ?_; rintro e w3 ⟨rfl, hb3⟩)
    | (go_at_call 23; refine (CP2.out w3).mono ?_; rintro e w4 ⟨rfl, hb4⟩))
  have B4 := hd (B2.out.trans ((hb3.trans (hb4.mono hb3.size)).mono B2.out.size))
  have HE4 := hd (HE2.out.below (hb3.trans (hb4.mono hb3.size)))
  clear hb3 hb4 CP CP2 HE2 B2
  obtain ⟨pl, hpl⟩ : ∃ pl, PB.size = pl := ⟨_, rfl⟩
  have HPl0 : Hid (PB.data.toList.length = pl) := by show _ = _; rw [← hpl]; simp
  go_upto_if 30 with fail
  go_cut [9] (fun qv wx => ∃ P1 : ByteArray, qv = .string P1 ∧ Hid (P1.size ≤ 5 ∧ ∀ c ∈ P1.data.toList, 32 ≤ c.toNat ∧ c.toNat ≤ 125) ∧ wx = w4)
  case first =>
    by_cases h5 : 5 < pl
    · have h5i : (5 : Int) < (pl : Int) := by omega
      have h5b : decide ((5 : Int) < (pl : Int)) = true := by simpa using h5i
      have h5c : (5 : Int) ≤ (pl : Int) := by omega
      have Z : Hid ((PB.extract 0 5).size ≤ 5 ∧ ∀ c ∈ (PB.extract 0 5).data.toList, 32 ≤ c.toNat ∧ c.toNat ≤ 125) := by
        have e : (PB.extract 0 5).data.toList = PB.data.toList.take 5 := by simp
        refine ⟨by simp; omega, fun c hc => ?_⟩
        rw [e] at hc
        exact HPB.out c (List.mem_of_mem_take hc)
      go_wp2_with fail
      go_meet
      exact ⟨_, rfl, Z, rfl⟩
    · have h5i : ¬ (5 : Int) < (pl : Int) := by omega
      have h5b : decide ((5 : Int) < (pl : Int)) = false := by simpa using h5i
      have Z : Hid (PB.size ≤ 5 ∧ ∀ c ∈ PB.data.toList, 32 ≤ c.toNat ∧ c.toNat ≤ 125) := ⟨by rw [hpl]; omega, HPB.out⟩
      go_wp2_with fail
      go_meet
      exact ⟨_, rfl, Z, rfl⟩
  case rest =>
    obtain ⟨P1, rfl, HP1, hwc⟩ := hcut
    obtain rfl := hwc.symm
    clear hpl HPl0 HPB
    go_upto_if 34 with fail
    obtain ⟨bb, hbb⟩ : ∃ bb, P1.toList.isEmpty = bb := ⟨_, rfl⟩
    rw [hbb]
    have HBB := hd hbb
    clear hbb
    go_cut [9] (fun qv wx => ∃ PP : ByteArray, qv = .string PP ∧ Hid (1 ≤ PP.size ∧ PP.size ≤ 5 ∧ ∀ c ∈ PP.data.toList, 32 ≤ c.toNat ∧ c.toNat ≤ 125) ∧ wx = w4)
    case first =>
      cases bb with
      | true =>
        have Z : Hid (1 ≤ (⟨#[98]⟩ : ByteArray).size ∧ (⟨#[98]⟩ : ByteArray).size ≤ 5 ∧ ∀ c ∈ (⟨#[98]⟩ : ByteArray).data.toList, 32 ≤ c.toNat ∧ c.toNat ≤ 125) := ⟨by decide, by decide, fun c hc => by have : c = 98 := (by simpa using hc); rw [this]; decide⟩
        go_wp2_with fail
        go_meet
        exact ⟨_, rfl, Z, rfl⟩
      | false =>
        have Z : Hid (1 ≤ P1.size ∧ P1.size ≤ 5 ∧ ∀ c ∈ P1.data.toList, 32 ≤ c.toNat ∧ c.toNat ≤ 125) := by
          refine ⟨?_, HP1.out.1, HP1.out.2⟩
          have h := HBB.out
          rw [toL] at h
          have h1 : P1.data.toList.length = P1.size := by simp
          cases h2 : P1.data.toList with
          | nil => rw [h2] at h; cases h
          | cons y l => rw [h2] at h1; simp at h1; omega
        go_wp2_with fail
        go_meet
        exact ⟨_, rfl, Z, rfl⟩
    case rest =>
      obtain ⟨PP, rfl, HPP, hwc⟩ := hcut
      obtain rfl := hwc.symm
      clear HP1 HBB
      obtain ⟨P, hPs⟩ : ∃ P, PP.size = P := ⟨_, rfl⟩
      have HPl : Hid (PP.data.toList.length = P) := by show _ = _; rw [← hPs]; simp
      have HP5 : Hid (1 ≤ P ∧ P ≤ 5) := by show _ ∧ _; rw [← hPs]; exact ⟨HPP.out.1, HPP.out.2.1⟩
      have HPch : Hid (∀ c ∈ PP.data.toList, 32 ≤ c.toNat ∧ c.toNat ≤ 125) := HPP.out.2.2
      obtain ⟨r, hr⟩ : ∃ r, (many % ((5 : Nat) : Int)).toNat = r := ⟨_, rfl⟩
      have hr5 : r < 5 := by
        have := Int.emod_lt_of_pos many (show (0 : Int) < ((5 : Nat) : Int) by omega)
        omega
      have CI := into_any many 5 w4 (by omega) (by omega)
      rw [hr] at CI
      have e5 : ((5 : Nat) : Int) = 5 := rfl
      rw [e5] at CI
      have CI := hd CI
      clear e5 hr HPP
      obtain ⟨Q, hQdef⟩ : ∃ Q, 1 + r = Q := ⟨_, rfl⟩
      have hq1 : (1 : Int) + (r : Int) = (Q : Int) := by omega
      have hqw : IntKind.i64.wrap (Q : Int) = (Q : Int) := by rw [IntKind.wrap_i64]; omega
      have hq5 : (Q : Int) ≤ 5 := by omega
      have hq5n : Q ≤ 5 := by omega
      have hq0 : 1 ≤ Q := by omega
      obtain ⟨QQ, hQQ⟩ : ∃ QQ, (⟨#[126, 126, 126, 126, 126]⟩ : ByteArray).extract 0 Q = QQ := ⟨_, rfl⟩
      have HQd : Hid (QQ.data.toList = List.replicate Q 126) := by
        show _ = _
        rw [← hQQ]
        have h5 : (⟨#[126, 126, 126, 126, 126]⟩ : ByteArray).data.toList = List.replicate 5 126 := rfl
        have e : ((⟨#[126, 126, 126, 126, 126]⟩ : ByteArray).extract 0 Q).data.toList = (⟨#[126, 126, 126, 126, 126]⟩ : ByteArray).data.toList.take Q := by simp
        rw [e, h5, List.take_replicate, Nat.min_eq_left hq5n]
      have hQs : QQ.size = Q := by
        have h1 : QQ.data.toList.length = QQ.size := by simp
        rw [HQd.out, List.length_replicate] at h1
        exact h1.symm
      have HQl : Hid (QQ.data.toList.length = Q) := by show _ = _; rw [HQd.out, List.length_replicate]
      go_upto_region 9 with (go_at_call 16; refine CI.out.mono ?_; rintro e w5 ⟨rfl, rfl⟩)
      have CN := hd (new_own a N c xs _ HE4.out (by have := HN.out; omega))
      go_upto_region 10 with (go_at_call 10; refine CN.out.mono ?_; rintro e w6 ⟨x, rfl, hI, hx, hb6⟩)
      rw [HTx.out] at hI
      have HI := hd hI
      have B6 := hd (B4.out.trans (hb6.mono B4.out.size))
      have CX := hd (fun W hW => itext_any x T W (HI.out.ix.below hW) (by rw [HTl.out]; have := HN.out; omega))
      simp only [hTT] at CX
      have HIO : Hid (∀ j, (w5.heap.size ≤ j ∧ j < w6.heap.size) → w.heap.size ≤ j ∧ j < w6.heap.size) := fun j hj => ⟨Nat.le_trans B4.out.size hj.1, hj.2⟩
      have HTTe := hd hTT
      clear hI hx hb6 CN HE4 hTT
      have HPok : Hid (patB PP.data.toList = true) := by
        show _ = _
        rw [patB_iff, HPl.out]
        exact ⟨HP5.out.1, by have := HP5.out.2; omega, fun c hc => by have := HPch.out c hc; omega⟩
      have HQok : Hid (patB QQ.data.toList = true) := by
        show _ = _
        rw [patB_iff, HQl.out]
        refine ⟨hq0, by omega, fun c hc => ?_⟩
        rw [HQd.out] at hc
        rw [List.eq_of_mem_replicate hc]
        decide
      have HPfl : Hid (fillB PP.data.toList = true) := by
        have := HPok.out
        unfold patB at this
        rw [Bool.and_eq_true] at this
        exact this.2
      have HQfl : Hid (fillB QQ.data.toList = true) := by
        have := HQok.out
        unfold patB at this
        rw [Bool.and_eq_true] at this
        exact this.2
      obtain ⟨T1, hT1⟩ : ∃ T1, (sc T PP.data.toList QQ.data.toList T.length 0).2 = T1 := ⟨_, rfl⟩
      obtain ⟨n, hn⟩ : ∃ n, (apP T PP.data.toList).length = n := ⟨_, rfl⟩
      have HBK : Hid (BkK T PP.data.toList QQ.data.toList T1 n) := by
        have := bkK T PP.data.toList QQ.data.toList 126 (by rw [HPl.out]; exact HP5.out.1) (fun c hc => fun e => by have := HPch.out c hc; rw [e] at this; revert this; decide) (fun c hc => fun e => HTz.out c hc (by rw [e]; decide)) (fun c hc => by rw [HQd.out] at hc; exact List.eq_of_mem_replicate hc) (by rw [HQl.out]; exact hq0)
        rw [hT1, hn] at this
        exact this
      have hnN : n ≤ 200 := by
        have h1 := apS_len PP.data.toList.length (plc T PP.data.toList)
        have h2 := fnd_len (T := T) (p := PP.data.toList) (s0 := 0) (t := T.length) (by rw [HPl.out]; exact HP5.out.1)
        unfold plc at h1
        unfold apP plc at hn
        have h3 := HTl.out
        have h4 := HN.out
        omega
      have CSw := fun W => swapped_any TT PP QQ W (by rw [HTs.out]; have := HN.out; omega) (by rw [hPs]; exact HP5.out.1) (by rw [hPs]; have := HP5.out.2; omega) (by rw [hQs]; omega)
      have hsc : (sc T PP.data.toList QQ.data.toList N 0).1.length = n := by
        rw [← hn, ← sc_apP (q := QQ.data.toList) (by rw [HPl.out]; exact HP5.out.1), HTl.out]
      simp only [HTd.out, HTs.out, hsc] at CSw
      obtain ⟨S2, hS2⟩ : ∃ S2, bsA (sc T PP.data.toList QQ.data.toList N 0).2 = S2 := ⟨_, rfl⟩
      simp only [hS2] at CSw
      have CSw := hd CSw
      have CS := hd (fun W hW => swap_good x T PP QQ 1 1 W (HI.out.ix.below hW) (by rw [HTl.out]; have := HN.out; omega) HPok.out HQfl.out (by omega))
      have HNn := hd hn
      have HT1 := hd hT1
      obtain ⟨M, hM⟩ : ∃ M, n * (P + Q) = M := ⟨_, rfl⟩
      have HM := hd hM
      have hMi : (n : Int) * ((P : Int) + (Q : Int)) = (M : Int) := by rw [← hM]; simp
      have hwPQ : IntKind.i64.wrap ((P : Int) + (Q : Int)) = (P : Int) + (Q : Int) := by
        have := HP5.out
        rw [IntKind.wrap_i64]
        omega
      have hM9 : M ≤ 2000 := by
        have h1 := HP5.out
        rw [← hM]
        calc n * (P + Q) ≤ 200 * 10 := Nat.mul_le_mul hnN (by omega)
          _ = 2000 := rfl
      have hwM : IntKind.i64.wrap (M : Int) = (M : Int) := by rw [IntKind.wrap_i64]; omega
      clear hS2 hn hsc hT1 hM hQQ hQdef
      go_upto_region 12 with (go_at_call 18; refine (CX.out w6 (Below.refl _ _)).mono ?_; rintro e w7 ⟨rfl, hb7⟩)
      have C7 := hd hb7
      clear hb7 CX
      by_cases hmany : 64 < M
      · have CS1 : Hid (∀ W, Below w6.heap.size w6 W → Calls Try.prog 17 #[.pointer (some ⟨x, 0, none⟩), .string PP, .string QQ, .int .i64 1, .int .i64 1] W fun e w' => e = .returned (.tuple #[.slice none 0 0, .int .i64 222]) ∧ Below W.heap.size W w') := by
          intro W hW
          refine (CS.out W hW).mono ?_
          rintro e w' ⟨hb, h⟩
          have h222 : swE T PP.data.toList QQ.data.toList 1 1 = 222 := swE_many1 _ _ _ _ (by rw [HNn.out, HPl.out, HQl.out, HM.out]; exact hmany)
          rw [h222] at h
          rcases h with ⟨-, h⟩ | ⟨h, -⟩
          · exact ⟨h, hb⟩
          · exact absurd h (by decide)
        go_upto_region 13 with (go_at_call 17; refine (CS1.out w7 C7.out).mono ?_; rintro e w8 ⟨rfl, hb8⟩)
        go_wp2_with (go_at_call 21; refine (CSw.out _).mono ?_; rintro e w9 ⟨rfl, hb9⟩)
        go_ret
        exact ⟨by simp, (B6.out.trans ((C7.out.trans ((hb8.trans (hb9.mono hb8.size)).mono C7.out.size)).mono B6.out.size))⟩
      · have hm64 : M ≤ 64 := by omega
        have HM64 := hd hm64
        have hcnt : (apP T PP.data.toList).length * (PP.data.toList.length + QQ.data.toList.length) ≤ 64 := by rw [HNn.out, HPl.out, HQl.out, HM.out]; exact hm64
        obtain ⟨os, hos⟩ : ∃ os, swS 1 1 (apP T PP.data.toList) PP.data.toList.length QQ.data.toList n = os := ⟨_, rfl⟩
        have hosl : os.length = M := by
          rw [← hos, swS_len, HPl.out, HQl.out]
          exact HM.out
        have hsw := swT T PP.data.toList QQ.data.toList 1 (by omega) (by rw [HPl.out]; exact HP5.out.1) ((fillB_iff _).1 HQfl.out).2 (by rw [HTl.out]; have := HN.out; omega) hcnt
        rw [HNn.out, hos] at hsw
        have HSK := hd hsw.1
        have HRT : Hid (runT T os = T1) := by show _ = _; rw [hsw.2]; exact HT1.out
        have CS1 : Hid (∀ W, Below w6.heap.size w6 W → Calls Try.prog 17 #[.pointer (some ⟨x, 0, none⟩), .string PP, .string QQ, .int .i64 1, .int .i64 1] W fun e w' => ∃ v β, e = .returned (.tuple #[v, .int .i64 0]) ∧ Below W.heap.size W w' ∧ SF opc 5 w' 39 β v os ∧ ∀ k, β = some k → W.heap.size ≤ k) := by
          intro W hW
          refine (CS.out W hW).mono ?_
          rintro e w' ⟨hb, h⟩
          have h0 : swE T PP.data.toList QQ.data.toList 1 1 = 0 := swE_few1 _ _ _ _ (by omega) (by rw [HTl.out]; have := HN.out; omega) hcnt
          rw [h0, HNn.out, hos] at h
          rcases h with ⟨h, -⟩ | ⟨-, v, β, h1, h2, h3⟩
          · exact absurd rfl h
          · exact ⟨v, β, h1, hb, h2, h3⟩
        have HOL := hd hosl
        clear hos hosl CS hsw hcnt
        go_upto_region 13 with (go_at_call 17; refine (CS1.out w7 C7.out).mono ?_; rintro e w8 ⟨v8, β, rfl, hb8, hS8, hβ8⟩)
        have C8 := hd (C7.out.trans (hb8.mono C7.out.size))
        obtain ⟨av, cv, rfl, hlv, hcv⟩ := hS8.form
        rw [HOL.out] at hlv ⊢
        have HS8 := hd hS8
        have Hβ8 : Hid (∀ k, β = some k → w6.heap.size ≤ k) := fun k hk => Nat.le_trans C7.out.size (hβ8 k hk)
        rw [HOL.out] at HS8
        clear hb8 CS1 hS8 hβ8
        go_upto_region 14 with (go_at_call 21; refine (CSw.out _).mono ?_; rintro e w9 ⟨rfl, hb9⟩)
        have C9 := hd (C8.out.trans (hb9.mono C8.out.size))
        have HS9 := hd (HS8.out.fr (Fr.of_below (S := fun _ => False) hb9) (fun _ _ h => h))
        have S0 : Hid (BkI w x T os β (.slice av M cv) 0 w9) := by
          refine ⟨fun k => w5.heap.size ≤ k ∧ k < w6.heap.size, HI.out.below C9.out, fun j hj => ?_, B6.out.trans (C9.out.mono B6.out.size), HS9.out, fun g hg h => ?_⟩
          · have h1 := HIO.out j hj
            have h2 := C9.out.size
            omega
          · have := Hβ8.out g hg
            omega
        clear hb9 HS8 CSw HS9 Hβ8 HI HIO hmany
        go_upto_region 19 with fail
        go_loopw [16] (fun iv wr => ∃ k : Nat, iv = .int .i64 k ∧ k ≤ M ∧ Hid (BkI w x T os β (.slice av M cv) k wr)) (fun iv _ => M - (intOf iv).toNat)
        case atStart => exact ⟨0, rfl, Nat.zero_le _, S0.out⟩
        case round =>
          obtain ⟨k, rfl, hk, hS⟩ := hrel
          clear S0
          by_cases hlt : k < M
          · obtain ⟨O, hI, hO, hB, hSF, hβ⟩ := hS.out
            have hko : k < os.length := by rw [HOL.out]; exact hlt
            obtain ⟨r1, r5, r6⟩ := HSK.out k hko
            cases β with
            | none =>
              obtain ⟨-, h⟩ := hSF
              rw [h] at hko
              simp at hko
            | some g =>
              obtain ⟨cap, hv, hR⟩ := hSF
              obtain ⟨rfl, -, rfl⟩ := Value.slice.inj hv
              have hc0 : ∀ r u, (opc os[k])[r]? = some u → r < 5 → wr.cell? ⟨g, k * 5 + r, none⟩ = some u := by
                intro r u hu hr
                rw [hR.cell (fun x => ⟨rfl, fun v hv => by simp [opc] at hv; rcases hv with rfl | rfl | rfl | rfl | rfl <;> rfl⟩) k r hko hr]
                exact hu
              have hSF : SF opc 5 wr 39 (some g) (.slice (some ⟨g, 0, none⟩) M cv) os := ⟨cv, by rw [HOL.out], hR⟩
              have HST := hd (fun (W' : World) hA => bk_step (w := w) (W := wr) (W' := W') (x := x) (k := k) (T0 := T) (os := os) (β := some g) (vo := .slice (some ⟨g, 0, none⟩) M cv) (O := O) hko hO hB hSF hβ hA)
              obtain ⟨o, ho⟩ : ∃ o, os[k] = o := ⟨_, rfl⟩
              simp only [ho] at r1 r5 r6 HST hc0
              clear ho
              obtain ⟨ok, op, oc, ol, oq⟩ := o
              simp only at r5 r6
              have k0 := hc0 0 _ rfl (by omega)
              have k1 := hc0 1 _ rfl (by omega)
              have k2 := hc0 2 _ rfl (by omega)
              have k3 := hc0 3 _ rfl (by omega)
              have k4 := hc0 4 _ rfl (by omega)
              rw [Nat.add_zero] at k0
              have CA := hd (iapply_good x O _ ok op oc ol oq wr hI r5 r6 r1)
              clear hI hO hB hSF hβ hR hc0 hS hv r1 r5 r6
              go_wp2_with (go_at_call 20; refine CA.out.mono ?_; rintro e V2 ⟨rfl, hA⟩; have Z := hd (HST.out V2 hA); clear hA)
              exact ⟨⟨k + 1, by go_num, by omega, Z.out⟩, by simp only [intOf]; omega⟩
          · obtain rfl : M = k := by omega
            have e1 : os.take M = os := List.take_of_length_le (by rw [HOL.out]; exact Nat.le_refl _)
            have hS2 := hS.out
            unfold BkI at hS2
            rw [e1, HRT.out] at hS2
            obtain ⟨O, hI, hO, hB, -, -⟩ := hS2
            clear hS e1 HRT
            have CF := find_good x T1 PP wr hI.ix (by have := HBK.out.len; rw [HTl.out, HQl.out] at this; have h2 := HN.out; have : n * Q ≤ 200 * 5 := Nat.mul_le_mul hnN hq5n; omega) HPok.out
            rw [HBK.out.none] at CF
            have CF := hd CF
            have HI := hd hI
            have HO := hd hO
            have HB := hd hB
            clear hI hO hB HSK HOL
            have hT1l : T1.length ≤ 1000 := by
              have := HBK.out.len
              rw [HTl.out, HQl.out] at this
              have h2 := HN.out
              have h3 : n * Q ≤ M := by rw [← HM.out]; exact Nat.mul_le_mul_left _ (Nat.le_add_left _ _)
              have h4 := HM64.out
              omega
            have CS := hd (fun W hW => swap_good x T1 QQ PP 2 1 W (HI.out.ix.below hW) (by omega) HQok.out HPfl.out (by omega))
            have HM2 : Hid (n * (Q + P) = M) := by show _ = _; rw [Nat.add_comm]; exact HM.out
            have hcnt : (apP T1 QQ.data.toList).length * (QQ.data.toList.length + PP.data.toList.length) ≤ 64 := by rw [HBK.out.cnt2, HPl.out, HQl.out, HM2.out]; exact HM64.out
            have HN2 : Hid ((apP T1 QQ.data.toList).length = n) := HBK.out.cnt2
            obtain ⟨o2, ho2⟩ : ∃ o2, swS 2 1 (apP T1 QQ.data.toList) QQ.data.toList.length PP.data.toList n = o2 := ⟨_, rfl⟩
            have ho2l : o2.length = M := by
              rw [← ho2, swS_len, HPl.out, HQl.out]
              exact HM2.out
            have hsw := swT T1 QQ.data.toList PP.data.toList 2 (by omega) (by rw [HQl.out]; exact hq0) ((fillB_iff _).1 HPfl.out).2 hT1l hcnt
            rw [HN2.out, ho2] at hsw
            have HSK := hd hsw.1
            have HRT : Hid (runT T1 o2 = T) := by show _ = _; rw [hsw.2]; exact HBK.out.back
            have CS1 : Hid (∀ W, Below wr.heap.size wr W → Calls Try.prog 17 #[.pointer (some ⟨x, 0, none⟩), .string QQ, .string PP, .int .i64 2, .int .i64 1] W fun e w' => ∃ v β, e = .returned (.tuple #[v, .int .i64 0]) ∧ Below W.heap.size W w' ∧ SF opc 5 w' 39 β v o2 ∧ ∀ k, β = some k → W.heap.size ≤ k) := by
              intro W hW
              refine (CS.out W hW).mono ?_
              rintro e w' ⟨hb, h⟩
              have h0 : swE T1 QQ.data.toList PP.data.toList 2 1 = 0 := swE_few1 _ _ _ _ (by omega) hT1l hcnt
              rw [h0, HN2.out, ho2] at h
              rcases h with ⟨h, -⟩ | ⟨-, v, β, h1, h2, h3⟩
              · exact absurd rfl h
              · exact ⟨v, β, h1, hb, h2, h3⟩
            have HOL := hd ho2l
            have HBKn := hd HBK.out.back
            clear ho2 ho2l CS hsw hcnt HBK HT1 HNn
            go_upto_region 24 with (go_at_call 12; refine CF.out.mono ?_; rintro e u1 ⟨vf, rfl, hNf, hu1⟩)
            obtain ⟨af, cf, rfl, -⟩ := hNf.isL
            have D1 := hd hu1
            simp only [List.length_nil]
            clear hNf hu1 CF
            go_upto_region 27 with (go_at_call 17; refine (CS1.out u1 D1.out).mono ?_; rintro e u2 ⟨v8b, β2, rfl, hu2, hSb, hβb⟩)
            have D2 := hd (D1.out.trans (hu2.mono D1.out.size))
            obtain ⟨a2, c2, rfl, hlv2, hcv2⟩ := hSb.form
            rw [HOL.out] at hlv2 ⊢
            rw [HOL.out] at hSb
            have S0 : Hid (BkI w x T1 o2 β2 (.slice a2 M c2) 0 u2) := by
              refine ⟨O, HI.out.below D2.out, fun j hj => ?_, HB.out.trans (D2.out.mono HB.out.size), hSb, fun g hg h => ?_⟩
              · have h1 := HO.out j hj
                have h2 := D2.out.size
                omega
              · have h1 := hβb g hg
                have h2 := HO.out g h
                have h3 := D1.out.size
                omega
            clear hu2 CS1 hSb hβb HI HO HB D1 D2
            go_upto_region 30 with fail
            go_loopw [19] (fun iv wr => ∃ k : Nat, iv = .int .i64 k ∧ k ≤ M ∧ Hid (BkI w x T1 o2 β2 (.slice a2 M c2) k wr)) (fun iv _ => M - (intOf iv).toNat)
            case atStart => exact ⟨0, rfl, Nat.zero_le _, S0.out⟩
            case round =>
              obtain ⟨k, rfl, hk, hS⟩ := hrel
              clear S0
              by_cases hlt : k < M
              · obtain ⟨O, hI, hO, hB, hSF, hβ⟩ := hS.out
                have hko : k < o2.length := by rw [HOL.out]; exact hlt
                obtain ⟨r1, r5, r6⟩ := HSK.out k hko
                cases β2 with
                | none =>
                  obtain ⟨-, h⟩ := hSF
                  rw [h] at hko
                  simp at hko
                | some g =>
                  obtain ⟨cap, hv, hR⟩ := hSF
                  obtain ⟨rfl, -, rfl⟩ := Value.slice.inj hv
                  have hc0 : ∀ r u, (opc o2[k])[r]? = some u → r < 5 → wr.cell? ⟨g, k * 5 + r, none⟩ = some u := by
                    intro r u hu hr
                    rw [hR.cell (fun x => ⟨rfl, fun v hv => by simp [opc] at hv; rcases hv with rfl | rfl | rfl | rfl | rfl <;> rfl⟩) k r hko hr]
                    exact hu
                  have hSF : SF opc 5 wr 39 (some g) (.slice (some ⟨g, 0, none⟩) M c2) o2 := ⟨c2, by rw [HOL.out], hR⟩
                  have HST := hd (fun (W' : World) hA => bk_step (w := w) (W := wr) (W' := W') (x := x) (k := k) (T0 := T1) (os := o2) (β := some g) (vo := .slice (some ⟨g, 0, none⟩) M c2) (O := O) hko hO hB hSF hβ hA)
                  obtain ⟨o, ho⟩ : ∃ o, o2[k] = o := ⟨_, rfl⟩
                  simp only [ho] at r1 r5 r6 HST hc0
                  clear ho
                  obtain ⟨ok, op, oc, ol, oq⟩ := o
                  simp only at r5 r6
                  have k0 := hc0 0 _ rfl (by omega)
                  have k1 := hc0 1 _ rfl (by omega)
                  have k2 := hc0 2 _ rfl (by omega)
                  have k3 := hc0 3 _ rfl (by omega)
                  have k4 := hc0 4 _ rfl (by omega)
                  rw [Nat.add_zero] at k0
                  have CA := hd (iapply_good x O _ ok op oc ol oq wr hI r5 r6 r1)
                  clear hI hO hB hSF hβ hR hc0 hS hv r1 r5 r6
                  go_wp2_with (go_at_call 20; refine CA.out.mono ?_; rintro e V2 ⟨rfl, hA⟩; have Z := hd (HST.out V2 hA); clear hA)
                  exact ⟨⟨k + 1, by go_num, by omega, Z.out⟩, by simp only [intOf]; omega⟩
              · obtain rfl : M = k := by omega
                have e1 : o2.take M = o2 := List.take_of_length_le (by rw [HOL.out]; exact Nat.le_refl _)
                have hS2 := hS.out
                unfold BkI at hS2
                rw [e1, HRT.out] at hS2
                obtain ⟨O, hI, hO, hB, -, -⟩ := hS2
                clear hS e1 HRT
                have CX := hd (itext_any x T wr hI.ix (by rw [HTl.out]; have := HN.out; omega))
                simp only [HTTe.out] at CX
                have HB := hd hB
                clear hI hO hB
                go_wp2_with (go_at_call 18; refine CX.out.mono ?_; rintro e u9 ⟨rfl, hu9⟩)
                go_ret
                exact ⟨by simp, HB.out.trans (hu9.mono HB.out.size)⟩
end Go.Proofs.Ytlmgogonghafeaa
