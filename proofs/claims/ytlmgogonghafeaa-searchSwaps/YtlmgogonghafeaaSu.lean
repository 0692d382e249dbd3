/-
  The law Swaps, walked.
-/
import Derived.Test.YtlmgogonghafeaaSt
import Derived.Test.YtlmgogonghafeaaGq
import Derived.Test.YtlmgogonghafeaaFo
import Derived.Test.YtlmgogonghafeaaSp
import Derived.Deep.CutRange
namespace Go.Proofs.Ytlmgogonghafeaa
open Go.RowKit Go.Lib
set_option linter.unusedVariables false

/-- Between two of Swap's operations. -/
def SuI (w : World) (x : Nat) (xs : List El) (os : List OpE) (β : Option Nat) (vo : Value) (k : Nat) (v : Value) (wr : World) : Prop :=
  ∃ (a : Option Addr) (c : Nat) (O : Nat → Prop), v = .slice a (runX xs (os.take k)).length c ∧ IsE wr a (runX xs (os.take k)).length c (runX xs (os.take k)) ∧ (∀ b off, a = some ⟨b, off, none⟩ → ¬ O b ∧ b < wr.heap.size) ∧ IM wr O x (tB (runX xs (os.take k))) ∧ (∀ k, O k → w.heap.size ≤ k ∧ k < wr.heap.size) ∧ Below w.heap.size w wr ∧ (runX xs (os.take k)).length ≤ 1000 + k ∧ SF opc 5 wr 39 β vo os ∧ ∀ g, β = some g → ¬ O g
theorem runX_take {xs : List El} {os : List OpE} {k : Nat} (hk : k < os.length) : runX xs (os.take (k + 1)) = applyP (runX xs (os.take k)) os[k] := by
  unfold runX
  rw [List.take_succ_eq_append_getElem hk, List.foldl_append]
  rfl
theorem su_step {w W W' W'' : World} {x k : Nat} {xs : List El} {os : List OpE} {β : Option Nat} {vo v : Value} {O : Nat → Prop} (hk : k < os.length) (hO : ∀ k, O k → w.heap.size ≤ k ∧ k < W.heap.size) (hB : Below w.heap.size w W) (hS : SF opc 5 W 39 β vo os) (hβ : ∀ g, β = some g → ¬ O g) (b1 : Below W.heap.size W W')
    (hE : OwnE W' W.heap.size v (applyP (runX xs (os.take k)) os[k])) (hA : ApR W' W'' O x (apT (tB (runX xs (os.take k))) os[k])) (hy : (applyP (runX xs (os.take k)) os[k]).length ≤ 1000 + (k + 1)) : SuI w x xs os β vo (k + 1) v W'' := by
  obtain ⟨g, cc, hg, rfl, hR⟩ := hE.form
  obtain ⟨hI, hF⟩ := hA
  have hs := hF.size
  have hs1 := b1.size
  have hE1 : IsE W' (some ⟨g, 0, none⟩) (applyP (runX xs (os.take k)) os[k]).length cc (applyP (runX xs (os.take k)) os[k]) ∧ g < W'.heap.size := by
    have h0 : SE W' (some g) (.slice (some ⟨g, 0, none⟩) (applyP (runX xs (os.take k)) os[k]).length cc) (applyP (runX xs (os.take k)) os[k]) := ⟨cc, rfl, hR⟩
    obtain ⟨a', c', hv, hE, -⟩ := h0.form
    obtain ⟨rfl, -, rfl⟩ := Value.slice.inj hv
    refine ⟨hE, ?_⟩
    obtain ⟨cur, hh, -⟩ := hR
    exact block_lt hh
  have hg' : ¬ O g := fun h => by have := (hO g h).2; omega
  unfold SuI
  rw [runX_take hk]
  refine ⟨_, cc, fun j => O j ∨ (W'.heap.size ≤ j ∧ j < W''.heap.size), rfl, hE1.1.frm hF (fun b off e h => ?_), ?_, ?_, ?_, ?_, hy, ?_, ?_⟩
  · injection e with e
    injection e with e
    subst e
    exact hg' h.1
  · intro b off e
    injection e with e
    injection e with e
    subst e
    refine ⟨fun h => ?_, by have := hE1.2; omega⟩
    rcases h with h | h
    · exact hg' h
    · have := hE1.2
      omega
  · rw [tB_apply]
    exact hI
  · intro j hj
    have := hB.size
    rcases hj with hj | hj
    · have := hO j hj
      omega
    · omega
  · exact (hB.trans (b1.mono hB.size)).trans (hF.below (Nat.le_trans hB.size hs1) (fun j hj => (hO j hj.1).1))
  · exact (hS.fr (Fr.of_below (S := fun _ => False) b1) (fun _ _ h => h)).fr hF (fun g' hg' h => hβ g' hg' h.1)
  · intro g' hg' h
    rcases h with h | h
    · exact hβ g' hg' h
    · have := hS.lt g' hg'
      omega

set_option maxRecDepth 100000 in
set_option maxHeartbeats 8000000 in
theorem swaps_law (t p0 b0 : ByteArray) (w : World) (ht : t.size ≤ 9223372036854775807) (hp0 : p0.size ≤ 9223372036854775807) (hb0 : b0.size ≤ 9223372036854775807) :
    Calls Try.prog 5 #[.string t, .string p0, .string b0] w fun e w' => e = .returned (.bool true) ∧ Below w.heap.size w w' := by
  have CE := hd (elems_any t 1000 w (by omega) ht)
  obtain ⟨N, hN⟩ : ∃ N, min t.size 1000 = N := ⟨_, rfl⟩
  have HN : Hid (N ≤ 1000 ∧ N ≤ t.size) := by constructor <;> omega
  rw [hN] at CE
  have HLN := hd (elS_len t.data.toList N)
  have HK := hd (fun p b => swK t.data.toList N p b HN.out.1)
  generalize elS t.data.toList N = xs at *
  have CP := hd (fun W => needle_any p0 W hp0)
  have CB := hd (fun W => needle_any b0 W hb0)
  obtain ⟨PP, hPP⟩ : ∃ PP : ByteArray, bsA (ndP p0.data.toList) = PP := ⟨_, rfl⟩
  obtain ⟨QB, hQB⟩ : ∃ QB : ByteArray, bsA (ndP b0.data.toList) = QB := ⟨_, rfl⟩
  have HPT : Hid (patB PP.data.toList = true) := by show _ = _; rw [← hPP, bsA_list]; exact patB_ndP _
  have HQT : Hid (patB QB.data.toList = true) := by show _ = _; rw [← hQB, bsA_list]; exact patB_ndP _
  rw [hPP] at CP
  rw [hQB] at CB
  obtain ⟨P, hPs⟩ : ∃ P, PP.size = P := ⟨_, rfl⟩
  have HPl : Hid (PP.data.toList.length = P) := by show _ = _; rw [← hPs]; simp
  have HPS := hd hPs
  have HP64 : Hid (1 ≤ P ∧ P ≤ 64) := by
    obtain ⟨q1, q2, -⟩ := (patB_iff _).1 HPT.out
    have := HPl.out
    exact ⟨by omega, by omega⟩
  clear hPP hQB hN ht hp0 hb0 hPs
  go_enter Try.func5, Try.ntmps5
  go_upto_region 2 with (go_at_call 9; refine CE.out.mono ?_; rintro e w1 ⟨v, rfl, hT⟩)
  obtain ⟨a, c, rfl, hE, hab⟩ := hT.isE
  have B1 := hd hT.choose_spec.2.2
  rw [HLN.out] at hE ⊢
  have HAB : Hid (∀ b off, a = some ⟨b, off, none⟩ → b < w1.heap.size) := by
    intro b off e
    by_cases h0 : 0 < N
    · obtain ⟨b', off', e', hb', -⟩ := hE.2.2.2 h0
      rw [e'] at e
      injection e with e
      injection e with e1 e2
      omega
    · obtain ⟨β, h1, h2, h3⟩ := hT
      cases β with
      | none =>
        obtain ⟨hv, -⟩ := h1
        injection hv with hv
        rw [hv] at e
        cases e
      | some g =>
        have := h1.lt g rfl
        obtain ⟨cap, hv, -⟩ := h1
        injection hv with hv
        rw [hv] at e
        injection e with e
        injection e with e1 e2
        omega
  have CT := text_any a N c xs w1 hE (by have := HN.out; omega)
  rw [bstr_tB] at CT
  have HE := hd hE
  obtain ⟨TT, hTT⟩ : ∃ TT, bsA (tB xs) = TT := ⟨_, rfl⟩
  rw [hTT] at CT
  have CT := hd CT
  have HTl : Hid ((tB xs).length = N) := by show _ = _; simp [tB, HLN.out]
  have HTd : Hid (TT.data.toList = tB xs) := by show _ = _; rw [← hTT]; exact bsA_list _
  have HTs : Hid (TT.size = N) := by show _ = _; rw [← hTT, bsA_size]; exact HTl.out
  clear hE hT CE hab
  go_upto_region 3 with (go_at_call 14; refine CT.out.mono ?_; rintro e w2 ⟨rfl, hb2⟩)
  have CN := hd (new_own a N c xs w2 (HE.out.below hb2) (by have := HN.out; omega))
  have B2 := hd (B1.out.trans (hb2.mono B1.out.size))
  have HE2 := hd (HE.out.below hb2)
  have HS12 := hd hb2.size
  clear hb2 CT HE
  go_upto_region 4 with (go_at_call 10; refine CN.out.mono ?_; rintro e w3 ⟨x, rfl, hI, hx, hb3⟩)
  have B3 := hd (B2.out.trans (hb3.mono B2.out.size))
  have HI := hd hI
  have HE3 := hd (HE2.out.below hb3)
  have HS23 := hd hb3.size
  clear hI hx hb3 CN HE2
  go_upto_region 7 with (go_at_call 11; refine (CP.out _).mono ?_; rintro e w4 ⟨rfl, hb4⟩)
  have C4 := hd hb4
  clear hb4 CP
  go_upto_if 32 with fail
  obtain ⟨bb, hbb⟩ : ∃ bb, (!b0.toList.isEmpty) = bb := ⟨_, rfl⟩
  rw [hbb]
  clear hbb
  go_cut [11] (fun qv wx => ∃ QQ : ByteArray, qv = .string QQ ∧ Hid (fillB QQ.data.toList = true ∧ Below w3.heap.size w3 wx))
  case first =>
    have Z0 : Hid (fillB QB.data.toList = true) := by
      have := HQT.out
      unfold patB at this
      rw [Bool.and_eq_true] at this
      exact this.2
    cases bb with
    | false =>
      have Z : Hid (fillB (⟨#[]⟩ : ByteArray).data.toList = true ∧ Below w3.heap.size w3 w4) := ⟨by decide, C4.out⟩
      go_wp2_with fail
      go_meet
      exact ⟨_, rfl, Z⟩
    | true =>
      go_wp2_with (go_at_call 11; refine (CB.out _).mono ?_; rintro e w5 ⟨rfl, hb5⟩; have Z : Hid (fillB QB.data.toList = true ∧ Below w3.heap.size w3 w5) := ⟨Z0.out, C4.out.trans (hb5.mono C4.out.size)⟩)
      go_meet
      exact ⟨_, rfl, Z⟩
  case rest =>
    obtain ⟨QQ, rfl, hQ⟩ := hcut
    obtain ⟨hQf, C5⟩ := hQ.out
    have C5 := hd C5
    have HQF := hd hQf
    obtain ⟨Q, hQs⟩ : ∃ Q, QQ.size = Q := ⟨_, rfl⟩
    have HQl : Hid (QQ.data.toList.length = Q) := by show _ = _; rw [← hQs]; simp
    have HQS := hd hQs
    have HQ64 : Hid (Q ≤ 64) := by
      obtain ⟨q1, -⟩ := (fillB_iff _).1 hQf
      have := HQl.out
      show Q ≤ 64
      omega
    obtain ⟨S2, hS2⟩ : ∃ S2, bsA (sc (tB xs) PP.data.toList QQ.data.toList N 0).2 = S2 := ⟨_, rfl⟩
    obtain ⟨n, hn⟩ : ∃ n, (apP (tB xs) PP.data.toList).length = n := ⟨_, rfl⟩
    have hsc : (sc (tB xs) PP.data.toList QQ.data.toList N 0).1.length = n := by
      rw [← hn, ← sc_apP (q := QQ.data.toList) (by rw [HPl.out]; exact HP64.out.1), HTl.out]
    have CSw := fun W => swapped_any TT PP QQ W (by rw [HTs.out]; have := HN.out; omega) (by rw [HPS.out]; exact HP64.out.1) (by rw [HPS.out]; exact HP64.out.2) (by rw [hQs]; exact HQ64.out)
    simp only [HTd.out, HTs.out, hS2, hsc] at CSw
    have CSw := hd CSw
    have CS := hd (fun W hW => swap_good x (tB xs) PP QQ 64 3 W (HI.out.ix.below hW) (by rw [HTl.out]; have := HN.out; omega) HPT.out HQF.out (by omega))
    have CX := hd (fun W hW => itext_any x (tB xs) W (HI.out.ix.below hW) (by rw [HTl.out]; have := HN.out; omega))
    simp only [hTT] at CX
    have HSC : Hid (S2 = bsA (sc (tB xs) PP.data.toList QQ.data.toList N 0).2) := hS2.symm
    have HNn := hd hn
    have hnN : n ≤ 1000 := by
      have h1 := apS_len PP.data.toList.length (plc (tB xs) PP.data.toList)
      have h2 := fnd_len (T := tB xs) (p := PP.data.toList) (s0 := 0) (t := (tB xs).length) (by rw [HPl.out]; exact HP64.out.1)
      unfold plc at h1
      unfold apP plc at hn
      have h3 := HTl.out
      have h4 := HN.out
      omega
    clear hS2 hn hsc hQf hQ hTT
    go_upto_region 11 with (go_at_call 21; refine (CSw.out _).mono ?_; rintro e w6 ⟨rfl, hb6⟩)
    have C6 := hd (C5.out.trans (hb6.mono C5.out.size))
    clear hb6 CSw
    obtain ⟨M, hM⟩ : ∃ M, n * (P + Q) = M := ⟨_, rfl⟩
    have HM := hd hM
    have hMi : (n : Int) * ((P : Int) + (Q : Int)) = (M : Int) := by rw [← hM]; simp
    have hwPQ : IntKind.i64.wrap ((P : Int) + (Q : Int)) = (P : Int) + (Q : Int) := by
      have := HP64.out; have := HQ64.out
      rw [IntKind.wrap_i64]
      omega
    have hM9 : M ≤ 128000 := by
      have h1 := HP64.out; have h2 := HQ64.out
      rw [← hM]
      calc n * (P + Q) ≤ 1000 * 128 := Nat.mul_le_mul hnN (by omega)
        _ = 128000 := rfl
    have hwM : IntKind.i64.wrap (M : Int) = (M : Int) := by rw [IntKind.wrap_i64]; omega
    have hPs2 := HPS.out
    have hQs2 := HQS.out
    clear hM
    by_cases hmany : 62 < M
    · have CS1 : Hid (∀ W, Below w3.heap.size w3 W → Calls Try.prog 17 #[.pointer (some ⟨x, 0, none⟩), .string PP, .string QQ, .int .i64 64, .int .i64 3] W fun e w' => e = .returned (.tuple #[.slice none 0 0, .int .i64 222]) ∧ Below W.heap.size W w') := by
        intro W hW
        refine (CS.out W hW).mono ?_
        rintro e w' ⟨hb, h⟩
        have h222 : swE (tB xs) PP.data.toList QQ.data.toList 64 3 = 222 := swE_many _ _ _ (by rw [HNn.out, HPl.out, HQl.out, HM.out]; exact hmany)
        rw [h222] at h
        rcases h with ⟨-, h⟩ | ⟨h, -⟩
        · exact ⟨h, hb⟩
        · exact absurd h (by decide)
      go_upto_region 12 with (go_at_call 17; refine (CS1.out w6 C6.out).mono ?_; rintro e w7 ⟨rfl, hb7⟩)
      have C7 := hd (C6.out.trans (hb7.mono C6.out.size))
      clear hb7 CS1 CS
      go_wp2_with (go_at_call 18; refine (CX.out w7 C7.out).mono ?_; rintro e w8 ⟨rfl, hb8⟩)
      go_ret
      exact ⟨by simp, (B3.out.trans ((C7.out.trans (hb8.mono C7.out.size)).mono B3.out.size))⟩
    · have hm62 : M ≤ 62 := by omega
      obtain ⟨os, hos⟩ : ∃ os, swS 64 3 (apP (tB xs) PP.data.toList) PP.data.toList.length QQ.data.toList n = os := ⟨_, rfl⟩
      have hosl : os.length = M := by
        rw [← hos, swS_len, HPl.out, HQl.out]
        exact HM.out
      have HSK : Hid (SwK xs PP.data.toList QQ.data.toList os) := by
        have := HK.out PP.data.toList QQ.data.toList (by rw [HPl.out]; exact HP64.out.1) ((fillB_iff _).1 HQF.out).2 (by rw [HNn.out, HPl.out, HQl.out, HM.out]; exact hm62)
        rw [HNn.out, hos] at this
        exact this
      have CS1 : Hid (∀ W, Below w3.heap.size w3 W → Calls Try.prog 17 #[.pointer (some ⟨x, 0, none⟩), .string PP, .string QQ, .int .i64 64, .int .i64 3] W fun e w' => ∃ v β, e = .returned (.tuple #[v, .int .i64 0]) ∧ Below W.heap.size W w' ∧ SF opc 5 w' 39 β v os ∧ ∀ k, β = some k → W.heap.size ≤ k) := by
        intro W hW
        refine (CS.out W hW).mono ?_
        rintro e w' ⟨hb, h⟩
        have h0 : swE (tB xs) PP.data.toList QQ.data.toList 64 3 = 0 := swE_few _ _ _ (by rw [HTl.out]; exact HN.out.1) (by rw [HNn.out, HPl.out, HQl.out, HM.out]; exact hm62)
        rw [h0, HNn.out, hos] at h
        rcases h with ⟨h, -⟩ | ⟨-, v, β, h1, h2, h3⟩
        · exact absurd rfl h
        · exact ⟨v, β, h1, hb, h2, h3⟩
      have HOL := hd hosl
      clear hos hosl CS HK
      go_upto_region 12 with (go_at_call 17; refine (CS1.out w6 C6.out).mono ?_; rintro e w7 ⟨v7, β, rfl, hb7, hS7, hβ7⟩)
      have C7 := hd (C6.out.trans (hb7.mono C6.out.size))
      obtain ⟨av, cv, rfl, hlv, hcv⟩ := hS7.form
      rw [HOL.out] at hlv ⊢
      have HS7 := hd hS7
      have Hβ7 : Hid (∀ k, β = some k → w3.heap.size ≤ k) := fun k hk => Nat.le_trans C6.out.size (hβ7 k hk)
      rw [HOL.out] at HS7
      clear hb7 CS1 hS7 hβ7
      go_upto_region 14 with (go_at_call 18; refine (CX.out w7 C7.out).mono ?_; rintro e w8 ⟨rfl, hb8⟩)
      have C8 := hd (C7.out.trans (hb8.mono C7.out.size))
      have HS8 := hd (HS7.out.fr (Fr.of_below (S := fun _ => False) hb8) (fun _ _ h => h))
      have HM62 := hd hm62
      clear hb8 HS7 CX hmany
      go_upto_region 19 with fail
      have S0 : Hid (SuI w x xs os β (.slice av M cv) 0 (.slice a N c) w8) := by
        have hD : Below w.heap.size w w8 := B3.out.trans (C8.out.mono B3.out.size)
        have e0 : runX xs (os.take 0) = xs := rfl
        refine ⟨a, c, fun k => w2.heap.size ≤ k ∧ k < w3.heap.size, ?_, ?_, ?_, ?_, ?_, hD, ?_, HS8.out, ?_⟩
        · rw [e0, HLN.out]
        · rw [e0, HLN.out]
          exact HE3.out.below C8.out
        · intro b off e
          have h1 := HAB.out b off e
          have h2 := HS12.out
          have h3 := HS23.out
          have h4 := C8.out.size
          exact ⟨by omega, by omega⟩
        · rw [e0]
          exact HI.out.below C8.out
        · intro j hj
          have h1 := B2.out.size
          have h2 := C8.out.size
          omega
        · rw [e0, HLN.out]
          have := HN.out
          omega
        · intro g hg h
          have := Hβ7.out g hg
          omega
      clear HE3 HI HAB HS12 HS23 B1 B2 HS8 Hβ7
      go_wp2_with fail
      go_loopw [7, 17] (fun dv iv wr => ∃ k : Nat, iv = .int .i64 k ∧ k ≤ M ∧ Hid (SuI w x xs os β (.slice av M cv) k dv wr)) (fun _ iv _ => M - (intOf iv).toNat)
      case atStart => exact ⟨0, rfl, Nat.zero_le _, S0.out⟩
      case round =>
        obtain ⟨k, rfl, hk, hS⟩ := hrel
        clear S0
        by_cases hlt : k < M
        · obtain ⟨ad, cd, O, rfl, hE, hab, hI, hO, hB, hlx, hSF, hβ⟩ := hS.out
          have hko : k < os.length := by rw [HOL.out]; exact hlt
          obtain ⟨r1, r2, r3, r4, r5, r6⟩ := HSK.out.ok k hko
          cases β with
          | none =>
            obtain ⟨-, h⟩ := hSF
            rw [h] at hko
            simp at hko
          | some g =>
            have hgl := hSF.lt g rfl
            obtain ⟨cap, hv, hR⟩ := hSF
            obtain ⟨rfl, -, rfl⟩ := Value.slice.inj hv
            have hcell : ∀ (W : World), RowF opc 5 W g os.length cv 39 os → ∀ r u, (opc os[k])[r]? = some u → r < 5 → W.cell? ⟨g, k * 5 + r, none⟩ = some u := by
              intro W hW r u hu hr
              rw [hW.cell (fun x => ⟨rfl, fun v hv => by simp [opc] at hv; rcases hv with rfl | rfl | rfl | rfl | rfl <;> rfl⟩) k r hko hr]
              exact hu
            have hSF : SF opc 5 wr 39 (some g) (.slice (some ⟨g, 0, none⟩) M cv) os := ⟨cv, by rw [HOL.out], hR⟩
            have HST := hd (fun (W' W'' : World) (v : Value) (b1 : Below wr.heap.size wr W') hE2 hA hy => su_step (w := w) (W := wr) (W' := W') (W'' := W'') (x := x) (k := k) (xs := xs) (os := os) (β := some g) (vo := .slice (some ⟨g, 0, none⟩) M cv) (v := v) (O := O) hko hO hB hSF hβ b1 hE2 hA hy)
            have HRK := hd (And.intro hR (And.intro hgl (hβ g rfl)))
            have HCE := hd hcell
            have HLE := hd (apply_len (runX xs (os.take k)) os[k] r1)
            obtain ⟨o, ho⟩ : ∃ o, os[k] = o := ⟨_, rfl⟩
            have hc0 := fun r u h1 h2 => hcell wr hR r u h1 h2
            simp only [ho] at r1 r2 r3 r4 r5 r6 HST HCE HLE hc0
            clear ho hcell
            obtain ⟨ok, op, oc, ol, oq⟩ := o
            simp only at r2 r3 r4 r5 r6
            subst r2 r3
            obtain ⟨ys, hys⟩ : ∃ ys, runX xs (os.take k) = ys := ⟨_, rfl⟩
            rw [hys] at hE hI hlx r1 ⊢
            simp only [hys] at HST HLE
            obtain ⟨L, hL⟩ : ∃ L, ys.length = L := ⟨_, rfl⟩
            rw [hL] at hE hlx r1 HLE ⊢
            have k0 := hc0 0 _ rfl (by omega)
            have k1 := hc0 1 _ rfl (by omega)
            have k2 := hc0 2 _ rfl (by omega)
            have k3 := hc0 3 _ rfl (by omega)
            have k4 := hc0 4 _ rfl (by omega)
            rw [Nat.add_zero] at k0
            have CD := hd (apply_good ad L cd ok op oc 64 (3 + (k : Int)) ys wr hE r5 r6 r1)
            have HTL : Hid ((tB ys).length = L) := by show _ = _; simp [tB, hL]
            have CA := hd (fun W hW => iapply_good x O (tB ys) ok op oc 64 (3 + (k : Int)) W (hI.below hW) r5 r6 (by rw [HTL.out]; exact r1))
            have HLX := hd hlx
            have HO := hd hO
            have hk0 : ¬ ok = 0 := by omega
            have hw3 : IntKind.i64.wrap (3 + (k : Int)) = 3 + (k : Int) := by rw [IntKind.wrap_i64]; omega
            clear hE hI hlx r1 r4 r5 r6 hab hO hB hSF hβ hR hc0 hS hL hys hv
            go_upto_region 23 with (go_at_call 19; refine CD.out.mono ?_; rintro e V1 ⟨dv, rfl, hOw, hv1⟩)
            have hR1 := HRK.out.1.fr (Fr.of_below (S := fun _ => False) hv1) (fun h => h)
            have hc1 := fun r u h1 h2 => HCE.out V1 hR1 r u h1 h2
            have j0 := hc1 0 _ rfl (by omega)
            have j1 := hc1 1 _ rfl (by omega)
            have j2 := hc1 2 _ rfl (by omega)
            have j3 := hc1 3 _ rfl (by omega)
            have j4 := hc1 4 _ rfl (by omega)
            rw [Nat.add_zero] at j0
            have HV1 := hd hv1
            have HR1 := hd hR1
            have HOw := hd hOw
            obtain ⟨gd, cdd, -, rfl, -⟩ := hOw.form
            clear hv1 hR1 hc1 hOw CD k0 k1 k2 k3 k4
            go_upto_region 24 with (go_at_call 20; refine (CA.out V1 HV1.out).mono ?_; rintro e V2 ⟨rfl, hA⟩)
            have hR2 := HR1.out.fr hA.2 (fun h => HRK.out.2.2 h.1)
            have hc2 := fun r u h1 h2 => HCE.out V2 hR2 r u h1 h2
            have i0 := hc2 0 _ rfl (by omega)
            have i3 := hc2 3 _ rfl (by omega)
            have i4 := hc2 4 _ rfl (by omega)
            rw [Nat.add_zero] at i0
            have Z := hd (HST.out V1 V2 _ HV1.out HOw.out hA (by have := HLE.out; have := HLX.out; omega))
            clear hA hR2 hc2 CA HST HCE HR1 HOw j0 j1 j2 j3 j4
            generalize (applyP ys ⟨ok, op, oc, 64, 3 + (k : Int)⟩).length = L2 at *
            go_wp2
            exact ⟨⟨k + 1, by go_num, by omega, Z.out⟩, by simp only [intOf]; omega⟩
        · obtain rfl : k = M := by omega
          obtain ⟨ad, cd, O, rfl, hE, hab, hI, hO, hB, hlx, -, -⟩ := hS.out
          have e1 : os.take k = os := List.take_of_length_le (by rw [HOL.out]; exact Nat.le_refl _)
          rw [e1] at hE hI hlx ⊢
          obtain ⟨g1, g2, g3, g4, g5⟩ := HSK.out
          obtain ⟨ys, hys⟩ : ∃ ys, runX xs os = ys := ⟨_, rfl⟩
          rw [hys] at hE hI hlx g2 g3 g4 g5 ⊢
          obtain ⟨L, hL⟩ : ∃ L, ys.length = L := ⟨_, rfl⟩
          rw [hL] at hE hlx ⊢
          have hl9 : L ≤ 1062 := by have := HM62.out; omega
          have CX := itext_any x (tB ys) wr hI.ix (by simp [tB, hL]; omega)
          have CY := fun W (hW : Below wr.heap.size wr W) => text_any ad L cd ys W (hE.below hW) (by omega)
          simp only [bstr_tB] at CY
          have e2 : bsA (tB ys) = S2 := by rw [g2, HSC.out, HTl.out]
          rw [e2] at CX
          simp only [e2] at CY
          have CX := hd CX
          have CY := hd CY
          have hpn : (P : Int) * (n : Int) = ((n * P : Nat) : Int) := by rw [Nat.mul_comm]; simp
          have hnP : n * P ≤ k := by rw [← HM.out]; exact Nat.mul_le_mul_left _ (Nat.le_add_right _ _)
          have hwp : IntKind.i64.wrap ((n * P : Nat) : Int) = ((n * P : Nat) : Int) := by have := HM62.out; rw [IntKind.wrap_i64]; omega
          have CK := hd (fun W (hW : Below wr.heap.size wr W) => kept_true ad L cd ys (N : Int) ((n * P : Nat) : Int) W (hE.below hW) (by omega) g5 g3 (by rw [HNn.out, HPl.out, HLN.out] at g4; omega) (by omega) (by have := HN.out; omega) (by omega) (by have := HM62.out; omega))
          have hTs2 := HTs.out
          have BB := hd hB
          obtain ⟨nP, hnPe⟩ : ∃ nP, n * P = nP := ⟨_, rfl⟩
          rw [hnPe] at hpn hwp
          simp only [hnPe] at CK
          clear hE hI hO hab hB hS g1 g2 g3 g4 g5 e1 e2 hys hL hlx hnP hnPe
          go_wp2_with (first
            | (go_at_call 18; refine CX.out.mono ?_; rintro e V1 ⟨rfl, hv1⟩)
            | (go_at_call 14; refine (CY.out V1 hv1).mono ?_; rintro e V2 ⟨rfl, hv2⟩; have hv3 := hv1.trans (hv2.mono hv1.size))
            | (go_at_call 22; refine (CK.out V2 hv3).mono ?_; rintro e V4 ⟨rfl, m4, rfl⟩))
          go_ret
          exact ⟨by simp, below_drewN (BB.out.trans (hv3.mono BB.out.size)) m4⟩
end Go.Proofs.Ytlmgogonghafeaa
