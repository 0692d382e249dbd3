/-
  The law Refuses, walked.
-/
import Derived.Test.YtlmgogonghafeaaRf1
import Derived.Deep.CutRange
namespace Go.Proofs.Ytlmgogonghafeaa
open Go.RowKit Go.Lib
set_option linter.unusedVariables false

set_option maxRecDepth 100000 in
set_option maxHeartbeats 4000000 in
theorem refuses_law (t : ByteArray) (nv : Int) (B : UInt8) (k p c l s : Int) (w : World) (ht : t.size ≤ 9000000000000000000) (h0 : 0 ≤ c) (h1 : c ≤ 255) :
    Calls Try.prog 4 #[.agg #[.string t, .int .i64 nv, .int .u8 ((B.toNat : Nat) : Int)], .agg #[.int .i64 k, .int .i64 p, .int .u8 c, .int .i64 l, .int .i64 s]] w fun e w' => e = .returned (.bool true) ∧ Below w.heap.size w w' := by
  obtain ⟨S, hS⟩ : ∃ S : ByteArray, ({ data := #[98] } ++ t : ByteArray) = S := ⟨_, rfl⟩
  have hSl : S.data.toList = 98 :: t.data.toList := by
    rw [← hS]
    simp
  have hSs : S.size = t.size + 1 := by
    have h1 : S.data.toList.length = S.size := by simp
    have h2 : t.data.toList.length = t.size := by simp
    rw [hSl] at h1
    simp at h1
    omega
  obtain ⟨n0, hn⟩ : ∃ n0, min S.size 500 = n0 := ⟨_, rfl⟩
  have HT3 : Hid (∃ r, tB (elS S.data.toList n0) = 98 :: r) := by
    show ∃ r, _
    rw [tB_elS _ _ (by rw [hSl]; have h2 : t.data.toList.length = t.size := by simp
                       simp; omega), hSl]
    obtain ⟨m, rfl⟩ : ∃ m, n0 = m + 1 := ⟨n0 - 1, by omega⟩
    exact ⟨_, rfl⟩
  have hn5 : n0 ≤ 500 := by omega
  have HLN := hd (elS_len S.data.toList n0)
  obtain ⟨W0, hW0⟩ : ∃ W0, (w.alloc (.cells #[.string t, .int .i64 nv, .int .u8 ((B.toNat : Nat) : Int)] 37)).alloc (.cells #[.int .i64 k, .int .i64 p, .int .u8 c, .int .i64 l, .int .i64 s] 39) = W0 := ⟨_, rfl⟩
  have b0 : Below w.heap.size w W0 := by rw [← hW0]; exact ((Below.refl _ _).alloc (Nat.le_refl _) _).alloc (by simp) _
  have s1 : W0.heap[w.heap.size]? = some (.cells #[.string t, .int .i64 nv, .int .u8 ((B.toNat : Nat) : Int)] 37 (0, 0)) := by
    rw [← hW0, heap_alloc_old _ _ (by simp)]
    exact heap_alloc_new w _
  have s2 : W0.heap[w.heap.size + 1]? = some (.cells #[.int .i64 k, .int .i64 p, .int .u8 c, .int .i64 l, .int .i64 s] 39 (0, 0)) := by
    rw [← hW0]
    have := heap_alloc_new (w.alloc (.cells #[.string t, .int .i64 nv, .int .u8 ((B.toNat : Nat) : Int)] 37)) (.cells #[.int .i64 k, .int .i64 p, .int .u8 c, .int .i64 l, .int .i64 s] 39)
    simpa using this
  have CE := elems_any S 500 W0 (by omega) (by omega)
  rw [hn] at CE
  have CE := hd CE
  generalize elS S.data.toList n0 = xs at *
  have a0 : W0.cell? ⟨w.heap.size, 0, none⟩ = some (.string t) := by have := cell_row s1 0; simpa using this
  have a1 : W0.cell? ⟨w.heap.size, 1, none⟩ = some (.int .i64 nv) := by have := cell_row s1 1; simpa using this
  have a2 : W0.cell? ⟨w.heap.size, 2, none⟩ = some (.int .u8 ((B.toNat : Nat) : Int)) := by have := cell_row s1 2; simpa using this
  have HS1 := hd s1
  have HS2 := hd s2
  have B0 := hd b0
  have H0 := hd h0
  have H1 := hd h1
  clear hSl hSs hn s1 s2 b0 h0 h1
  go_enter Try.func4, Try.ntmps4
  go_upto_region 1 with fail
  clear hW0
  go_wp2_with fail
  refine CE.out.mono ?_
  rintro e w1 ⟨v, rfl, hT⟩
  clear ht
  obtain ⟨a, cc, rfl, hE, -⟩ := hT.isE
  have B1 := hd hT.choose_spec.2.2
  rw [HLN.out] at hE ⊢
  have CT := text_any a n0 cc xs w1 hE (by omega)
  rw [bstr_tB] at CT
  have CT := hd CT
  have HE := hd hE
  have HTl : Hid ((tB xs).length = n0) := by show _ = _; simp [tB, HLN.out]
  clear hE hT CE hS a0 a2
  go_upto_region 4 with (go_at_call 14; refine CT.out.mono ?_; rintro e w2 ⟨rfl, hb2⟩)
  have CN := hd (new_own a n0 cc xs w2 (HE.out.below hb2) (by omega))
  have B2 := hd (B1.out.trans (hb2.mono B1.out.size))
  have HE2 := hd (HE.out.below hb2)
  clear hb2 CT HE
  go_upto_region 5 with (go_at_call 10; refine CN.out.mono ?_; rintro e w3 ⟨x, rfl, hI, hx, hb3⟩)
  have B3 := hd (B2.out.trans (hb3.mono B2.out.size))
  have HI := hd hI
  have HE3 := hd (HE2.out.below hb3)
  have HX : Hid (W0.heap.size ≤ w2.heap.size) := B2.out.size
  have a1' : w3.cell? ⟨w.heap.size, 1, none⟩ = some (.int .i64 nv) := by rw [B3.out.cell (p := ⟨w.heap.size, 1, none⟩) (block_lt HS1.out)]; exact a1
  clear hI hx hb3 CN a1 HE2 B1
  have CI := into_any nv 70 w3 (by omega) (by omega)
  obtain ⟨n, hn⟩ : ∃ n, (nv % ((70 : Nat) : Int)).toNat = n := ⟨_, rfl⟩
  have hn70 : n < 70 := by
    have := Int.emod_lt_of_pos nv (show (0 : Int) < ((70 : Nat) : Int) by omega)
    omega
  rw [hn] at CI
  have e70 : ((70 : Nat) : Int) = 70 := rfl
  rw [e70] at CI
  have CI := hd CI
  clear hn e70
  go_upto_region 8 with (go_at_call 16; refine CI.out.mono ?_; rintro e w4 ⟨rfl, rfl⟩)
  go_wp2_with fail
  go_loopw [10, 11] (fun bv iv wr => ∃ i : Nat, iv = .int .i64 i ∧ i ≤ n ∧ Hid (BsI w4 wr bv (List.replicate i 98))) (fun _ iv _ => n - (intOf iv).toNat)
  case atStart => exact ⟨0, rfl, Nat.zero_le _, BsI.nil w4⟩
  case round =>
    obtain ⟨i, rfl, hi, hB⟩ := hrel
    by_cases hlt : i < n
    · obtain ⟨v', w', hrun, hB2⟩ := hB.out.byte 98 (by simp; omega)
      have e98 : (((98 : UInt8).toNat : Nat) : Int) = 98 := rfl
      rw [e98] at hrun
      have HB2 : Hid (BsI w4 w' v' (List.replicate (i + 1) 98)) := by
        show BsI _ _ _ _
        rw [List.replicate_succ', ]
        exact hB2
      clear hB hB2 e98
      go_wp2_with (at_builtin; refine wpList_append_k _ rfl _ _ 41 41 rfl _ _ rfl rfl (hrun _) ?_)
      exact ⟨⟨i + 1, by go_num, by omega, HB2.out⟩, by simp only [intOf]; omega⟩
    · obtain rfl : n = i := by omega
      have HBy := hd hB.out
      have B4 := hd hB.out.2
      clear hB
      obtain ⟨PP, hPP⟩ : ∃ PP, bsA (List.replicate n 98) = PP := ⟨_, rfl⟩
      have hPl : PP.data.toList = List.replicate n 98 := by rw [← hPP]; exact bsA_list _
      have hPs : PP.size = n := by
        have h1 : PP.data.toList.length = PP.size := by simp
        rw [hPl] at h1
        simpa using h1.symm
      have CV := hd (fun W (hW : Below wr.heap.size wr W) => (HBy.out.below hW).text)
      simp only [hPP] at CV
      have HI4 := hd (fun W (hW : Below wr.heap.size wr W) => (HI.out.ix.below B4.out).below hW)
      obtain ⟨T, hT⟩ : ∃ T, tB xs = T := ⟨_, rfl⟩
      simp only [hT] at HI4
      have HIM := HI.out
      rw [hT] at HIM ⊢
      have HIM := hd HIM
      have HTl2 : Hid (T.length = n0) := by show _ = _; rw [← hT]; exact HTl.out
      have HT98 : Hid (∃ r, T = 98 :: r) := by rw [← hT]; exact HT3.out
      have CF := hd (fun W hW => find_err x T PP W (HI4.out W hW) (by rw [HTl2.out]; omega) (by rw [hPs]; omega))
      have CNx := hd (fun W hW => next_err x T PP 0 W (HI4.out W hW) (by rw [HTl2.out]; omega) (by rw [hPs]; omega) (by omega))
      have CS := hd (fun (s2 b2 : ByteArray) (h1 : s2.size ≤ 1000) (h2 : b2.size ≤ 1000) (c1 f1 : Int) (h3 : f1 ≤ 1000) W hW => swap_err x T s2 b2 c1 f1 W (HI4.out W hW) (by rw [HTl2.out]; omega) (by omega) (by omega) (by omega))
      have CS1 := hd (fun W hW => CS.out ⟨#[98, 90]⟩ PP (by decide) (by rw [hPs]; omega) 1 1 (by omega) W hW)
      obtain ⟨E1, hE1⟩ : ∃ E1, fiE PP.data.toList = E1 := ⟨_, rfl⟩
      obtain ⟨G1, hG1⟩ : ∃ G1, sgE T (⟨#[98, 90]⟩ : ByteArray).data.toList PP.data.toList 1 1 = G1 := ⟨_, rfl⟩
      have HEG : Hid ((1 ≤ n ∧ n ≤ 64 ∧ E1 = 0 ∧ G1 ≠ 240) ∨ (n < 1 ∧ E1 = 240 ∧ G1 ≠ 240) ∨ (64 < n ∧ E1 = 240 ∧ G1 = 240)) := by
        show _ ∨ _ ∨ _
        rw [hPl] at hE1 hG1
        have e1 : (⟨#[98, 90]⟩ : ByteArray).data.toList = [98, 90] := rfl
        rw [e1] at hG1
        unfold fiE at hE1
        rw [rep_pat] at hE1
        unfold sgE at hG1
        rw [two_pat, rep_fill, show okC 90 = true from by decide, Bool.true_and] at hG1
        by_cases c1 : n < 1
        · refine .inr (.inl ⟨c1, ?_, ?_⟩)
          · rw [← hE1, if_neg (by simp; omega)]
          · rw [← hG1, if_pos (by simp; omega)]
            exact swE_240 _ _ _ _ _
        · by_cases c2 : 64 < n
          · refine .inr (.inr ⟨c2, ?_, ?_⟩)
            · rw [← hE1, if_neg (by simp; omega)]
            · rw [← hG1, if_neg (by simp; omega)]
          · refine .inl ⟨by omega, by omega, ?_, ?_⟩
            · rw [← hE1, if_pos (by simp; omega)]
            · rw [← hG1, if_pos (by simp; omega)]
              exact swE_240 _ _ _ _ _
      simp only [hE1] at CF CNx
      simp only [hG1] at CS1
      have hc0 := CV.out wr (Below.refl _ _)
      have HTT := hd hT
      clear hE1 hG1 hPl hPs hPP CT HT3 HTl HBy HI hT
      go_upto_region 14 with (go_at_call 12; refine (CF.out wr (Below.refl _ _)).mono ?_; rintro e w5 ⟨v5, rfl, hb5⟩)
      have C5 := hd hb5
      have hc5 := CV.out w5 hb5
      clear hc0 hb5 CF
      go_upto_region 15 with (go_at_call 15; refine (CNx.out w5 C5.out).mono ?_; rintro e w6 ⟨v6, rfl, hb6⟩)
      have C6 := hd (C5.out.trans (hb6.mono C5.out.size))
      have hc6 := CV.out w6 C6.out
      clear hc5 hb6 CNx C5
      go_upto_region 16 with (go_at_call 17; refine (CS1.out w6 C6.out).mono ?_; rintro e w7 ⟨v7, rfl, hb7⟩)
      have C7 := hd (C6.out.trans (hb7.mono C6.out.size))
      clear hc6 hb7 CS1 C6 CV
      go_cut [87] (fun q wx => q = .bool false ∧ wx = w7)
      case first =>
        rcases HEG.out with ⟨c1, c2, rfl, c4⟩ | ⟨c1, rfl, c4⟩ | ⟨c1, rfl, rfl⟩
        · have d1 : (G1 == 240) = false := by simpa using c4
          have d2 : ¬ (n : Int) < 1 := by omega
          have d3 : ¬ (64 : Int) < n := by omega
          clear c1 c2
          go_wp2_with fail
          go_meet
          exact ⟨rfl, rfl⟩
        · have d1 : (G1 == 240) = false := by simpa using c4
          have d2 : (n : Int) < 1 := by omega
          have d3 : ¬ (64 : Int) < n := by omega
          clear c1
          go_wp2_with fail
          go_meet
          exact ⟨rfl, rfl⟩
        · have d2 : ¬ (n : Int) < 1 := by omega
          have d3 : (64 : Int) < n := by omega
          clear c1
          go_wp2_with fail
          go_meet
          exact ⟨rfl, rfl⟩
      case rest =>
        obtain ⟨rfl, hwc⟩ := hcut
        obtain rfl := hwc.symm
        clear HEG
        obtain ⟨PQ, hPQ⟩ : ∃ PQ, bsA [98, B] = PQ := ⟨_, rfl⟩
        have hQl : PQ.data.toList = [98, B] := by rw [← hPQ]; exact bsA_list _
        have hQs : PQ.size = 2 := by
          have h1 : PQ.data.toList.length = PQ.size := by simp
          rw [hQl] at h1
          simpa using h1.symm
        have CB := hd (fun (W : World) => run_str (W.alloc (.cells #[.int .u8 98, .int .u8 ((B.toNat : Nat) : Int)] 5)) W.heap.size 0 2 2 [98, B] rfl (fun j hj => by
          have hr := heap_alloc_new W (.cells #[.int .u8 98, .int .u8 ((B.toNat : Nat) : Int)] 5)
          have := cell_row hr j
          rw [Nat.zero_add, this]
          have hj2 : j < 2 := hj
          rcases j with _ | _ | j
          · rfl
          · rfl
          · omega))
        simp only [hPQ] at CB
        have CF2 := hd (fun W hW => find_err x T PQ W (HI4.out W hW) (by rw [HTl2.out]; omega) (by rw [hQs]; omega))
        have CS2 := hd (fun W hW => CS.out ⟨#[98, 90]⟩ PQ (by decide) (by rw [hQs]; omega) 1 65 (by omega) W hW)
        obtain ⟨E2, hE2⟩ : ∃ E2, fiE PQ.data.toList = E2 := ⟨_, rfl⟩
        obtain ⟨G2, hG2⟩ : ∃ G2, sgE T (⟨#[98, 90]⟩ : ByteArray).data.toList PQ.data.toList 1 65 = G2 := ⟨_, rfl⟩
        have HEG : Hid ((32 ≤ B.toNat ∧ B.toNat ≤ 126 ∧ E2 = 0) ∨ (¬ (32 ≤ B.toNat ∧ B.toNat ≤ 126) ∧ E2 = 240 ∧ G2 = 240)) := by
          show _ ∨ _
          rw [hQl] at hE2 hG2
          have e1 : (⟨#[98, 90]⟩ : ByteArray).data.toList = [98, 90] := rfl
          rw [e1] at hG2
          unfold fiE at hE2
          rw [two_pat] at hE2
          unfold sgE at hG2
          rw [two_pat, two_fill, show okC 90 = true from by decide, Bool.true_and] at hG2
          by_cases c1 : 32 ≤ B.toNat ∧ B.toNat ≤ 126
          · refine .inl ⟨c1.1, c1.2, ?_⟩
            rw [← hE2, if_pos (by unfold okC; simpa using c1)]
          · refine .inr ⟨c1, ?_, ?_⟩
            · rw [← hE2, if_neg (by unfold okC; simpa using c1)]
            · rw [← hG2, if_neg (by unfold okC; simpa using c1)]
        simp only [hE2] at CF2
        simp only [hG2] at CS2
        obtain ⟨bv, hbv⟩ : ∃ bv, B.toNat = bv := ⟨_, rfl⟩
        rw [hbv] at HEG CB ⊢
        have hB8 : bv < 256 := by rw [← hbv]; exact B.toNat_lt
        clear hE2 hG2 hQl hQs hPQ
        obtain ⟨mb, hmb⟩ : ∃ mb : Bool, mb = (decide ((32 : Int) ≤ (bv : Int)) && decide ((bv : Int) ≤ 126)) := ⟨_, rfl⟩
        have HMB := hd hmb
        clear hmb hbv
        go_upto_region 18 with fail
        go_cut [18] (fun q wx => q = .bool mb ∧ wx = w7)
        case first =>
          by_cases c1 : (32 : Int) ≤ (bv : Int)
          · by_cases c2 : (bv : Int) ≤ 126
            · have em : mb = true := by rw [HMB.out]; simp [c1, c2]
              subst em
              go_wp2_with fail
              go_meet
              exact ⟨rfl, rfl⟩
            · have em : mb = false := by rw [HMB.out]; simp [c1, c2]
              subst em
              go_wp2_with fail
              go_meet
              exact ⟨rfl, rfl⟩
          · have em : mb = false := by rw [HMB.out]; simp [c1]
            subst em
            go_wp2_with fail
            go_meet
            exact ⟨rfl, rfl⟩
        case rest =>
          obtain ⟨rfl, hwc⟩ := hcut
          obtain rfl := hwc.symm
          have hcb := CB.out w7
          have CFb := hd (CF2.out (w7.alloc (.cells #[.int .u8 98, .int .u8 ((bv : Nat) : Int)] 5)) (C7.out.alloc C7.out.size _))
          have C8 : Hid (Below wr.heap.size wr (w7.alloc (.cells #[.int .u8 98, .int .u8 ((bv : Nat) : Int)] 5))) := C7.out.alloc C7.out.size _
          go_upto_region 20 with (go_at_call 12; refine CFb.out.mono ?_; rintro e w9 ⟨v9, rfl, hb9⟩)
          have C9 := hd (C8.out.trans (hb9.mono C8.out.size))
          have hcb2 := CB.out w9
          have CSb := hd (CS2.out (w9.alloc (.cells #[.int .u8 98, .int .u8 ((bv : Nat) : Int)] 5)) (C9.out.alloc C9.out.size _))
          have C10 : Hid (Below wr.heap.size wr (w9.alloc (.cells #[.int .u8 98, .int .u8 ((bv : Nat) : Int)] 5))) := C9.out.alloc C9.out.size _
          clear hcb hb9 CFb C8 CF2 CS2
          go_upto_region 21 with (go_at_call 17; refine CSb.out.mono ?_; rintro e w11 ⟨v11, rfl, hb11⟩)
          have C11 := hd (C10.out.trans (hb11.mono C10.out.size))
          clear hcb2 hb11 CSb C10 C9 CB
          go_cut [121] (fun q wx => q = .bool false ∧ wx = w11)
          case first =>
            rcases HEG.out with ⟨c1, c2, rfl⟩ | ⟨c1, rfl, rfl⟩
            · have em : mb = true := by rw [HMB.out]; simp; omega
              subst em
              clear c1 c2
              go_wp2_with fail
              go_meet
              exact ⟨rfl, rfl⟩
            · have em : mb = false := by rw [HMB.out]; simp; omega
              subst em
              clear c1
              go_wp2_with fail
              go_meet
              exact ⟨rfl, rfl⟩
          case rest =>
            obtain ⟨rfl, hwc⟩ := hcut
            obtain rfl := hwc.symm
            clear HEG HMB
            have CSm : Hid (∀ (c1 f1 : Int), f1 ≤ 1000 → (c1 < 1 ∨ 64 < c1 ∨ f1 < 1 ∨ f1 = 65) → ∀ W, Below wr.heap.size wr W → Calls Try.prog 17 #[.pointer (some ⟨x, 0, none⟩), .string ⟨#[98]⟩, .string ⟨#[]⟩, .int .i64 c1, .int .i64 f1] W fun e w' => ∃ v, e = .returned (.tuple #[v, .int .i64 222]) ∧ Below W.heap.size W w') := by
              intro c1 f1 h1 h2 W hW
              have := CS.out ⟨#[98]⟩ ⟨#[]⟩ (by decide) (by decide) c1 f1 h1 W hW
              have e1 : (⟨#[98]⟩ : ByteArray).data.toList = [98] := rfl
              have e2 : (⟨#[]⟩ : ByteArray).data.toList = [] := rfl
              obtain ⟨r, hr⟩ := HT98.out
              rw [e1, e2, hr, sgE_maker r c1 f1 h2] at this
              exact this
            go_upto_region 24 with (go_at_call 17; refine (CSm.out 0 1 (by omega) (by omega) w11 C11.out).mono ?_; rintro e w12 ⟨v12, rfl, hb12⟩)
            have C12 := hd (C11.out.trans (hb12.mono C11.out.size))
            clear hb12
            go_upto_region 25 with (go_at_call 17; refine (CSm.out 65 1 (by omega) (by omega) w12 C12.out).mono ?_; rintro e w13 ⟨v13, rfl, hb13⟩)
            have C13 := hd (C12.out.trans (hb13.mono C12.out.size))
            clear hb13 C12
            go_upto_region 26 with (go_at_call 17; refine (CSm.out 1 0 (by omega) (by omega) w13 C13.out).mono ?_; rintro e w14 ⟨v14, rfl, hb14⟩)
            have C14 := hd (C13.out.trans (hb14.mono C13.out.size))
            clear hb14 C13
            go_upto_region 27 with (go_at_call 17; refine (CSm.out 1 65 (by omega) (by omega) w14 C14.out).mono ?_; rintro e w15 ⟨v15, rfl, hb15⟩)
            have C15 := hd (C14.out.trans (hb15.mono C14.out.size))
            have CTx := hd (itext_any x T w15 (HI4.out w15 C15.out) (by rw [HTl2.out]; omega))
            clear hb15 C14 CSm CS
            go_upto_region 29 with (go_at_call 18; refine CTx.out.mono ?_; rintro e w16 ⟨rfl, hb16⟩)
            have C16 := hd (C15.out.trans (hb16.mono C15.out.size))
            have D16 := hd (B4.out.trans (C16.out.mono B4.out.size))
            have A16 := hd (B3.out.trans (D16.out.mono B3.out.size))
            have hop := (A16.out.block _ (block_lt HS2.out)).trans HS2.out
            have o0 : w16.cell? ⟨w.heap.size + 1, 0, none⟩ = some (.int .i64 k) := by have := cell_row hop 0; simpa using this
            have o1 : w16.cell? ⟨w.heap.size + 1, 1, none⟩ = some (.int .i64 p) := by have := cell_row hop 1; simpa using this
            have o2 : w16.cell? ⟨w.heap.size + 1, 2, none⟩ = some (.int .u8 c) := by have := cell_row hop 2; simpa using this
            have o3 : w16.cell? ⟨w.heap.size + 1, 3, none⟩ = some (.int .i64 l) := by have := cell_row hop 3; simpa using this
            have o4 : w16.cell? ⟨w.heap.size + 1, 4, none⟩ = some (.int .i64 s) := by have := cell_row hop 4; simpa using this
            have HOP := hd hop
            have HE16 := hd (HE3.out.below D16.out)
            clear hop hb16 CTx C15 C11 C7
            by_cases hf : fitsP ((n0 : Nat) : Int) ⟨k, p, c, l, s⟩ = 0
            · have HFT := hd hf
              have CD := hd (apply_good a n0 cc k p c l s xs w16 HE16.out H0.out H1.out hf)
              clear hf
              go_upto_region 30 with (go_at_call 19; refine CD.out.mono ?_; rintro e w17 ⟨dv, rfl, hOw, hb17⟩)
              have hop := (hb17.block _ (block_lt HOP.out)).trans HOP.out
              have q0 : w17.cell? ⟨w.heap.size + 1, 0, none⟩ = some (.int .i64 k) := by have := cell_row hop 0; simpa using this
              have q1 : w17.cell? ⟨w.heap.size + 1, 1, none⟩ = some (.int .i64 p) := by have := cell_row hop 1; simpa using this
              have q2 : w17.cell? ⟨w.heap.size + 1, 2, none⟩ = some (.int .u8 c) := by have := cell_row hop 2; simpa using this
              have q3 : w17.cell? ⟨w.heap.size + 1, 3, none⟩ = some (.int .i64 l) := by have := cell_row hop 3; simpa using this
              have q4 : w17.cell? ⟨w.heap.size + 1, 4, none⟩ = some (.int .i64 s) := by have := cell_row hop 4; simpa using this
              have D17 := hd (D16.out.trans (hb17.mono D16.out.size))
              have CA := hd (iapply_good x (fun k => w2.heap.size ≤ k ∧ k < w4.heap.size) T k p c l s w17 (HIM.out.below D17.out) H0.out H1.out (by rw [HTl2.out]; exact HFT.out))
              obtain ⟨g, cd, hg, rfl, hR⟩ := hOw.form
              have HG : Hid (w4.heap.size ≤ g) := Nat.le_trans D16.out.size hg
              have hE17 : IsE w17 (some ⟨g, 0, none⟩) (applyP xs ⟨k, p, c, l, s⟩).length cd (applyP xs ⟨k, p, c, l, s⟩) := by
                have h0 : SE w17 (some g) (.slice (some ⟨g, 0, none⟩) (applyP xs ⟨k, p, c, l, s⟩).length cd) (applyP xs ⟨k, p, c, l, s⟩) := ⟨cd, rfl, hR⟩
                obtain ⟨a', c', hv, hE, -⟩ := h0.form
                obtain ⟨rfl, -, rfl⟩ := Value.slice.inj hv
                exact hE
              have HE17 := hd hE17
              have HLX : Hid ((applyP xs ⟨k, p, c, l, s⟩).length ≤ 501) := by
                have := apply_len xs ⟨k, p, c, l, s⟩ (by rw [HLN.out]; exact HFT.out)
                have e2 := HLN.out
                show _ ≤ 501
                omega
              have HTA : Hid (tB (applyP xs ⟨k, p, c, l, s⟩) = apT T ⟨k, p, c, l, s⟩) := by show _ = _; rw [tB_apply, HTT.out]
              generalize applyP xs ⟨k, p, c, l, s⟩ = ys at *
              generalize apT T ⟨k, p, c, l, s⟩ = T2 at *
              clear hE17 hOw hb17 hop hR hg CD o0 o1 o2 o3 o4
              go_upto_region 31 with (go_at_call 20; refine CA.out.mono ?_; rintro e w18 ⟨rfl, hA⟩)
              have hE18 : IsE w18 (some ⟨g, 0, none⟩) ys.length cd ys := HE17.out.frm hA.2 (fun b off e hb => by
                injection e with e
                injection e with e
                subst e
                have := HG.out
                have := hb.1.2
                omega)
              have CX := hd (itext_any x T2 w18 hA.1.ix (by rw [← HTA.out]; have := HLX.out; simp [tB]; omega))
              have CY := hd (fun W (hW : Below w18.heap.size w18 W) => text_any (some ⟨g, 0, none⟩) ys.length cd ys W (hE18.below hW) (by have := HLX.out; omega))
              simp only [bstr_tB, HTA.out] at CY
              have BF : Hid (Below w.heap.size w w18) := by
                have h1 : Below w.heap.size w w17 := B0.out.trans ((B3.out.trans (D17.out.mono B3.out.size)).mono B0.out.size)
                have h2 := B0.out.size
                have h3 := HX.out
                exact h1.trans (hA.2.below h1.size (fun k hk => by have := hk.1.1; omega))
              clear hA hE18 CA q0 q1 q2 q3 q4
              generalize ys.length = yl at *
              go_wp2_with (first
                | (go_at_call 18; refine CX.out.mono ?_; rintro e w19 ⟨rfl, hb19⟩)
                | (go_at_call 14; refine (CY.out w19 hb19).mono ?_; rintro e w20 ⟨rfl, hb20⟩))
              go_ret
              exact ⟨by simp, BF.out.trans ((hb19.trans (hb20.mono hb19.size)).mono BF.out.size)⟩
            · obtain ⟨E, hE⟩ : ∃ E, fitsP ((n0 : Nat) : Int) ⟨k, p, c, l, s⟩ = E := ⟨_, rfl⟩
              have CD := hd (apply_bad a n0 cc k p c l s E w16 H0.out H1.out hE (by rw [← hE]; exact hf))
              have CA := hd (fun W hW => iapply_bad x T k p c l s W (HI4.out W hW) H0.out H1.out (by rw [HTl2.out]; exact hf))
              have hE0 : ¬ E = 0 := by rw [← hE]; exact hf
              clear hf hE
              go_upto_region 30 with (go_at_call 19; refine CD.out.mono ?_; rintro e w17 ⟨rfl, hb17⟩)
              have hop := (hb17.block _ (block_lt HOP.out)).trans HOP.out
              have q0 : w17.cell? ⟨w.heap.size + 1, 0, none⟩ = some (.int .i64 k) := by have := cell_row hop 0; simpa using this
              have q1 : w17.cell? ⟨w.heap.size + 1, 1, none⟩ = some (.int .i64 p) := by have := cell_row hop 1; simpa using this
              have q2 : w17.cell? ⟨w.heap.size + 1, 2, none⟩ = some (.int .u8 c) := by have := cell_row hop 2; simpa using this
              have q3 : w17.cell? ⟨w.heap.size + 1, 3, none⟩ = some (.int .i64 l) := by have := cell_row hop 3; simpa using this
              have q4 : w17.cell? ⟨w.heap.size + 1, 4, none⟩ = some (.int .i64 s) := by have := cell_row hop 4; simpa using this
              have C17 := hd (C16.out.trans (hb17.mono C16.out.size))
              clear hop hb17 CD o0 o1 o2 o3 o4
              go_upto_region 31 with (go_at_call 20; refine (CA.out w17 C17.out).mono ?_; rintro e w18 ⟨rfl, hb18⟩)
              have C18 := hd (C17.out.trans (hb18.mono C17.out.size))
              have CX := hd (itext_any x T w18 (HI4.out w18 C18.out) (by rw [HTl2.out]; omega))
              clear hb18 CA q0 q1 q2 q3 q4
              go_wp2_with (go_at_call 18; refine CX.out.mono ?_; rintro e w19 ⟨rfl, hb19⟩)
              go_ret
              refine ⟨by simp, ?_⟩
              have h1 : Below w.heap.size w w18 := B0.out.trans ((B3.out.trans ((B4.out.trans (C18.out.mono B4.out.size)).mono B3.out.size)).mono B0.out.size)
              exact h1.trans (hb19.mono h1.size)
end Go.Proofs.Ytlmgogonghafeaa
