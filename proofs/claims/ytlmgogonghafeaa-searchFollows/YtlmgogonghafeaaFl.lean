/-
  The law Follows, walked.
-/
import Derived.Test.YtlmgogonghafeaaFo
import Derived.Test.YtlmgogonghafeaaCommon
import Derived.Deep.CutRange
namespace Go.Proofs.Ytlmgogonghafeaa
open Go.RowKit Go.Lib
set_option linter.unusedVariables false

theorem mdP_ch (out : Bool) (N : Int) (C n : Nat) (hC : C < 256) : 0 ≤ (mdP out N C n).ch ∧ (mdP out N C n).ch ≤ 255 := by
  unfold mdP
  split
  · exact ⟨Int.le_refl 0, by simp⟩
  · simp only
    omega

set_option maxRecDepth 100000 in
set_option maxHeartbeats 8000000 in
theorem follows_law (s : ByteArray) (a1 : Option Addr) (n c1 : Nat) (sts : List (Bool × Int × Nat)) (a2 : Option Addr) (m c2 : Nat) (pts : List ByteArray) (w : World) (hs : s.size ≤ 9223372036854775807)
    (hS : OpS stc (fun q => q.2.2 < 256) w a1 n c1 sts) (hP : OpS es (fun q => q.size ≤ 9223372036854775807) w a2 m c2 pts) (hn : n ≤ 140737488351232) (hm : m ≤ 140737488351232) :
    Calls Try.prog 8 #[.string s, .slice a1 n c1, .slice a2 m c2] w fun e w' => e = .returned (.bool true) ∧ Below w.heap.size w w' := by
  have CE := hd (elems_any s 1000 w (by omega) hs)
  obtain ⟨N0, hN0⟩ : ∃ N0, min s.size 1000 = N0 := ⟨_, rfl⟩
  have HN0 : Hid (N0 ≤ 1000 ∧ N0 ≤ s.size) := by constructor <;> omega
  rw [hN0] at CE
  have hlen := hd (elS_len s.data.toList N0)
  generalize elS s.data.toList N0 = xs0 at *
  have HS := hd hS
  have HP := hd hP
  clear hN0 hs hS hP
  go_enter Try.func8, Try.ntmps8
  go_upto_region 2 with (go_at_call 9; refine CE.out.mono ?_; rintro e w1 ⟨v, rfl, hT⟩)
  obtain ⟨a, c, rfl, hE, hab⟩ := hT.isE
  have B1 := hd hT.choose_spec.2.2
  rw [hlen.out] at hE ⊢
  have CN := hd (new_own a N0 c xs0 w1 hE (by have := HN0.out; omega))
  have HE := hd hE
  have HAB : Hid (∀ b off, a = some ⟨b, off, none⟩ → b < w1.heap.size) := by
    intro b off e
    by_cases h0 : 0 < N0
    · obtain ⟨b', off', e', hb', -⟩ := hE.2.2.2 h0
      rw [e'] at e
      injection e with e
      injection e with e1 e2
      omega
    · obtain ⟨β, h1, h2, h3⟩ := hT
      cases β with
      | none =>
        obtain ⟨hv, -⟩ := h1
        injection hv with hv
        rw [hv] at e
        cases e
      | some g =>
        have := h1.lt g rfl
        obtain ⟨cap, hv, -⟩ := h1
        injection hv with hv
        rw [hv] at e
        injection e with e
        injection e with e1 e2
        omega
  clear hE hT CE hab
  go_upto_region 3 with (go_at_call 10; refine CN.out.mono ?_; rintro e w2 ⟨x, rfl, hI, hx, hb2⟩)
  have CIT := hd (itext_any x (tB xs0) w2 hI.ix (by have := hlen.out; have := HN0.out; simp [tB]; omega))
  have CDT := hd (fun W (hW : Below w1.heap.size w1 W) => text_any a N0 c xs0 W (HE.out.below hW) (by have := HN0.out; omega))
  simp only [bstr_tB] at CDT
  have F0 : Hid (∀ wr, Below w2.heap.size w2 wr → FoI w x 0 (.slice a N0 c) wr) := by
    intro wr hb
    have hbb := hb2.trans (hb.mono hb2.size)
    refine ⟨xs0, a, c, fun k => w1.heap.size ≤ k ∧ k < w2.heap.size, by rw [hlen.out], by rw [hlen.out]; exact HE.out.below hbb, fun b off e hb' => by have := HAB.out b off e; omega, hI.below hb, fun k hk => ?_, B1.out.trans (hbb.mono B1.out.size), by have := hlen.out; have := HN0.out; omega⟩
    have h1 := B1.out.size
    have h2 := hb.size
    omega
  have B2 := hd hb2
  clear hI hx hb2 CN
  go_upto_region 5 with (first
    | (go_at_call 18; refine CIT.out.mono ?_; rintro e w3 ⟨rfl, hb3⟩)
    | (go_at_call 14; refine (CDT.out _ (B2.out.trans (hb3.mono B2.out.size))).mono ?_; rintro e w4 ⟨rfl, hb4⟩))
  have F1 := hd (F0.out w4 (hb3.trans (hb4.mono hb3.size)))
  clear CIT CDT F0 hb3 hb4 B2 HE HAB
  go_wp2_with fail
  go_loopw [7, 9] (fun dv iv wr => ∃ k : Nat, iv = .int .i64 k ∧ k ≤ n ∧ k ≤ 80 ∧ Hid (FoI w x k dv wr)) (fun _ iv _ => n - (intOf iv).toNat)
  case atStart => exact ⟨0, rfl, Nat.zero_le _, Nat.zero_le _, F1.out⟩
  case round =>
    obtain ⟨k, rfl, hkn, hk80, hF⟩ := hrel
    clear F1
    by_cases hlt : k < n ∧ k < 80
    · obtain ⟨hlt1, hlt2⟩ := hlt
      obtain ⟨xs, a, c, O, rfl, hE, hab, hI, hO, hB, hlx⟩ := hF.out
      have hks : k < sts.length := by rw [HS.out.1]; exact hlt1
      obtain ⟨b, off, rfl, hbw, hcs⟩ := HS.out.2.2.2.2 (by omega)
      have HC8 : Hid (sts[k].2.2 < 256) := HS.out.2.2.2.1 _ (List.getElem_mem hks)
      have hz : Sz stc 3 := fun x => ⟨rfl, fun v hv => by simp [stc] at hv; rcases hv with rfl | rfl | rfl <;> rfl⟩
      have cc : ∀ r u, (stc sts[k])[r]? = some u → r < 3 → wr.cell? ⟨b, off + (k * 3 + r), none⟩ = some u := by
        intro r u hu hr
        rw [hB.cell (p := ⟨b, off + (k * 3 + r), none⟩) hbw]
        exact hcs _ _ (by rw [cl_get hz sts k r hks hr]; exact hu)
      obtain ⟨q0, hq0⟩ : ∃ q0, sts[k].1 = q0 := ⟨_, rfl⟩
      obtain ⟨q1, hq1⟩ : ∃ q1, sts[k].2.1 = q1 := ⟨_, rfl⟩
      obtain ⟨q2, hq2⟩ : ∃ q2, sts[k].2.2 = q2 := ⟨_, rfl⟩
      have k0 := cc 0 (.bool q0) (by rw [← hq0]; rfl) (by omega)
      have k1 := cc 1 (.int .i64 q1) (by rw [← hq1]; rfl) (by omega)
      have k2 := cc 2 (.int .u8 q2) (by rw [← hq2]; rfl) (by omega)
      rw [Nat.add_zero] at k0
      rw [← Nat.add_assoc] at k1 k2
      rw [hq2] at HC8
      have HX := hd hlx
      obtain ⟨N, hN⟩ : ∃ N, xs.length = N := ⟨_, rfl⟩
      have HN := hd hN
      have CM := hd (fun W => made_any q0 q1 q2 N W HC8.out (by omega))
      have HFT := hd (md_fits q0 q1 q2 N HC8.out (by omega))
      have HCH := hd (mdP_ch q0 q1 q2 N HC8.out)
      obtain ⟨o, ho⟩ : ∃ o, mdP q0 q1 (q2 : Int) N = o := ⟨_, rfl⟩
      rw [ho] at HFT HCH
      simp only [ho] at CM
      rw [hN] at hE ⊢
      have HE := hd hE
      have HAB := hd hab
      have HI := hd hI
      have HO := hd hO
      have HB := hd hB
      have hN9 : N ≤ 1080 := by omega
      obtain ⟨ok, op, oc, ol, os⟩ := o
      simp only [OpE.val] at CM HCH
      clear ho hq0 hq1 hq2 cc hcs hz hE hab hI hO hB hlx hN hF HS HC8
      go_upto_region 9 with (go_at_call 27; refine (CM.out _).mono ?_; rintro e W1 ⟨rfl, hb1⟩)
      obtain ⟨W2, hW2⟩ : ∃ W2, W1.alloc (.cells #[.int .i64 ok, .int .i64 op, .int .u8 oc, .int .i64 ol, .int .i64 os] 39) = W2 := ⟨_, rfl⟩
      rw [hW2]
      have hn2 : W2.heap[W1.heap.size]? = some (.cells #[.int .i64 ok, .int .i64 op, .int .u8 oc, .int .i64 ol, .int .i64 os] 39 (0, 0)) := by rw [← hW2]; exact heap_alloc_new W1 _
      have b2 : Below W1.heap.size W1 W2 := by rw [← hW2]; exact (Below.refl _ _).alloc (Nat.le_refl _) _
      have b12 : Below wr.heap.size wr W2 := hb1.trans (b2.mono hb1.size)
      obtain ⟨bx, hbx⟩ : ∃ bx, W1.heap.size = bx := ⟨_, rfl⟩
      have HBX : Hid (wr.heap.size ≤ bx) := by show _ ≤ _; rw [← hbx]; exact hb1.size
      rw [hbx] at hn2 ⊢
      have HTL : Hid ((tB xs).length = N) := by show _ = _; simp [tB, HN.out]
      have CA := hd (iapply_good x O (tB xs) ok op oc ol os W2 (HI.out.below b12) HCH.out.1 HCH.out.2 (by rw [HTL.out]; exact HFT.out))
      have HN2 := hd hn2
      have B12 := hd b12
      have o0 : W2.cell? ⟨bx, 0, none⟩ = some (.int .i64 ok) := by have := cell_row hn2 0; simpa using this
      have o1 : W2.cell? ⟨bx, 1, none⟩ = some (.int .i64 op) := by have := cell_row hn2 1; simpa using this
      have o2 : W2.cell? ⟨bx, 2, none⟩ = some (.int .u8 oc) := by have := cell_row hn2 2; simpa using this
      have o3 : W2.cell? ⟨bx, 3, none⟩ = some (.int .i64 ol) := by have := cell_row hn2 3; simpa using this
      have o4 : W2.cell? ⟨bx, 4, none⟩ = some (.int .i64 os) := by have := cell_row hn2 4; simpa using this
      clear hW2 hn2 b2 b12 hb1 hbx CM k0 k1 k2
      go_upto_region 10 with (go_at_call 20; refine CA.out.mono ?_; rintro e W3 ⟨rfl, hA⟩)
      have hn3 := hA.2.keeps HN2.out (fun h => by have := HO.out bx h.1; have := HBX.out; omega)
      have p0 : W3.cell? ⟨bx, 0, none⟩ = some (.int .i64 ok) := by have := cell_row hn3 0; simpa using this
      have p1 : W3.cell? ⟨bx, 1, none⟩ = some (.int .i64 op) := by have := cell_row hn3 1; simpa using this
      have p2 : W3.cell? ⟨bx, 2, none⟩ = some (.int .u8 oc) := by have := cell_row hn3 2; simpa using this
      have p3 : W3.cell? ⟨bx, 3, none⟩ = some (.int .i64 ol) := by have := cell_row hn3 3; simpa using this
      have p4 : W3.cell? ⟨bx, 4, none⟩ = some (.int .i64 os) := by have := cell_row hn3 4; simpa using this
      have CD := hd (apply_good a N c ok op oc ol os xs W3 ((HE.out.below B12.out).frm hA.2 (fun b off e hb => HAB.out b off e hb.1)) HCH.out.1 HCH.out.2 HFT.out)
      have HA := hd hA
      clear hn3 hA CA o0 o1 o2 o3 o4 HN2
      go_upto_region 11 with (go_at_call 19; refine CD.out.mono ?_; rintro e W4 ⟨dv, rfl, hOw, hb4⟩)
      have HFI : Hid (FoI w x (k + 1) dv W4) := by
        have hO' : ∀ j, O j → w.heap.size ≤ j ∧ j < W2.heap.size := fun j hj => by
          have := HO.out j hj
          have := B12.out.size
          omega
        refine fo_step hO' (HB.out.trans (B12.out.mono HB.out.size)) HA.out hb4 hOw ?_
        have h1 := apply_len xs ⟨ok, op, oc, ol, os⟩ (by rw [HN.out]; exact HFT.out)
        have h2 := HX.out
        omega
      obtain ⟨g4, cd, -, rfl, hR4⟩ := hOw.form
      clear hOw hb4 CD HA HE HAB HI HO HB HX HN HFT HCH HBX HTL p0 p1 p2 p3 p4 hR4 B12
      generalize (applyP xs ⟨ok, op, oc, ol, os⟩).length = M at *
      generalize (some (⟨g4, 0, none⟩ : Addr)) = ad at *
      obtain ⟨r, hr⟩ : ∃ r, k % 8 = r := ⟨_, rfl⟩
      have htm : (k : Int).tmod 8 = (r : Int) := by rw [Int.tmod_eq_emod_of_nonneg (by omega)]; omega
      have hr8 : r < 8 := by omega
      clear hr
      by_cases hskip : ¬ r = 7 ∧ ¬ k = n - 1
      · obtain ⟨s1, s2⟩ := hskip
        have s1' : ¬ (r : Int) = 7 := by omega
        have s2' : ¬ (k : Int) = (n : Int) - 1 := by omega
        have s1b : ((r : Int) != 7) = true := by simpa using s1'
        have s2b : ((k : Int) != (n : Int) - 1) = true := by simpa using s2'
        go_wp2
        exact ⟨⟨k + 1, by go_num, by omega, by omega, HFI.out⟩, by simp only [intOf]; omega⟩
      · have HSK : Hid (r = 7 ∨ (¬ r = 7 ∧ n = k + 1)) := by show _ ∨ _; omega
        obtain ⟨xs, a', c', O, hv, hE, -, hI, -, hB, hlx⟩ := HFI.out
        obtain ⟨rfl, rfl, rfl⟩ := Value.slice.inj hv
        have HTL : Hid ((tB xs).length = xs.length) := by show _ = _; simp [tB]
        obtain ⟨M, hM⟩ : ∃ M, xs.length = M := ⟨_, rfl⟩
        rw [hM] at hE HTL hlx HFI ⊢
        have hM9 : M ≤ 1081 := by omega
        have CT := hd (fun W (hW : Below W4.heap.size W4 W) => text_any ad M cd xs W (hE.below hW) (by omega))
        simp only [bstr_tB] at CT
        have CN := hd (fun W (hW : Below W4.heap.size W4 W) => new_any ad M cd xs W (hE.below hW) (by omega))
        have HI := hd hI.ix
        have HB := hd hB
        clear hv hE hI hB hlx hM
        generalize tB xs = T at *
        clear xs
        have CX := hd (fun W (hW : Below W4.heap.size W4 W) => itext_any x T W (HI.out.below hW) (by rw [HTL.out]; omega))
        have HSK2 := HSK.out
        clear hskip HSK
        go_upto_region 14 with fail
        go_cut [81] from 39 to 165 (fun q wx => q = .bool false ∧ wx = W4)
        case first =>
          clear CT CN CX
          rcases HSK2 with rfl | ⟨h7, rfl⟩
          · go_wp2_with fail
            go_meet
            exact ⟨rfl, rfl⟩
          · have h7' : ¬ (r : Int) = 7 := by omega
            have hk7 : (((k + 1 : Nat) : Int)) - 1 = (k : Int) := by omega
            go_wp2_with fail
            go_meet
            exact ⟨rfl, rfl⟩
        case rest =>
          obtain ⟨rfl, rfl⟩ := hcut
          clear HSK2 htm hr8
          go_upto_region 16 with (go_at_call 14; refine (CT.out _ (Below.refl _ _)).mono ?_; rintro e W5 ⟨rfl, hb5⟩)
          go_upto_region 17 with (go_at_call 10; refine (CN.out _ hb5).mono ?_; rintro e W6 ⟨y, rfl, hIy, hy, hb6⟩)
          have B6 := hd (hb5.trans (hb6.mono hb5.size))
          have CX1 := hd (CX.out W6 B6.out)
          have CY := hd (fun W (hW : Below W6.heap.size W6 W) => itext_any y T W (hIy.below hW) (by rw [HTL.out]; omega))
          have HY := hd hIy
          clear hb5 hIy hy hb6 CN
          go_upto_region 19 with (first
            | (go_at_call 18; refine CX1.out.mono ?_; rintro e W7 ⟨rfl, hb7⟩)
            | (go_at_call 18; refine (CY.out _ hb7).mono ?_; rintro e W8 ⟨rfl, hb8⟩))
          have B8 : Hid (Below W6.heap.size W6 W8) := hb7.trans (hb8.mono hb7.size)
          clear hb7 hb8 CX1 CY CT CX
          go_wp2_with fail
          go_loopw [16] (fun jv wr => ∃ j : Nat, jv = .int .i64 j ∧ j ≤ m ∧ j ≤ 8 ∧ Hid (Below W6.heap.size W6 wr)) (fun jv _ => m - (intOf jv).toNat)
          case atStart => exact ⟨0, rfl, Nat.zero_le _, Nat.zero_le _, B8.out⟩
          case round =>
            obtain ⟨j, rfl, hjm, hj8, hBr⟩ := hrel
            clear B8
            by_cases hjt : j < m ∧ j < 8
            · obtain ⟨hj1, hj2⟩ := hjt
              have hjs : j < pts.length := by rw [HP.out.1]; exact hj1
              obtain ⟨pb, poff, rfl, hpb, hcs⟩ := HP.out.2.2.2.2 (by omega)
              have hp9 : pts[j].size ≤ 9223372036854775807 := HP.out.2.2.2.1 _ (List.getElem_mem hjs)
              have hWr : Below w.heap.size w wr := HB.out.trans ((B6.out.trans (hBr.out.mono B6.out.size)).mono HB.out.size)
              have cj : wr.cell? ⟨pb, poff + j, none⟩ = some (.string pts[j]) := by
                rw [hWr.cell (p := ⟨pb, poff + j, none⟩) hpb]
                have hz : Sz es 1 := fun x => ⟨rfl, fun v hv => by simp [es] at hv; subst hv; rfl⟩
                have := cl_get hz pts j 0 hjs (by omega)
                rw [Nat.mul_one, Nat.add_zero] at this
                exact hcs j _ (by rw [this]; rfl)
              generalize pts[j] = pt at *
              have CNd := hd (fun W => needle_any pt W hp9)
              obtain ⟨PP, hPP⟩ : ∃ PP : ByteArray, bsA (ndP pt.data.toList) = PP := ⟨_, rfl⟩
              have HPT : Hid (patB PP.data.toList = true) := by show _ = _; rw [← hPP, bsA_list]; exact patB_ndP _
              rw [hPP] at CNd
              have PP64 : Hid (PP.size ≤ 64 ∧ 1 ≤ PP.size) := by
                obtain ⟨q1, q2, -⟩ := (patB_iff _).1 HPT.out
                have : PP.data.toList.length = PP.size := by simp
                show _ ∧ _
                omega
              have CF1 := hd (fun W (hW : Below W6.heap.size W6 W) => find_good x T PP W (HI.out.below (B6.out.trans (hW.mono B6.out.size))) (by rw [HTL.out]; omega) HPT.out)
              have CF2 := hd (fun W (hW : Below W6.heap.size W6 W) => find_good y T PP W (HY.out.below hW) (by rw [HTL.out]; omega) HPT.out)
              clear hPP hcs hWr hp9 HPT
              go_upto_region 23 with (go_at_call 11; refine (CNd.out _).mono ?_; rintro e V1 ⟨rfl, hv1⟩)
              have D1 := hd (hBr.out.trans (hv1.mono hBr.out.size))
              clear hv1 CNd cj
              go_upto_region 24 with (go_at_call 12; refine (CF1.out _ D1.out).mono ?_; rintro e V2 ⟨vl, rfl, hN1, hv2⟩)
              obtain ⟨al, cl1, rfl, hL1⟩ := hN1.isL
              have D2 := hd (D1.out.trans (hv2.mono D1.out.size))
              have HL1 := hd hL1
              clear hN1 hL1 hv2 CF1
              go_upto_region 25 with (go_at_call 12; refine (CF2.out _ D2.out).mono ?_; rintro e V3 ⟨vm, rfl, hN2, hv3⟩)
              obtain ⟨am, cm, rfl, hL2⟩ := hN2.isL
              have D3 := hd (D2.out.trans (hv3.mono D2.out.size))
              have HL13 := hd (HL1.out.below hv3)
              have HL2 := hd hL2
              clear hN2 hL2 hv3 CF2 HL1
              have CR := hd (right_any (bsA T) PP al _ cl1 V3 (by rw [bsA_size, HTL.out]; omega) PP64.out.1 PP64.out.2 HL13.out)
              have CI := hd (ints_true al am _ cl1 cm _ V3 HL13.out HL2.out)
              clear HL13 HL2
              generalize (plc T PP.data.toList).length = L9 at *
              go_wp2_with (first
                | (go_at_call 13; refine CR.out.mono ?_; rintro e V4 ⟨rfl, rfl⟩)
                | (go_at_call 28; refine CI.out.mono ?_; rintro e V5 ⟨rfl, m5, rfl⟩))
              have D5 : Hid (Below W6.heap.size W6 (V4.drewN m5)) := below_drewN D3.out m5
              exact ⟨⟨j + 1, by go_num, by omega, by omega, D5.out⟩, by simp only [intOf]; omega⟩
            · have hjn : ¬ (j < m ∧ j < 8) := hjt
              have HBr := hd hBr.out
              clear hBr
              have CW1 := hd (fun W (hW : Below W6.heap.size W6 W) => words_any x T W (HI.out.below (B6.out.trans (hW.mono B6.out.size))) (by rw [HTL.out]; omega))
              have CW2 := hd (fun W (hW : Below W6.heap.size W6 W) => words_any y T W (HY.out.below hW) (by rw [HTL.out]; omega))
              clear HP hjt
              by_cases h1 : j < m
              case' pos =>
                have h2 : ¬ j < 8 := by omega
              all_goals
                clear hjn
                go_upto_region 28 with (go_at_call 24; refine (CW1.out _ HBr.out).mono ?_; rintro e V1 ⟨v1, v2, ks, rfl, hW1, hs1, hn1, hv1⟩)
                obtain ⟨a5, c5, rfl, hS5⟩ := hs1.isW
                obtain ⟨a6, c6, rfl, hL6⟩ := hn1.isL
                obtain ⟨L7, hL7⟩ : ∃ L7, (ks.map bsA).length = L7 := ⟨_, rfl⟩
                obtain ⟨L8, hL8⟩ : ∃ L8, (ks.map fun k => (wdP T).count k).length = L8 := ⟨_, rfl⟩
                rw [hL7] at hS5 ⊢
                rw [hL8] at hL6 ⊢
                have HL7 := hd hL7
                have HL8 := hd hL8
                clear hL7 hL8
                have D1 := hd (HBr.out.trans (hv1.mono HBr.out.size))
                have HW1 := hd hW1
                have HS5 := hd hS5
                have HL6 := hd hL6
                clear hs1 hn1 hv1 CW1 hW1 hS5 hL6
                go_upto_region 29 with (go_at_call 24; refine (CW2.out _ D1.out).mono ?_; rintro e V2 ⟨w1, w2, ks2, rfl, hW2, hs2, hn2, hv2⟩)
                obtain rfl := wds_one HW1.out hW2
                obtain ⟨a7, c7, rfl, hS7⟩ := hs2.isW
                obtain ⟨a8, c8, rfl, hL8⟩ := hn2.isL
                rw [HL7.out] at hS7 ⊢
                rw [HL8.out] at hL8 ⊢
                have D2 := hd (D1.out.trans (hv2.mono D1.out.size))
                have HS5b : Hid (IsW V2 a5 L7 c5 (ks.map bsA)) := by
                  obtain ⟨q1, q2, q3, q4⟩ := HS5.out
                  refine ⟨q1, q2, q3, fun h0 => ?_⟩
                  obtain ⟨b9, o9, e9, hb9, hc9⟩ := q4 h0
                  exact ⟨b9, o9, e9, Nat.lt_of_lt_of_le hb9 hv2.size, fun i hi => by rw [hv2.cell (p := ⟨b9, o9 + i, none⟩) hb9]; exact hc9 i hi⟩
                have CWT := hd (words_true a5 a7 _ c5 c7 _ V2 HS5b.out hS7)
                have CIT := hd (fun mm => ints_true a6 a8 _ c6 c8 _ (V2.drewN mm) ((HL6.out.below hv2).below (below_drewN' (Below.refl _ _) mm)) (hL8.below (below_drewN' (Below.refl _ _) mm)))
                clear hs2 hn2 hv2 CW2 hW2 hS7 hL8 HS5b HS5 HL6 HW1 D1 HBr
                clear HL7 HL8
                go_wp2_with (first
                  | (go_at_call 29; refine CWT.out.mono ?_; rintro e V4 ⟨rfl, m4, rfl⟩)
                  | (go_at_call 28; refine (CIT.out m4).mono ?_; rintro e V5 ⟨rfl, m5, rfl⟩))
                have HFE : Hid (FoI w x (k + 1) (.slice ad M cd) (V2.drewN (m4 + m5))) := HFI.out.below (below_drewN (B6.out.trans (D2.out.mono B6.out.size)) (m4 + m5))
                exact ⟨⟨k + 1, by go_num, by omega, by omega, HFE.out⟩, by simp only [intOf]; omega⟩
    · have Z := hd hF.out.choose_spec.choose_spec.choose_spec.choose_spec.2.2.2.2.2.1
      clear hF
      by_cases h1 : k < n
      · have h2 : ¬ k < 80 := by omega
        go_wp2
        go_ret
        exact ⟨rfl, Z.out⟩
      · go_wp2
        go_ret
        exact ⟨rfl, Z.out⟩
end Go.Proofs.Ytlmgogonghafeaa
