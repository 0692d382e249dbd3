/-
  Texts put together: Rp Rm Rn.
-/
import Derived.Test.YtfhghijefjhehaaGreatDoorMRc
import Derived.Test.YtfhghijefjhehaaGreatDoorRi
import Derived.Test.YtfhghijefjhehaaGreatDoorMIt
import Derived.Test.YtfhghijefjhehaaGreatDoorMQc
/-! Rp -/
namespace Go.Proofs.YtfhghijefjhehaaGreatDoor
open Go.RowKit Go.Shelf
set_option linter.unusedVariables false

set_option maxRecDepth 100000 in
set_option maxHeartbeats 8000000 in
theorem hahead_any (C : Int) (aL aE : Option Addr) (nL cL nE cE : Nat) (log : List Ed) (evs : List Ev) (A : Nat → Option Addr) (K : Nat → Nat) (D : Nat → List El) (a b : El) (w : World) (hL : IsL w aL nL log) (hV : IsV w aE nE evs A K) (hX : IsX w evs A D) (hnE : nE ≤ 1466015503701)
    (hcl : ∀ j (h : j < log.length), 0 ≤ log[j].o.ch ∧ log[j].o.ch ≤ 255) (hce : ∀ j (h : j < evs.length), 0 ≤ evs[j].o.ch ∧ evs[j].o.ch ≤ 255) (hTb : Table w) :
    Calls Tryz.prog 11 #[.agg #[.int .i64 C, .slice aL nL cL, .slice aE nE cE], elV a, elV b] w fun e w' => ∃ n ev c p, e = .returned (.tuple #[.int .i64 n, ev]) ∧ Below w.heap.size w w' ∧ AhP C nL nE log evs D a b n c p ∧ ((IsF w' ev p c ∧ c ≠ 0) ∨ (ev = .nilIface ∧ c = 0 ∧ p = -1)) := by
  obtain ⟨a0, a1, a2⟩ := a
  obtain ⟨b0, b1, b2⟩ := b
  obtain ⟨hb, hH, hA, hB⟩ := box3 w (.cells #[.int .i64 C, .slice aL nL cL, .slice aE nE cE] 25) (.cells #[.int .u8 a0, .int .i64 a1, .int .i64 a2] 42) (.cells #[.int .u8 b0, .int .i64 b1, .int .i64 b2] 42)
  have HLE := hd (show log.length = nL ∧ evs.length = nE from ⟨hL.1, hV.1⟩)
  have CR := hd (read_any C aL aE nL cL nE cE log evs A K D _ (hL.below hb (Nat.le_refl _)) (hV.below hb (Nat.le_refl _)) (hX.below hb (Nat.le_refl _)) (by omega) hcl hce)
  have HL := hd (fun u (hu : Below w.heap.size w u) => hL.below hu (Nat.le_refl _))
  have HTb := hd hTb
  have HCE := hd hce
  have HB := hd hb
  have HH := hd hH
  have HA := hd hA
  have HBB := hd hB
  simp only [elV]
  clear hb hL hV hX hnE hcl hce hTb hH hA hB
  go_enter Tryz.func11, Tryz.ntmps11
  go_upto_region 1 with fail
  generalize ((w.alloc (.cells #[.int .i64 C, .slice aL nL cL, .slice aE nE cE] 25)).alloc (.cells #[.int .u8 a0, .int .i64 a1, .int .i64 a2] 42)).alloc (.cells #[.int .u8 b0, .int .i64 b1, .int .i64 b2] 42) = w0 at *
  have CL := hd (fun (u : World) (hu : Below w0.heap.size w0 u) => (show (u.cell? ⟨w.heap.size, 0, none⟩ = some (.int .i64 C) ∧ u.cell? ⟨w.heap.size, 1, none⟩ = some (.slice aL nL cL) ∧ u.cell? ⟨w.heap.size, 2, none⟩ = some (.slice aE nE cE)) ∧ (u.cell? ⟨w.heap.size + 1, 0, none⟩ = some (.int .u8 a0) ∧ u.cell? ⟨w.heap.size + 1, 1, none⟩ = some (.int .i64 a1) ∧ u.cell? ⟨w.heap.size + 1, 2, none⟩ = some (.int .i64 a2)) ∧ (u.cell? ⟨w.heap.size + 2, 0, none⟩ = some (.int .u8 b0) ∧ u.cell? ⟨w.heap.size + 2, 1, none⟩ = some (.int .i64 b1) ∧ u.cell? ⟨w.heap.size + 2, 2, none⟩ = some (.int .i64 b2)) from
    ⟨(cells3F ((hu.block _ (block_lt HH.out)).trans HH.out)).1, (cells3F ((hu.block _ (block_lt HA.out)).trans HA.out)).1, (cells3F ((hu.block _ (block_lt HBB.out)).trans HBB.out)).1⟩))
  obtain ⟨⟨m0, m1, m2⟩, -, -⟩ := CL.out w0 (Below.refl _ _)
  go_upto_region 2 with (go_at_call 15; refine CR.out.mono ?_; intro e u hro; obtain ⟨v, ev, rfl, bu, hro⟩ := ro_split HLE.out.1 HLE.out.2 hro)
  have BU := hd bu
  have BW := hd (HB.out.trans (bu.mono HB.out.size))
  clear CR m0 m1 m2 bu
  rcases hro with ⟨c, p, hR, hF, hc⟩ | ⟨hR, rfl, x, L, rfl, hx, hT⟩
  · have Z : Hid (AhP C nL nE log evs D (a0, a1, a2) (b0, b1, b2) 0 c p ∧ (IsF u ev p c ∧ c ≠ 0)) := ⟨.inl ⟨hR, hc, rfl⟩, hF, hc⟩
    obtain ⟨bf, rfl, -⟩ := hF
    clear hR hc HL HCE
    go_wp2
    go_ret2
    exact ⟨0, _, c, p, rfl, BW.out, Z.out.1, .inl Z.out.2⟩
  · obtain ⟨r1, r2, r3, r4, r5, -⟩ := rcs_zero HLE.out.1 HLE.out.2 hR
    obtain ⟨CN, hCN⟩ : ∃ CN : Nat, C = (CN : Int) := ⟨C.toNat, by omega⟩
    subst hCN
    have PFF := hd (pf_of (D := D) r3 r4 r5 HCE.out)
    have HI := hd (show 1 ≤ CN ∧ CN ≤ 64 from ⟨by omega, by omega⟩)
    have hC64 : CN ≤ 64 := HI.out.2
    have HN := hd (show nL ≤ 4096 from by have := HLE.out.1; omega)
    have HSP := hd (srv_path r3 r4 PFF.out (a0, a1, a2) (b0, b1, b2))
    have HT := hd hT
    have HRR := hd hR
    have CIn : Hid (∀ (y0 y1 y2 : Int) (u' : World), Below u.heap.size u u' → Calls Tryz.prog 26 #[.pointer (some ⟨x, 0, none⟩), .agg #[.int .u8 y0, .int .i64 y1, .int .i64 y2]] u' fun e w' => ∃ bo : Bool, e = .returned (.bool bo) ∧ (bo = true ↔ InsP evs (y0, y1, y2)) ∧ Below u'.heap.size u' w') := fun y0 y1 y2 u' hu =>
      (inserted_any (HT.out.below hu) (fun c => ddAt evs D evs.length ((c : Nat) : Int)) (fun c hc => by rw [← HLE.out.2]; exact S2_ds evs.length c hc) (fun c hc => by
        have h2 := (PFF.out.gw 0 c).n
        have h3 : ((stW apE log (edW evs D) 0).1 c).still.length = (ddAt evs D evs.length (c : Int)).length := by show (edW evs D c).length = _; unfold edW; rw [List.length_map]
        omega) (y0, y1, y2)).mono (fun e w' ⟨bo, h1, h2, h3⟩ => ⟨bo, h1, h2.trans (ins_deeds (D := D) r4 HI.out.2 (y0, y1, y2)).symm, h3⟩)
    have CF := hd (fun (u' : World) (hu : Below u.heap.size u u') => follow_any (HT.out.below hu) (by have := HI.out; omega) HI.out.2 ((HL.out u BW.out).below hu (Nat.le_refl _)) HN.out (fun c => ddAt evs D evs.length ((c + 1 : Nat) : Int)) (fun c hc => by rw [← HLE.out.2]; exact S2_ds evs.length (c + 1) (by have := HI.out; omega)) (E := edW evs D) (fun c hc => rfl) PFF.out ((HTb.out.below BW.out HTb.out.1).below hu (HTb.out.below BW.out HTb.out.1).1))
    clear r1 r2 r3 r4 r5 HCE hR hT hx HL
    obtain ⟨-, ⟨m3, m4, m5⟩, -⟩ := CL.out u BU.out
    by_cases hia : InsP evs (a0, a1, a2)
    · have CA2 : Hid (Calls Tryz.prog 26 #[.pointer (some ⟨x, 0, none⟩), .agg #[.int .u8 a0, .int .i64 a1, .int .i64 a2]] u fun e w' => e = .returned (.bool true) ∧ Below u.heap.size u w') := (CIn.out a0 a1 a2 u (Below.refl _ _)).mono (fun e w' ⟨bo, h1, h2, h3⟩ => ⟨by rw [h1, h2.2 hia], h3⟩)
      have HIA := hd hia
      clear hia
      go_upto_region 6 with (go_at_call 26; refine CA2.out.mono ?_; rintro e u2 ⟨rfl, bu2⟩)
      have BU2 := hd (BU.out.trans (bu2.mono BU.out.size))
      have BX2 := hd bu2
      clear bu2 m3 m4 m5 CA2
      obtain ⟨-, ⟨m3, m4, m5⟩, ⟨m6, m7, m8⟩⟩ := CL.out u2 BU2.out
      by_cases hib : InsP evs (b0, b1, b2)
      · have CB2 : Hid (Calls Tryz.prog 26 #[.pointer (some ⟨x, 0, none⟩), .agg #[.int .u8 b0, .int .i64 b1, .int .i64 b2]] u2 fun e w' => e = .returned (.bool true) ∧ Below u2.heap.size u2 w') := (CIn.out b0 b1 b2 u2 BX2.out).mono (fun e w' ⟨bo, h1, h2, h3⟩ => ⟨by rw [h1, h2.2 hib], h3⟩)
        have HIB := hd hib
        clear CIn hib
        by_cases hab : ((a0, a1, a2) : El) = (b0, b1, b2)
        · have Z : Hid (AhP (CN : Int) nL nE log evs D (a0, a1, a2) (b0, b1, b2) 0 144 1) := .inr (.inr (.inl ⟨HRR.out, HIA.out, .inr hab, rfl, rfl, rfl⟩))
          injection hab with e0 e1
          injection e1 with e1 e2
          subst e0
          subst e1
          subst e2
          have eqs := elSame a0 a1 a2
          have CW := hd (fun W => wrap_any 1 144 W)
          clear HT HRR PFF CF
          go_wp2_with (first | (go_at_call 26; refine CB2.out.mono ?_; rintro e u3 ⟨rfl, bu3⟩; obtain ⟨-, ⟨n3, n4, n5⟩, ⟨n6, n7, n8⟩⟩ := CL.out u3 (BU2.out.trans (bu3.mono BU2.out.size))) | (go_at_call 16; refine (CW.out _).mono ?_; rintro e u4 ⟨v4, rfl, hF, b4⟩))
          have bw3 := BW.out.trans (BX2.out.mono BW.out.size)
          have bw4 := bw3.trans (bu3.mono bw3.size)
          go_ret2
          exact ⟨0, _, 144, 1, rfl, bw4.trans (b4.mono bw4.size), Z.out, .inl ⟨hF, by omega⟩⟩
        · have eqs := fun W => elNe hab W
          have HAB := hd hab
          clear hab
          go_upto_region 8 with (go_at_call 26; refine CB2.out.mono ?_; rintro e u3 ⟨rfl, bu3⟩; obtain ⟨-, ⟨n3, n4, n5⟩, ⟨n6, n7, n8⟩⟩ := CL.out u3 (BU2.out.trans (bu3.mono BU2.out.size)))
          have BU3 := hd (BU2.out.trans (bu3.mono BU2.out.size))
          have BX3 := hd (BX2.out.trans (bu3.mono BX2.out.size))
          have CF3 := hd (CF.out u3 BX3.out)
          clear bu3 m3 m4 m5 m6 m7 m8 n3 n4 n5 n6 n7 n8 CB2 BU2 BX2 eqs CF
          go_upto_region 10 with (go_at_call 17; refine CF3.out.mono ?_; rintro e u4 ⟨aD, cD, βd, rfl, hFO, hβd, bu4⟩)
          have b5 : Below u4.heap.size u4 (u4.alloc (.cells #[.pointer (some ⟨x, 0, none⟩), .slice aD nL cD] 65)) := (Below.refl _ _).alloc (Nat.le_refl _) _
          have HFB := hd (heap_alloc_new u4 (.cells #[.pointer (some ⟨x, 0, none⟩), .slice aD nL cD] 65))
          have b35 := bu4.trans (b5.mono bu4.size)
          have BU5 := hd (BU3.out.trans (b35.mono BU3.out.size))
          have BX5 := hd (BX3.out.trans (b35.mono BX3.out.size))
          have BW5 := hd (BW.out.trans (BX5.out.mono BW.out.size))
          have hFO5 := hd (hFO.fr (Fr.of_below (S := fun _ => False) b5) (fun _ _ h => h))
          clear b5 bu4 hFO hβd b35 CF3
          generalize u4.alloc (.cells #[.pointer (some ⟨x, 0, none⟩), .slice aD nL cD] 65) = u5 at *
          generalize u4.heap.size = fb at *
          have HT5 := hd (HT.out.below BX5.out)
          have HTb5 := hd (HTb.out.below BW5.out HTb.out.1)
          have CS : Hid (∀ (c : Nat) (W : World), c < 65 → Below u5.heap.size u5 W → Calls Tryz.prog 27 #[.agg #[.pointer (some ⟨x, 0, none⟩), .slice aD nL cD], .int .i64 (c : Int), .agg #[.int .u8 a0, .int .i64 a1, .int .i64 a2], .agg #[.int .u8 b0, .int .i64 b1, .int .i64 b2]] W fun e w' => e = .returned (.int .i64 (cliP log evs D (a0, a1, a2) (b0, b1, b2) c)) ∧ Below W.heap.size W w') :=
            fun c W hc hW => by
              have h := side_any HLE.out (HT5.out.below hW) (hFO5.out.fr (Fr.of_below (S := fun _ => False) hW) (fun _ _ h => h)) PFF.out HN.out (HTb5.out.below hW HTb5.out.1) c hc (a0, a1, a2) (b0, b1, b2)
              exact h
          have CB := hd (fun (W : World) (hW : Below u5.heap.size u5 W) => (show (W.cell? ⟨fb, 0, none⟩ = some (.pointer (some ⟨x, 0, none⟩)) ∧ W.cell? ⟨fb, 1, none⟩ = some (.slice aD nL cD)) from by
            have h := (hW.block _ (block_lt HFB.out)).trans HFB.out
            exact ⟨by rw [cell_row h]; rfl, by rw [cell_row h]; rfl⟩))
          clear HT5 HTb5 hFO5 HT HTb PFF
          go_wp2_with fail
          go_loopw [11] (fun i wr => ∃ m : Nat, m ≤ CN ∧ i = .int .i64 ((m + 1 : Nat) : Int) ∧ Hid (Below u5.heap.size u5 wr) ∧ Hid (clisP log evs D (a0, a1, a2) (b0, b1, b2) m = 0)) (fun i _ => CN + 2 - (intOf i).toNat)
          case atStart => exact ⟨0, Nat.zero_le _, rfl, Below.refl _ _, rfl⟩
          case round =>
            obtain ⟨m, hm, rfl, hBr, hZ⟩ := hrel
            have BR := hd (BU5.out.trans (hBr.out.mono BU5.out.size))
            obtain ⟨⟨m0, -, -⟩, ⟨m3, m4, m5⟩, ⟨m6, m7, m8⟩⟩ := CL.out wr BR.out
            obtain ⟨f0, f1⟩ := CB.out wr hBr.out
            generalize hm1 : m + 1 = m1 at *
            have HM1 := hd hm1
            by_cases hlt : m1 ≤ CN
            · have i1 : (m1 : Int) ≤ (CN : Int) := by omega
              have C1 := hd (CS.out m1 wr (by have := HI.out; omega) hBr.out)
              have hmm : CN + 2 - (m1 + 1) < CN + 2 - m1 := by omega
              have HNX : Hid (cliP log evs D (a0, a1, a2) (b0, b1, b2) m1 = 0 → clisP log evs D (a0, a1, a2) (b0, b1, b2) m1 = 0) := fun h1 => by
                have e := HM1.out
                subst e
                exact Eq.trans clisP_succ (Eq.trans (if_pos hZ.out) h1)
              have HNS : Hid (cliP log evs D (a0, a1, a2) (b0, b1, b2) m1 ≠ 0 → ansP log evs D (a0, a1, a2) (b0, b1, b2) CN = cliP log evs D (a0, a1, a2) (b0, b1, b2) m1) := fun hne => by
                have h2 : clisP log evs D (a0, a1, a2) (b0, b1, b2) m1 = cliP log evs D (a0, a1, a2) (b0, b1, b2) m1 := by
                  have e := HM1.out
                  subst e
                  exact Eq.trans clisP_succ (if_pos hZ.out)
                have h3 := clisP_stop (log := log) (evs := evs) (D := D) (a := (a0, a1, a2)) (b := (b0, b1, b2)) (k := m1) (by rw [h2]; exact hne) hlt
                unfold ansP
                rw [h3, h2, if_neg hne]
              clear hm1 hZ CS CB
              generalize cliP log evs D (a0, a1, a2) (b0, b1, b2) m1 = oo at *
              by_cases hz : oo = 0
              · have NX := hd (HNX.out hz)
                subst hz
                clear HNX HNS
                go_wp2_with (go_at_call 27; refine C1.out.mono ?_; rintro e w6 ⟨rfl, k6⟩)
                exact ⟨⟨m1, hlt, by go_num, hBr.out.trans (k6.mono hBr.out.size), NX⟩, by simp [intOf]; omega⟩
              · have hzb : (oo == 0) = false := by simpa using hz
                have Z : Hid (AhP (CN : Int) nL nE log evs D (a0, a1, a2) (b0, b1, b2) oo 0 (-1)) := .inr (.inr (.inr ⟨HRR.out, HIA.out, HIB.out, HAB.out, (HNS.out hz).symm, rfl, rfl⟩))
                clear HNX HNS
                go_wp2_with (go_at_call 27; refine C1.out.mono ?_; rintro e w6 ⟨rfl, k6⟩)
                have bw6 := BW5.out.trans (hBr.out.mono BW5.out.size)
                go_ret2
                exact ⟨oo, _, 0, -1, rfl, bw6.trans (k6.mono bw6.size), Z.out, .inr ⟨rfl, rfl, rfl⟩⟩
            · have i1 : ¬ ((m1 : Int) ≤ (CN : Int)) := by omega
              have C1 := hd (CS.out 0 wr (by omega) hBr.out)
              have HAN : Hid (ansP log evs D (a0, a1, a2) (b0, b1, b2) CN = cliP log evs D (a0, a1, a2) (b0, b1, b2) 0) := by
                have e : m = CN := by omega
                have h0 := hZ.out
                rw [e] at h0
                unfold ansP
                exact (if_pos h0).trans HSP.out.symm
              clear hm1 hZ CS CB
              generalize cliP log evs D (a0, a1, a2) (b0, b1, b2) 0 = oo at *
              have Z : Hid (AhP (CN : Int) nL nE log evs D (a0, a1, a2) (b0, b1, b2) oo 0 (-1)) := .inr (.inr (.inr ⟨HRR.out, HIA.out, HIB.out, HAB.out, HAN.out.symm, rfl, rfl⟩))
              clear HAN
              go_wp2_with (go_at_call 27; refine C1.out.mono ?_; rintro e w6 ⟨rfl, k6⟩)
              have bw6 := BW5.out.trans (hBr.out.mono BW5.out.size)
              go_ret2
              exact ⟨oo, _, 0, -1, rfl, bw6.trans (k6.mono bw6.size), Z.out, .inr ⟨rfl, rfl, rfl⟩⟩
      · have CB2 : Hid (Calls Tryz.prog 26 #[.pointer (some ⟨x, 0, none⟩), .agg #[.int .u8 b0, .int .i64 b1, .int .i64 b2]] u2 fun e w' => e = .returned (.bool false) ∧ Below u2.heap.size u2 w') := (CIn.out b0 b1 b2 u2 BX2.out).mono (fun e w' ⟨ba, h1, h2, h3⟩ => ⟨by cases ba with | false => exact h1 | true => exact absurd (h2.1 rfl) hib, h3⟩)
        have Z : Hid (AhP (CN : Int) nL nE log evs D (a0, a1, a2) (b0, b1, b2) 0 144 1) := .inr (.inr (.inl ⟨HRR.out, HIA.out, .inl hib, rfl, rfl, rfl⟩))
        have CW := hd (fun W => wrap_any 1 144 W)
        clear CIn hib HT HRR PFF CF
        go_wp2_with (first | (go_at_call 26; refine CB2.out.mono ?_; rintro e u3 ⟨rfl, bu3⟩) | (go_at_call 16; refine (CW.out _).mono ?_; rintro e u4 ⟨v4, rfl, hF, b4⟩))
        have bw3 := BW.out.trans (BX2.out.mono BW.out.size)
        have bw4 := bw3.trans (bu3.mono bw3.size)
        go_ret2
        exact ⟨0, _, 144, 1, rfl, bw4.trans (b4.mono bw4.size), Z.out, .inl ⟨hF, by omega⟩⟩
    · have CA2 : Hid (Calls Tryz.prog 26 #[.pointer (some ⟨x, 0, none⟩), .agg #[.int .u8 a0, .int .i64 a1, .int .i64 a2]] u fun e w' => e = .returned (.bool false) ∧ Below u.heap.size u w') := (CIn.out a0 a1 a2 u (Below.refl _ _)).mono (fun e w' ⟨ba, h1, h2, h3⟩ => ⟨by cases ba with | false => exact h1 | true => exact absurd (h2.1 rfl) hia, h3⟩)
      have Z : Hid (AhP (CN : Int) nL nE log evs D (a0, a1, a2) (b0, b1, b2) 0 144 0) := .inr (.inl ⟨HRR.out, hia, rfl, rfl, rfl⟩)
      have CW := hd (fun W => wrap_any 0 144 W)
      clear CIn hia HT HRR PFF CF
      go_wp2_with (first | (go_at_call 26; refine CA2.out.mono ?_; rintro e u3 ⟨rfl, bu3⟩) | (go_at_call 16; refine (CW.out _).mono ?_; rintro e u4 ⟨v4, rfl, hF, b4⟩))
      have bw3 := BW.out.trans (bu3.mono BW.out.size)
      go_ret2
      exact ⟨0, _, 144, 0, rfl, bw3.trans (b4.mono bw3.size), Z.out, .inl ⟨hF, by omega⟩⟩

end Go.Proofs.YtfhghijefjhehaaGreatDoor

/-! Rm -/
namespace Go.Proofs.YtfhghijefjhehaaGreatDoor
open Go.RowKit
set_option linter.unusedVariables false

/-- A list of pairs of elements in memory. -/
def IsAs (w : World) (a : Option Addr) (n : Nat) (X : Nat → El × El) : Prop := 0 < n → ∃ b off, a = some ⟨b, off, none⟩ ∧ b < w.heap.size ∧ ∀ q, q < n → w.cell? ⟨b, off + q * 6, none⟩ = some (.int .u8 (X q).1.1) ∧ w.cell? ⟨b, off + q * 6 + 1, none⟩ = some (.int .i64 (X q).1.2.1) ∧ w.cell? ⟨b, off + q * 6 + 2, none⟩ = some (.int .i64 (X q).1.2.2) ∧ w.cell? ⟨b, off + q * 6 + 3, none⟩ = some (.int .u8 (X q).2.1) ∧ w.cell? ⟨b, off + q * 6 + 4, none⟩ = some (.int .i64 (X q).2.2.1) ∧ w.cell? ⟨b, off + q * 6 + 5, none⟩ = some (.int .i64 (X q).2.2.2)
theorem IsAs.below {w w' : World} {a : Option Addr} {n B : Nat} {X : Nat → El × El} (h : IsAs w a n X) (hb : Below B w w') (hB : w.heap.size ≤ B) : IsAs w' a n X := by
  intro hn
  obtain ⟨b, off, e, hlt, hc⟩ := h hn
  refine ⟨b, off, e, Nat.lt_of_lt_of_le hlt hb.size, fun q hq => ?_⟩
  have k : ∀ m, w'.cell? ⟨b, m, none⟩ = w.cell? ⟨b, m, none⟩ := fun m => hb.cell (p := ⟨b, m, none⟩) (show b < B by omega)
  simp only [k]
  exact hc q hq

set_option maxRecDepth 100000 in
set_option maxHeartbeats 8000000 in
theorem aheads_any (C : Int) (aL aE aW : Option Addr) (nL cL nE cE nW cW : Nat) (log : List Ed) (evs : List Ev) (A : Nat → Option Addr) (K : Nat → Nat) (D : Nat → List El) (W : Nat → El × El) (w : World) (hL : IsL w aL nL log) (hV : IsV w aE nE evs A K) (hX : IsX w evs A D) (hWw : IsAs w aW nW W) (hnL : nL ≤ 2932031007402) (hnE : nE ≤ 1466015503701) (hnW : nW ≤ 9223372036854775800)
    (hD : ∀ j (hj : j < evs.length), evs[j].len ≤ 11728124029610) (hcl : ∀ j (h : j < log.length), 0 ≤ log[j].o.ch ∧ log[j].o.ch ≤ 255) (hce : ∀ j (h : j < evs.length), 0 ≤ evs[j].o.ch ∧ evs[j].o.ch ≤ 255) (hH : Handle w) (hTb : Table w) :
    Calls Tryz.prog 4 #[.agg #[.int .i64 C, .slice aL nL cL, .slice aE nE cE], .slice aW nW cW] w fun e w' => e = .returned (.bool true) ∧ Below w.heap.size w w' := by
  have hb : Below w.heap.size w (w.alloc (.cells #[.int .i64 C, .slice aL nL cL, .slice aE nE cE] 25)) := (Below.refl _ _).alloc (Nat.le_refl _) _
  have HG := hd (heap_alloc_new w (.cells #[.int .i64 C, .slice aL nL cL, .slice aE nE cE] 25))
  have HB := hd hb
  have HL := hd (fun u (hu : Below w.heap.size w u) => hL.below hu (Nat.le_refl _))
  have HV := hd (fun u (hu : Below w.heap.size w u) => hV.below hu (Nat.le_refl _))
  have HX := hd (fun u (hu : Below w.heap.size w u) => hX.below hu (Nat.le_refl _))
  have HWW := hd (fun u (hu : Below w.heap.size w u) => hWw.below hu (Nat.le_refl _))
  have HHd := hd (fun u (hu : Below w.heap.size w u) => hH.below hu hH.pos)
  have HLE := hd (show log.length = nL ∧ evs.length = nE from ⟨hL.1, hV.1⟩)
  have HW := hd (show nL ≤ 2932031007402 ∧ nE ≤ 1466015503701 ∧ nW ≤ 9223372036854775800 from ⟨hnL, hnE, hnW⟩)
  have HD := hd hD
  have HCL := hd hcl
  have HCE := hd hce
  have HTb := hd (fun u (hu : Below w.heap.size w u) => hTb.below hu hTb.1)
  clear hb hL hV hX hWw hnL hnE hnW hD hcl hce hH hTb
  go_enter Tryz.func4, Tryz.ntmps4
  go_upto_region 1 with fail
  generalize w.alloc (.cells #[.int .i64 C, .slice aL nL cL, .slice aE nE cE] 25) = w0 at *
  go_wp2_with fail
  go_loopw [5] (fun v wr => ∃ k : Nat, k ≤ nW ∧ v = .int .i64 k ∧ Hid (Below w.heap.size w wr ∧ wr.heap[w.heap.size]? = some (.cells #[.int .i64 C, .slice aL nL cL, .slice aE nE cE] 25 (0, 0)))) (fun v _ => nW - (intOf v).toNat)
  case atStart => exact ⟨0, Nat.zero_le _, rfl, HB.out, HG.out⟩
  case round =>
    obtain ⟨k, hk, rfl, HR⟩ := hrel
    clear HB HG
    by_cases hlt : k < nW
    · obtain ⟨bw, ow, rfl, lbw, hc⟩ := (HWW.out w (Below.refl _ _)) (by omega)
      have i1 : (k : Int) < (nW : Int) := by omega
      have E3 : wrap64 ((k : Int) + 1) = ((k + 1 : Nat) : Int) := by have := HW.out.2.2; rw [wrap64]; omega
      have hck := hc k hlt
      obtain ⟨⟨⟨x0, x1, x2⟩, ⟨y0, y1, y2⟩⟩, hx⟩ : ∃ z, z = W k := ⟨_, rfl⟩
      rw [← hx] at hck
      simp only at hck
      clear hx
      have CL := hd (fun (u : World) (hu : Below w.heap.size w u) (hg : u.heap[w.heap.size]? = some (.cells #[.int .i64 C, .slice aL nL cL, .slice aE nE cE] 25 (0, 0))) => (show (u.cell? ⟨w.heap.size, 0, none⟩ = some (.int .i64 C) ∧ u.cell? ⟨w.heap.size, 1, none⟩ = some (.slice aL nL cL) ∧ u.cell? ⟨w.heap.size, 2, none⟩ = some (.slice aE nE cE)) ∧ (u.cell? ⟨bw, ow + k * 6, none⟩ = some (.int .u8 x0) ∧ u.cell? ⟨bw, ow + k * 6 + 1, none⟩ = some (.int .i64 x1) ∧ u.cell? ⟨bw, ow + k * 6 + 2, none⟩ = some (.int .i64 x2) ∧ u.cell? ⟨bw, ow + k * 6 + 3, none⟩ = some (.int .u8 y0) ∧ u.cell? ⟨bw, ow + k * 6 + 4, none⟩ = some (.int .i64 y1) ∧ u.cell? ⟨bw, ow + k * 6 + 5, none⟩ = some (.int .i64 y2)) from
        ⟨⟨by rw [cell_row hg]; rfl, by rw [cell_row hg]; rfl, by rw [cell_row hg]; rfl⟩, by
          have kk : ∀ m, u.cell? ⟨bw, m, none⟩ = w.cell? ⟨bw, m, none⟩ := fun m => hu.cell (p := ⟨bw, m, none⟩) lbw
          simp only [kk]
          exact hck⟩))
      obtain ⟨⟨m0, m1, m2⟩, ⟨m3, m4, m5, m6, m7, m8⟩⟩ := CL.out wr HR.out.1 HR.out.2
      clear hck
      clear hc
      have BD := hd (show Below w.heap.size w wr.drew from HR.out.1.drew)
      have HGd := hd (show wr.drew.heap[w.heap.size]? = some (.cells #[.int .i64 C, .slice aL nL cL, .slice aE nE cE] 25 (0, 0)) from HR.out.2)
      have CP := hd (hcopied_any C aL aE nL cL nE cE log evs A K D wr.drew (HL.out _ BD.out) (HV.out _ BD.out) (HX.out _ BD.out) HW.out.1 HW.out.2.1 HD.out)
      have q0 : wr.drew.cell? ⟨w.heap.size, 0, none⟩ = some (.int .i64 C) := m0
      have q1 : wr.drew.cell? ⟨w.heap.size, 1, none⟩ = some (.slice aL nL cL) := m1
      have q2 : wr.drew.cell? ⟨w.heap.size, 2, none⟩ = some (.slice aE nE cE) := m2
      have q3 : wr.drew.cell? ⟨bw, ow + k * 6, none⟩ = some (.int .u8 x0) := m3
      have q4 : wr.drew.cell? ⟨bw, ow + k * 6 + 1, none⟩ = some (.int .i64 x1) := m4
      have q5 : wr.drew.cell? ⟨bw, ow + k * 6 + 2, none⟩ = some (.int .i64 x2) := m5
      have q6 : wr.drew.cell? ⟨bw, ow + k * 6 + 3, none⟩ = some (.int .u8 y0) := m6
      have q7 : wr.drew.cell? ⟨bw, ow + k * 6 + 4, none⟩ = some (.int .i64 y1) := m7
      have q8 : wr.drew.cell? ⟨bw, ow + k * 6 + 5, none⟩ = some (.int .i64 y2) := m8
      go_upto_region 4 with fail
      go_region_held3 (fun U => U.cell? ⟨w.heap.size, 0, none⟩ = some (.int .i64 C) ∧ U.cell? ⟨w.heap.size, 1, none⟩ = some (.slice aL nL cL) ∧ U.cell? ⟨w.heap.size, 2, none⟩ = some (.slice aE nE cE) ∧ U.cell? ⟨bw, ow + k * 6, none⟩ = some (.int .u8 x0) ∧ U.cell? ⟨bw, ow + k * 6 + 1, none⟩ = some (.int .i64 x1) ∧ U.cell? ⟨bw, ow + k * 6 + 2, none⟩ = some (.int .i64 x2) ∧ U.cell? ⟨bw, ow + k * 6 + 3, none⟩ = some (.int .u8 y0) ∧ U.cell? ⟨bw, ow + k * 6 + 4, none⟩ = some (.int .i64 y1) ∧ U.cell? ⟨bw, ow + k * 6 + 5, none⟩ = some (.int .i64 y2)) (first | (with_reducible exact ⟨by assumption, by assumption, by assumption, by assumption, by assumption, by assumption, by assumption, by assumption, by assumption⟩) | (go_keep; done)) (first
        | (go_at_call 7; refine CP.out.mono ?_; rintro e u ⟨g1, g2, A', K', rfl, c1, c2, c3, bu⟩; have BU := hd (BD.out.trans (bu.mono BD.out.size)); have HGu := hd (block_keep bu HGd.out (block_lt HGd.out)); obtain ⟨⟨d0, d1, d2⟩, ⟨d3, d4, d5, d6, d7, d8⟩⟩ := CL.out u BU.out HGu.out; have CS := hd (hahead_any C (some ⟨g1, 0, none⟩) (some ⟨g2, 0, none⟩) nL nL nE nE log evs A' K' D (x0, x1, x2) (y0, y1, y2) u c1 c2 c3 HW.out.2.1 HCL.out HCE.out (HTb.out u BU.out)); simp only [elV] at CS; clear c1 c2 c3 bu)
        | (go_at_call 11; refine CS.out.mono ?_; rintro e u2 ⟨n, ev, c, p, rfl, b2, hS, hF⟩; have BU2 := hd (BU.out.trans (b2.mono BU.out.size)); have HG2 := hd (block_keep b2 HGu.out (block_lt HGu.out)); obtain ⟨⟨e0, e1, e2⟩, ⟨e3, e4, e5, e6, e7, e8⟩⟩ := CL.out u2 BU2.out HG2.out; have HO := hd (And.intro hS hF); clear b2 hS hF))
      clear m0 m1 m2 m3 m4 m5 m6 m7 m8 q0 q1 q2 q3 q4 q5 q6 q7 q8 d0 d1 d2 d3 d4 d5 d6 d7 d8 CP CS BU HGu BD HGd HR
      have BD := hd (show Below w.heap.size w u2.drew from BU2.out.drew)
      have HGd := hd (show u2.drew.heap[w.heap.size]? = some (.cells #[.int .i64 C, .slice aL nL cL, .slice aE nE cE] 25 (0, 0)) from HG2.out)
      have CR := hd (rahead_law C aL aE nL cL nE cE log evs A K D (x0, x1, x2) (y0, y1, y2) u2.drew (HL.out _ BD.out) (HV.out _ BD.out) HW.out.2.1 HCE.out)
      simp only [elV] at CR
      have q0 : u2.drew.cell? ⟨w.heap.size, 0, none⟩ = some (.int .i64 C) := e0
      have q1 : u2.drew.cell? ⟨w.heap.size, 1, none⟩ = some (.slice aL nL cL) := e1
      have q2 : u2.drew.cell? ⟨w.heap.size, 2, none⟩ = some (.slice aE nE cE) := e2
      have q3 : u2.drew.cell? ⟨bw, ow + k * 6, none⟩ = some (.int .u8 x0) := e3
      have q4 : u2.drew.cell? ⟨bw, ow + k * 6 + 1, none⟩ = some (.int .i64 x1) := e4
      have q5 : u2.drew.cell? ⟨bw, ow + k * 6 + 2, none⟩ = some (.int .i64 x2) := e5
      have q6 : u2.drew.cell? ⟨bw, ow + k * 6 + 3, none⟩ = some (.int .u8 y0) := e6
      have q7 : u2.drew.cell? ⟨bw, ow + k * 6 + 4, none⟩ = some (.int .i64 y1) := e7
      have q8 : u2.drew.cell? ⟨bw, ow + k * 6 + 5, none⟩ = some (.int .i64 y2) := e8
      go_upto_region 5 with fail
      go_region_held3 (fun U => U.cell? ⟨w.heap.size, 0, none⟩ = some (.int .i64 C) ∧ U.cell? ⟨w.heap.size, 1, none⟩ = some (.slice aL nL cL) ∧ U.cell? ⟨w.heap.size, 2, none⟩ = some (.slice aE nE cE) ∧ U.cell? ⟨bw, ow + k * 6, none⟩ = some (.int .u8 x0) ∧ U.cell? ⟨bw, ow + k * 6 + 1, none⟩ = some (.int .i64 x1) ∧ U.cell? ⟨bw, ow + k * 6 + 2, none⟩ = some (.int .i64 x2) ∧ U.cell? ⟨bw, ow + k * 6 + 3, none⟩ = some (.int .u8 y0) ∧ U.cell? ⟨bw, ow + k * 6 + 4, none⟩ = some (.int .i64 y1) ∧ U.cell? ⟨bw, ow + k * 6 + 5, none⟩ = some (.int .i64 y2)) (first | (with_reducible exact ⟨by assumption, by assumption, by assumption, by assumption, by assumption, by assumption, by assumption, by assumption, by assumption⟩) | (go_keep; done)) (first
        | (go_at_call 12; refine CR.out.mono ?_; rintro e u3 ⟨n', c', p', rfl, b3, hS⟩; have BU3 := hd (BD.out.trans (b3.mono BD.out.size)); have HG3 := hd (block_keep b3 HGd.out (block_lt HGd.out)); obtain ⟨⟨f0, f1, f2⟩, ⟨f3, f4, f5, f6, f7, f8⟩⟩ := CL.out u3 BU3.out HG3.out; have HO' := hd (And.intro hS b3); clear b3 hS))
      obtain ⟨rfl, rfl, rfl⟩ := ah_one HLE.out.1 HLE.out.2 HO.out.1 HO'.out.1
      have CE : Hid (Calls Tryz.prog 10 #[ev, .int .i64 c, .int .i64 p] u3 fun e w' => e = .returned (.bool true) ∧ Below u3.heap.size u3 w') := by
        rcases HO.out.2 with ⟨h1, h2⟩ | ⟨rfl, rfl, rfl⟩
        · exact same_some ev p c u3 (IsF.below (w := u2.drew) h1 HO'.out.2) (HHd.out _ BU3.out) h2
        · exact same_none u3
      clear e0 e1 e2 e3 e4 e5 e6 e7 e8 q0 q1 q2 q3 q4 q5 q6 q7 q8 f0 f1 f2 f3 f4 f5 f6 f7 f8 CR HO HO' BU2 HG2 BD HGd CL
      go_wp2_with fail
      refine CE.out.mono ?_
      rintro e u5 ⟨rfl, b5⟩
      have Z : Hid (Below w.heap.size w u5 ∧ u5.heap[w.heap.size]? = some (.cells #[.int .i64 C, .slice aL nL cL, .slice aE nE cE] 25 (0, 0))) := ⟨BU3.out.trans (b5.mono BU3.out.size), (b5.block _ (block_lt HG3.out)).trans HG3.out⟩
      clear CE b5 BU3 HG3
      go_wp2
      exact ⟨⟨k + 1, by omega, by rw [E3], Z.out⟩, by rw [E3]; simp only [intOf, Int.toNat_natCast]; omega⟩
    · obtain rfl : k = nW := by omega
      go_wp2
      go_ret
      exact ⟨rfl, HR.out.1⟩

end Go.Proofs.YtfhghijefjhehaaGreatDoor

/-! Rn -/
namespace Go.Proofs.YtfhghijefjhehaaGreatDoor
open Go.ChangeShapes Go.WideShapes Go.ChangeAt Go.RowKit Go.Deep Go.Joins
set_option linter.unusedVariables false

theorem cellsAs : Tryz.prog.cellsOf 44 = 6 := by kernel_rfl
theorem bytesAs : Tryz.prog.bytesOf 44 = 48 := by kernel_rfl

section
variable {H : Type} {enc : TypeId × Value → H} {W : World}
/-- An element, its three cells. -/
theorem elem_of {fuel : Nat} {v0 v1 v2 : Value} {x : DataW H × List MemPlace} (hf : DataW.trod enc Tryz.prog W 0 (fun _ => true) true fuel 42 [v0, v1, v2] = some x) :
    ∃ q : El, v0 = .int .u8 q.1 ∧ v1 = .int .i64 q.2.1 ∧ v2 = .int .i64 q.2.2 := by
  obtain ⟨y0, y1, y2, n', hyx, g0, g1, g2⟩ := trod_s3 Tryz.underlying42 hf
  simp [cells3, cellsU] at g0 g1 g2
  obtain ⟨z0, e0, _, f0⟩ := DataW.trod_int Tryz.underlying5 g0
  obtain ⟨z1, e1, _, f1⟩ := DataW.trod_int Tryz.underlying3 g1
  obtain ⟨z2, e2, _, f2⟩ := DataW.trod_int Tryz.underlying3 g2
  simp at e0 e1 e2
  exact ⟨(z0, z1, z2), e0, e1, e2⟩

set_option maxRecDepth 100000 in
theorem isAs_of {v : Value} {d : DataW H} {p : List MemPlace} (h : DataW.Trod enc Tryz.prog W 0 (fun _ => true) true 38 v d p) (hv : v.cells.toList = [v]) (hs : Reaches 38 d) :
    ∃ a n c, ∃ X : Nat → El × El, v = .slice a n c ∧ n * 48 ≤ 140737488351232 ∧ IsAs W a n X := by
  obtain ⟨fuel, hf⟩ := h
  rw [hv] at hf
  rcases DataW.trod_slice Tryz.underlying38 hf with ⟨hcs, _⟩ | ⟨x, l, cc, elems, rest, n, hfu, hcs, hd', _, hl, hm, hlen, hel, hsp, _⟩
  · simp at hcs
    exact ⟨none, 0, 0, fun _ => ((0, 0, 0), (0, 0, 0)), hcs, by omega, fun h => by omega⟩
  · simp at hcs
    have hd2 : d = .slice (elems.map (·.1)) (rest.map (·.1)) := (Prod.mk.inj hd').1
    have hsz : l * 48 ≤ 140737488351232 := by
      have := hs (((elems.map (·.1)).length + (rest.map (·.1)).length) * Tryz.prog.bytesOf 44) (by rw [hd2]; simp [DataW.weights, Tryz.underlying38])
      rw [bytesAs] at this
      simp [hlen] at this
      omega
    have each : ∀ i, ∃ q : El × El, i < l → (W.cell? (x.add (i * 6)) = some (.int .u8 q.1.1) ∧ W.cell? (x.add (i * 6 + 1)) = some (.int .i64 q.1.2.1) ∧ W.cell? (x.add (i * 6 + 2)) = some (.int .i64 q.1.2.2) ∧ W.cell? (x.add (i * 6 + 3)) = some (.int .u8 q.2.1) ∧ W.cell? (x.add (i * 6 + 4)) = some (.int .i64 q.2.2.1) ∧ W.cell? (x.add (i * 6 + 5)) = some (.int .i64 q.2.2.2)) := by
      intro i
      by_cases hi : i < l
      · have he := hel i hi
        rw [cellsAs, List.getElem?_eq_getElem (by omega)] at he
        obtain ⟨cs', h1, h2⟩ := Option.bind_eq_some_iff.1 he
        obtain ⟨_, hlen', hcell⟩ := World.cells?_some h1
        obtain ⟨y0, y1, n', hyx, g0, g1⟩ := trod_s2 Tryz.underlying44 h2
        match cs', hlen' with
        | [v0, v1, v2, v3, v4, v5], _ =>
          simp [cellsEl] at g0 g1
          obtain ⟨o, rfl, rfl, rfl⟩ := elem_of g0
          obtain ⟨o', rfl, rfl, rfl⟩ := elem_of g1
          have k0 := hcell 0 (by omega)
          have k1 := hcell 1 (by omega)
          have k2 := hcell 2 (by omega)
          have k3 := hcell 3 (by omega)
          have k4 := hcell 4 (by omega)
          have k5 := hcell 5 (by omega)
          rw [add_add] at k0 k1 k2 k3 k4 k5
          exact ⟨(o, o'), fun _ => ⟨by simpa using k0, by simpa using k1, by simpa using k2, by simpa using k3, by simpa using k4, by simpa using k5⟩⟩
      · exact ⟨((0, 0, 0), (0, 0, 0)), fun h => absurd h hi⟩
    obtain ⟨Q, hQ⟩ := Classical.axiomOfChoice each
    refine ⟨_, l, cc, Q, hcs, hsz, fun h0 => ?_⟩
    obtain ⟨b, off, spot⟩ := x
    have c0 := (hQ 0 h0).1
    have hspot : spot = none := by simpa [Addr.add] using World.cell?_spot c0
    subst hspot
    have hblk := cell_lt c0
    rw [add_lit] at hblk
    refine ⟨b, off, rfl, hblk, fun q hq => ?_⟩
    have k := hQ q hq
    simp only [add_lit] at k
    simpa [Nat.add_assoc] using k
end

end Go.Proofs.YtfhghijefjhehaaGreatDoor
