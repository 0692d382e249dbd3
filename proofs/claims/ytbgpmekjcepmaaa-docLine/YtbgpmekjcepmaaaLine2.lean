/-
  DocLine: too many steps.
-/
import Derived.Test.YtbgpmekjcepmaaaLine1
namespace Go.Proofs.Ytbgpmekjcepmaaa
open Go.RowKit
set_option linter.unusedVariables false

set_option maxRecDepth 100000 in
set_option maxHeartbeats 8000000 in
theorem line_cut (sa : Option Addr) (n c : Nat) (S : Nat → Bool × Int × Int) (w : World) (hE : IsS w sa n c S) (hk : OkS S) (hn : 60 < n) :
    Calls Try.prog 8 #[.slice sa n c] w fun e w' => e = .returned (.bool true) ∧ Below w.heap.size w w' := by
  obtain ⟨N, hSx⟩ : ∃ N, N = 60 := ⟨_, rfl⟩
  have hN : N ≤ 60 := by omega
  have HE : Hid (IsS w sa N c S) := hE.take N (by omega)
  have HSx := hd hSx
  have i2 : (60 : Int) ≤ (c : Int) := by have := hE.1; omega
  have i3 := hE.2.1
  have HS := hd hk
  have i0 : (n : Int) > 60 := by omega
  clear hE hk hSx
  go_enter Try.func8, Try.ntmps8
  have S0 := hd (NRel.start w)
  go_wp2
  rw [← HSx.out]
  go_loopw [3, 4, 5, 6] (fun dv ops texts i wr => ∃ k nv : Nat, k ≤ N ∧ i = .int .i64 k ∧ Hid (NRel w wr dv ops texts nv k)) (fun _ _ _ i _ => N - (intOf i).toNat)
  case atStart => exact ⟨0, 0, Nat.zero_le _, rfl, S0⟩
  case round =>
    obtain ⟨k, nv, hk, rfl, hr⟩ := hrel
    clear S0
    by_cases hlt : k < N
    · obtain ⟨L, xs, vs, TS, β, δ, h1, h2, h3, h4, h5, h6, h7⟩ := hr.out
      obtain ⟨f1, f2, f3, f4, f5, f6⟩ := h1.facts
      obtain ⟨la, lc, rfl, -⟩ := h1.form
      obtain ⟨ta, tc, rfl, -⟩ := h2.formN (h5.1.trans h6)
      obtain ⟨da, dc, rfl, hID, -⟩ := h4.form
      rw [f1] at hID
      have hr' : Hid (NRel w wr (.slice da nv dc) (.slice la k lc) (.slice ta k tc) nv k) := by
        have := hr.out
        rw [f1] at this
        exact this
      have h4' : SE wr δ (.slice da nv dc) xs := by rw [f1] at h4; exact h4
      rw [f1]
      have S4 := hd h4'
      have ID := hd hID
      have X1 := hd f1
      have HB := hd f6
      obtain ⟨b, off, rfl, hb, hc⟩ := (HE.out.below f6).2.2 (by omega)
      obtain ⟨e0, e1, e2⟩ := hc k hlt
      have SK := hd (HS.out k)
      have i1 : (k : Int) < (N : Int) := by omega
      generalize S k = sk at *
      obtain ⟨so, sn, sc⟩ := sk
      simp only [] at e0 e1 e2 SK
      clear hr h1 h2 h3 h4 h5 h6 h7 f1 f3 f4 f5 f6 h4' hID hc
      go_wp2_with fail
      refine (made_any so sn sc k nv _ (by omega) (by omega) SK.out.1 SK.out.2).mono ?_
      rintro e w2 ⟨k', p', c', l', s', rfl, hmd, hc0, hc1, b2⟩
      have MD := hd hmd
      have HF : Hid (fitsP nv ⟨k', p', c', l', s'⟩ = 0) := hmd.fits (by omega) (by omega)
      have B2 := hd b2
      clear hmd b2
      go_wp2_with fail
      have bA : Below wr.heap.size wr (w2.alloc (.cells #[.int .i64 k', .int .i64 p', .int .u8 c', .int .i64 l', .int .i64 s'] 23)) := B2.out.alloc B2.out.size _
      refine (apply_good _ _ _ _ _ _ _ _ xs _ (ID.out.below bA) hc0 hc1 HF.out).mono ?_
      rintro e w3 ⟨v3, rfl, hO3, b3⟩
      obtain ⟨g3, c3, -, rfl, hR3⟩ := hO3.form
      have R3 := hd hR3
      have B3 := hd (bA.trans (b3.mono bA.size))
      have c0 := out_cell b3 0
      have c1 := out_cell b3 1
      have c2 := out_cell b3 2
      have c3' := out_cell b3 3
      have c4 := out_cell b3 4
      simp at c0 c1 c2 c3' c4
      have lt3 := hd (show w2.heap.size < w3.heap.size from Nat.lt_of_lt_of_le (by simp) b3.size)
      clear hO3 hR3 b3 bA B2
      generalize w2.heap.size = r at *
      go_wp2_with fail
      refine (stepped_any δ _ g3 c3 nv k ⟨k', p', c', l', s'⟩ xs _ (S4.out.below B3.out) X1.out (by omega) MD.out R3.out).mono ?_
      rintro e w4 ⟨rfl, b4⟩
      have d0 := (b4.cell (p := ⟨r, 0, none⟩) lt3.out).trans c0
      have d1 := (b4.cell (p := ⟨r, 1, none⟩) lt3.out).trans c1
      have d2 := (b4.cell (p := ⟨r, 2, none⟩) lt3.out).trans c2
      have d3 := (b4.cell (p := ⟨r, 3, none⟩) lt3.out).trans c3'
      have d4 := (b4.cell (p := ⟨r, 4, none⟩) lt3.out).trans c4
      have R4 := R3.out.fr (S := fun _ => False) (Fr.of_below b4) (fun h => h)
      obtain ⟨δ2, xs2, s2, x2, hstep⟩ := hr'.out.step (B3.out.trans (b4.mono B3.out.size)) (by omega)
      have hxx : xs2 = xs := by
        obtain ⟨a1, c1', e1', q1, -⟩ := s2.form
        obtain ⟨a2, c2', e2', q2, -⟩ := S4.out.form
        have l1 : xs2.length = nv := x2
        have l2 : xs.length = nv := X1.out
        obtain ⟨rfl, -, rfl⟩ := Value.slice.inj (e1'.symm.trans e2')
        rw [l1] at q1
        rw [l2] at q2
        by_cases h0 : nv = 0
        · rw [List.eq_nil_of_length_eq_zero (l1.trans h0), List.eq_nil_of_length_eq_zero (l2.trans h0)]
        · obtain ⟨bb, oo, rfl, -⟩ := q1.addr (by omega)
          apply List.ext_getElem (by omega)
          intro i hi1 hi2
          obtain ⟨y0, y1, y2⟩ := q1.at i (by omega) hi1
          obtain ⟨z0, z1, z2⟩ := q2.at i (by omega) hi2
          rw [y0] at z0
          rw [y1] at z1
          rw [y2] at z2
          simp at z0 z1 z2
          exact Prod.ext z0 (Prod.ext z1 z2)
      subst hxx
      obtain ⟨v6, w6, v8, w8, hr6, hr8, hN8⟩ := hstep ⟨k', p', c', l', s'⟩ MD.out ⟨hc0, hc1⟩ g3 c3 R4
      simp only [opc] at hr6
      have N8 := hd hN8
      clear b4 c0 c1 c2 c3' c4 R4 R3 B3 S4 ID X1 hr' MD HF hstep s2 x2 hN8 HB
      generalize (applyP xs2 ⟨k', p', c', l', s'⟩).length = nv2 at *
      go_wp2_with (first | (at_builtin; refine wpList_append_k _ rfl _ _ 43 43 rfl _ _ rfl rfl (hr6 _) ?_) | (at_builtin; refine wpList_append_k _ rfl _ _ 51 51 rfl _ _ rfl rfl (hr8 _) ?_))
      exact ⟨⟨k + 1, nv2, by omega, by go_num, N8⟩, by simp [intOf]; omega⟩
    · obtain rfl : k = N := by omega
      obtain ⟨L, xs, vs, TS, β, δ, h1, h2, h3, h4, h5, h6, h7⟩ := hr.out
      obtain ⟨f1, f2, f3, f4, f5, f6⟩ := h1.facts
      obtain ⟨la, lc, rfl, hIO⟩ := h1.form
      obtain ⟨da, dc, rfl, hID, -⟩ := h4.form
      have IOq := hd hIO
      have OK := hd f3
      have RP := hd f4
      have ID := hd hID
      have HB := hd f6
      have S2 := hd h2
      have X5 := hd h5
      have LT := hd h6
      have LI := hd h7
      obtain ⟨ta, tc, rfl, -⟩ := h2.formN (h5.1.trans h6)
      clear hr h1 h2 h3 h4 h5 h6 h7 f1 f3 f4 f5 f6 hIO hID
      go_wp2_with fail
      refine (replay_any _ _ _ L _ IOq.out OK.out).mono ?_
      rintro e w2 ⟨v2, rfl, hM2, b2⟩
      rw [RP.out] at hM2 ⊢
      simp only [] at hM2 ⊢
      obtain ⟨δ2, ra, rc, rfl, hI2, -, -⟩ := hM2.formN rfl
      have I2 := hd hI2
      have ID2 := hd (ID.out.below b2)
      have B2 := hd (HB.out.trans (b2.mono HB.out.size))
      have S3 := hd (S2.out.below b2)
      have X6 := hd (X5.out.below b2)
      clear hM2 hI2 b2 IOq OK RP ID HB S2 X5
      go_wp2_with fail
      refine (same_any _ _ _ _ _ _ xs xs _ I2.out ID2.out).mono ?_
      rintro e w3 ⟨rfl, m3, rfl⟩
      rw [decide_eq_true rfl]
      have bD : Below w2.heap.size w2 (w2.drewN m3) := below_drewN (Below.refl _ _) m3
      have ID3 := hd (ID2.out.below bD)
      have B3 := hd (B2.out.trans (bD.mono B2.out.size))
      have S4 := hd (S3.out.below bD)
      have X7 := hd (X6.out.below bD)
      clear I2 ID2 B2 S3 X6 bD
      generalize w2.drewN m3 = w3 at *
      have V0 : Hid (VRel w w3 da dc xs ta tc vs TS k β) := ⟨ID3.out, S4.out, X7.out, LT.out, B3.out⟩
      clear ID3 B3 S4 X7
      go_wp2
      go_loopw [13] (fun i wr => ∃ j : Nat, j ≤ k ∧ i = .int .i64 j ∧ Hid (VRel w wr da dc xs ta tc vs TS k β)) (fun i _ => k - (intOf i).toNat)
      case atStart => exact ⟨0, Nat.zero_le _, rfl, V0⟩
      case round =>
        obtain ⟨j, hj, rfl, hV⟩ := hrel
        clear V0
        by_cases hjk : j < k
        · obtain ⟨gt, ht, gl, cj, cm, Ti, gi, ci, hci, hRi, hOi, Tm, gm, cim, hcm, hRm, hOm⟩ := hV.out.pick LI.out j hjk
          have Ta : ta = some ⟨gt, 0, none⟩ := ht
          subst Ta
          rw [hci] at cj
          rw [hcm] at cm
          have i1 : (j : Int) < (k : Int) := by omega
          have i2 : ((j : Int) + (k : Int)) / 2 = (((j + k) / 2 : Nat) : Int) := by omega
          have i3 : (((j + k) / 2 : Nat) : Int) < (k : Int) := by omega
          have i4 : ((j : Int) + (k : Int)).tdiv 2 = (((j + k) / 2 : Nat) : Int) := by rw [Int.tdiv_eq_ediv_of_nonneg (by omega)]; exact i2
          have i5 : IntKind.i64.wrap (((j + k) / 2 : Nat) : Int) = (((j + k) / 2 : Nat) : Int) := by rw [IntKind.wrap_i64]; omega
          have i6 : (0 : Int) ≤ (((j + k) / 2 : Nat) : Int) := by omega
          have VV := hd hV.out
          have RI := hd hRi
          have OI := hd hOi
          have RM := hd hRm
          have OM := hd hOm
          clear hV hRi hOi hRm hOm hci hcm ht
          generalize (j + k) / 2 = q at *
          have hw : IntKind.i64.wrap ((j : Int) + (k : Int)) = (j : Int) + (k : Int) := by rw [IntKind.wrap_i64]; omega
          have VD := hd (VV.out.below (below_drewN (Below.refl wr.heap.size wr) 1))
          have RID := hd (RI.out.fr (Fr.drew (fun _ => False) wr) (fun h => h))
          have RMD := hd (RM.out.fr (Fr.drew (fun _ => False) wr) (fun h => h))
          clear VV RI RM
          go_wp2
          go_region_held3 (fun W => W.cell? ⟨gt, j, none⟩ = some (.slice (some ⟨gi, 0, none⟩) Ti.length ci) ∧ W.cell? ⟨gt, q, none⟩ = some (.slice (some ⟨gm, 0, none⟩) Tm.length cim)) (first | go_keep | (exact ⟨by assumption, by assumption⟩)) (first | (go_at_call 26; revert RI5; intro RI5; refine (ordered_any (some ⟨gi, 0, none⟩) (some ⟨gm, 0, none⟩) Ti.length ci Tm.length cim Ti Tm _ RI5.out.isE RM5.out.isE OM.out).mono ?_; rintro e w6 ⟨rfl, b6⟩; have y3 := (b6.cell (p := ⟨gt, j, none⟩) gl5).trans y1; have y4 := (b6.cell (p := ⟨gt, q, none⟩) gl5).trans y2; have V6 := hd (V5.out.below b6); clear b6) | (go_at_call 26; refine (ordered_any (some ⟨gi, 0, none⟩) da Ti.length ci xs.length dc Ti xs _ RID.out.isE VD.out.1 OI.out).mono ?_; rintro e w5 ⟨rfl, b5⟩; have y1 := (b5.cell (p := ⟨gt, j, none⟩) gl).trans cj; have y2 := (b5.cell (p := ⟨gt, q, none⟩) gl).trans cm; have V5 := hd (VD.out.below b5); have RI5 := hd (RID.out.fr (S := fun _ => False) (Fr.of_below b5) (fun h => h)); have RM5 := hd (RMD.out.fr (S := fun _ => False) (Fr.of_below b5) (fun h => h)); have gl5 := Nat.lt_of_lt_of_le gl b5.size; clear b5))
          go_wp2
          exact ⟨⟨j + 1, by omega, by go_num, V6⟩, by simp [intOf]; omega⟩
        · go_wp2
          go_ret
          exact ⟨rfl, hV.out.2.2.2.2⟩

end Go.Proofs.Ytbgpmekjcepmaaa
