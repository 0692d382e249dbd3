/-
  OtSquare.
-/
import Derived.Test.YtmkgkgdngjmcmabDoorUs
import Derived.Test.YtmkgkgdngjmcmabDoorQe
import Derived.Test.YtmkgkgdngjmcmabDoorQd
import Derived.Test.YtmkgkgdngjmcmabDoorNd
import Derived.Test.YtmkgkgdngjmcmabDoorNe
import Derived.Test.YtmkgkgdngjmcmabDoorEg
import Derived.Test.YtmkgkgdngjmcmabDoorMk
namespace Go.Proofs.YtmkgkgdngjmcmabDoor
open Go.RowKit
set_option linter.unusedVariables false

/-- The four texts where they stand. -/
structure SQ (w : World) (v ua ub ux : Value) (d A B X : List El) : Prop where
  d : AtE w v d
  a : AtE w ua A
  b : AtE w ub B
  x : AtE w ux X

theorem SQ.below {w w' : World} {v ua ub ux : Value} {d A B X : List El} (h : SQ w v ua ub ux d A B X) (hb : Below w.heap.size w w') : SQ w' v ua ub ux d A B X :=
  ⟨h.d.below hb, h.a.below hb, h.b.below hb, h.x.below hb⟩

theorem countP_take (p : El → Bool) (xs : List El) (j : Nat) (h : j < xs.length) : (xs.take (j + 1)).countP p = (xs.take j).countP p + (if p xs[j] then 1 else 0) := by
  rw [List.take_add_one, List.getElem?_eq_getElem h, Option.toList_some, List.countP_append, List.countP_singleton]

/-- An element of a text, where it stands. -/
theorem AtE.el {w : World} {b o n c : Nat} {xs : List El} (h : AtE w (.slice (some ⟨b, o, none⟩) n c) xs) (j : Nat) (hj : j < xs.length) :
    b < w.heap.size ∧ w.cell? ⟨b, o + j * 3, none⟩ = some (.int .u8 xs[j].1) ∧ w.cell? ⟨b, o + j * 3 + 1, none⟩ = some (.int .i64 xs[j].2.1) ∧ w.cell? ⟨b, o + j * 3 + 2, none⟩ = some (.int .i64 xs[j].2.2) := by
  obtain ⟨b', o', c', e, hE⟩ := h
  obtain ⟨e1, e2, rfl⟩ := Value.slice.inj e
  simp at e1
  obtain ⟨rfl, rfl⟩ := e1
  refine ⟨?_, hE.at j hj hj⟩
  obtain ⟨-, -, -, h4⟩ := hE
  obtain ⟨b2, o2, e2, hl, -⟩ := h4 (by omega)
  simp at e2
  rw [e2.1]
  exact hl

set_option maxRecDepth 100000 in
set_option maxHeartbeats 4000000 in
theorem otSquare_any (x0 : Int) (a : Option Addr) (m c : Nat) (b : Option Addr) (k cc : Nat) (M N : Nat → Bool × Int × Int) (W : World) (hT : Table W) (hM : IsM W a m c M) (_ : True) (hm : m ≤ 5864062014634) (hN : IsM W b k cc N) (_ : True) (hk : k ≤ 5864062014634) (wt : (Lit.int .i64 x0).wf = true) :
    Calls Tryd.prog 6 #[.int .i64 x0, .slice a m c, .slice b k cc] W fun r w' => r = .returned (.bool true) ∧ Below W.heap.size W w' := by
  have HM := hd hM
  have HN := hd hN
  have HT := hd hT
  clear hM hN hT
  go_enter Tryd.func6, Tryd.ntmps6
  go_wp2_with fail
  refine (bounded_any x0 _).mono ?_
  rintro r w0' ⟨n, rfl, hn, rfl⟩
  go_wp2_with fail
  refine (text_any n _ hn).mono ?_
  rintro r w1 ⟨v, rfl, hV, b1⟩
  have B1 := hd b1
  have V1 := hd hV
  have M1 := hd (HM.out.below b1)
  have N1 := hd (HN.out.below b1)
  clear hV b1 HM HN
  go_wp2_with fail
  refine (line_any a m c M (textP n) n 2 _ M1.out (textP_len n) hn hm).mono ?_
  rintro r w2 ⟨g, L, rfl, hg, hR, hP, b2⟩
  have B2 := hd (B1.out.trans (b2.mono B1.out.size))
  have V2 := hd (V1.out.below b2)
  have N2 := hd (N1.out.below b2)
  have O2 := hd hR.isO
  have HP := hd hP
  clear b2 hR hP hg M1 N1 V1 B1
  go_wp2_with fail
  refine (line_any b k cc N (textP n) n 3 _ N2.out (textP_len n) hn hk).mono ?_
  rintro r w3 ⟨h, K, rfl, hg, hR, hP, b3⟩
  have B3 := hd (B2.out.trans (b3.mono B2.out.size))
  have V3 := hd (V2.out.below b3)
  have O3 := hd (O2.out.below b3)
  have R3 := hd hR.isO
  have HQ := hd hP
  clear b3 hR hP hg N2 V2 B2 O2
  go_wp2_with fail
  refine (lcopied_any _ m m L _ O3.out (by omega)).mono ?_
  rintro r w4 ⟨v4, rfl, ⟨g4, c4, hg, rfl, hR⟩, b4⟩
  rw [O3.out.1] at hR ⊢
  have B4 := hd (B3.out.trans (b4.mono B3.out.size))
  have V4 := hd (V3.out.below b4)
  have O4 := hd (O3.out.below b4)
  have R4 := hd (R3.out.below b4)
  have S4 := hd hR.isO
  clear b4 hR hg V3 B3 O3 R3
  go_wp2_with fail
  refine (lcopied_any _ k k K _ R4.out (by omega)).mono ?_
  rintro r w5 ⟨v5, rfl, ⟨g5, c5, hg, rfl, hR⟩, b5⟩
  rw [R4.out.1] at hR ⊢
  have B5 := hd (B4.out.trans (b5.mono B4.out.size))
  have V5 := hd (V4.out.below b5)
  have O5 := hd (O4.out.below b5)
  have R5 := hd (R4.out.below b5)
  have S5 := hd (S4.out.below b5)
  have T5 := hd hR.isO
  have TT := hd (HT.out.below B5.out HT.out.1)
  clear b5 hR hg V4 B4 O4 R4 S4 HT
  go_wp2_with fail
  by_cases hbig : 4096 < m ∨ 4096 < k
  · refine (weave_bad _ _ m c4 k c5 _ hbig).mono ?_
    rintro r w6 ⟨rfl, rfl⟩
    by_cases h1 : 4096 < m
    · have i1 : (m : Int) > 4096 := by omega
      go_wp2_with fail
      refine (num_any _ _).mono ?_
      rintro r w7 ⟨rfl, rfl⟩
      go_wp2_with fail
      go_ret
      exact ⟨rfl, B5.out⟩
    · have i1 : ¬ (m : Int) > 4096 := by omega
      have i2 : (k : Int) > 4096 := by omega
      go_wp2_with fail
      refine (num_any _ _).mono ?_
      rintro r w7 ⟨rfl, rfl⟩
      go_wp2_with fail
      go_ret
      exact ⟨rfl, B5.out⟩
  · have i1 : ¬ (m : Int) > 4096 := by omega
    have i2 : ¬ (k : Int) > 4096 := by omega
    refine (weave_any _ _ m c4 k c5 L K _ TT.out S5.out T5.out (by omega) (by omega)).mono ?_
    rintro r w6 ⟨g6, h6, cg, ch, rfl, -, -, hR6, hS6, b6⟩
    have hnn : (textP n).length + L.length + K.length + 1 < 1000000 := by rw [textP_len, O5.out.1, R5.out.1]; omega
    have WS := weave_sq K (textP n) L hnn HP.out.1 HQ.out.1
    have SP := hd (stay_pure hnn (textP_nodup n) (textP_cl n) HP.out HQ.out)
    obtain ⟨f1, f2, f3⟩ := WS
    have F1 := hd f1
    have F2 := hd f2
    have F3 := hd f3
    have LA := hd (runP_len L (textP n) HP.out.1)
    have LB := hd (runP_len K (textP n) HQ.out.1)
    have B6 := hd (B5.out.trans (b6.mono B5.out.size))
    have V6 := hd (V5.out.below b6)
    have O6 := hd (O5.out.below b6)
    have R6 := hd (R5.out.below b6)
    have P6 := hd hR6.isO
    have Q6 := hd hS6.isO
    clear hnn f1 f2 f3 V5 O5 R5 S5 T5 TT B5 b6 hR6 hS6 hbig
    go_wp2_with fail
    refine (num_any _ _).mono ?_
    rintro r w7 ⟨rfl, rfl⟩
    go_wp2_with fail
    refine (run_fit v _ m m (textP n) L _ V6.out O6.out HP.out.1 (by rw [textP_len]; omega)).mono ?_
    rintro r w8 ⟨ua, rfl, hU, b8⟩
    have B8 := hd (B6.out.trans (b8.mono B6.out.size))
    have V8 := hd (V6.out.below b8)
    have R8 := hd (R6.out.below b8)
    have P8 := hd (P6.out.below b8)
    have Q8 := hd (Q6.out.below b8)
    have A8 := hd hU
    clear hU b8 B6 V6 O6 R6 P6 Q6
    go_wp2_with fail
    refine (run_fit v _ k k (textP n) K _ V8.out R8.out HQ.out.1 (by rw [textP_len]; omega)).mono ?_
    rintro r w9 ⟨ub, rfl, hU, b9⟩
    have B9 := hd (B8.out.trans (b9.mono B8.out.size))
    have V9 := hd (V8.out.below b9)
    have P9 := hd (P8.out.below b9)
    have Q9 := hd (Q8.out.below b9)
    have A9 := hd (A8.out.below b9)
    have C9 := hd hU
    clear hU b9 B8 V8 R8 P8 Q8 A8
    go_wp2_with fail
    refine (run_fit ua _ k ch _ _ _ A9.out Q9.out F2.out (by have := LA.out; rw [textP_len] at this; have := P9.out.1; rw [(weaveP_len _ _).1] at this; omega)).mono ?_
    rintro r w10 ⟨ux, rfl, hU, b10⟩
    have B10 := hd (B9.out.trans (b10.mono B9.out.size))
    have V10 := hd (V9.out.below b10)
    have P10 := hd (P9.out.below b10)
    have A10 := hd (A9.out.below b10)
    have C10 := hd (C9.out.below b10)
    have X10 := hd hU
    clear hU b10 B9 V9 P9 A9 C9
    go_wp2_with fail
    refine (run_fit ub _ m cg _ _ _ C10.out P10.out F1.out (by have := LB.out; rw [textP_len] at this; have := Q9.out.1; rw [(weaveP_len _ _).2] at this; omega)).mono ?_
    rintro r w11 ⟨uy, rfl, hU, b11⟩
    rw [← F3.out] at hU
    have B11 := hd (B10.out.trans (b11.mono B10.out.size))
    have Y11 := hd hU
    have S11 := hd (SQ.mk (V10.out.below b11) (A10.out.below b11) (C10.out.below b11) (X10.out.below b11))
    have lA : (runP (textP n) L).length ≤ 8192 := by have := LA.out; have h2 := P10.out.1; rw [textP_len] at this; rw [(weaveP_len _ _).1] at h2; omega
    have lB : (runP (textP n) K).length ≤ 8192 := by have := LB.out; have h2 := Q9.out.1; rw [textP_len] at this; rw [(weaveP_len _ _).2] at h2; omega
    clear hU b11 B10 V10 P10 A10 C10 X10 Q9 LA LB F1 F2 F3 HP HQ
    go_wp2_with fail
    refine (sameText_true _ _ _ _ S11.out.x Y11.out).mono ?_
    rintro r w12 ⟨rfl, m12, rfl⟩
    have B12 := hd (below_drewN B11.out m12)
    have S12 := hd (SQ.mk (S11.out.d.drewN m12) (S11.out.a.drewN m12) (S11.out.b.drewN m12) (S11.out.x.drewN m12))
    clear B11 S11 Y11
    generalize w11.drewN m12 = w12 at *
    generalize runP (runP (textP n) L) (weaveP L K).2 = X at *
    generalize runP (textP n) L = A at *
    generalize runP (textP n) K = B at *
    obtain ⟨vb, vo, vc, rfl, hVE⟩ := S12.out.d
    obtain ⟨ab, ao, ac, rfl, hAE⟩ := S12.out.a
    obtain ⟨bb, bo, bc, rfl, hBE⟩ := S12.out.b
    obtain ⟨xb, xo, xc, rfl, hXE⟩ := S12.out.x
    have la := hAE.2.1
    have la2 := hAE.2.2.1
    have lb := hBE.2.1
    have lb2 := hBE.2.2.1
    have lx := hXE.2.1
    have lx2 := hXE.2.2.1
    have lv := hVE.2.1
    have lv2 := hVE.2.2.1
    clear hVE hAE hBE hXE
    have vn := hd (textP_len n)
    rw [textP_len] at S12 lv
    simp only [vn.out]
    generalize textP n = D at *
    go_wp2_with fail
    go_loopw [21, 22] (fun s i wr => ∃ j st : Nat, j ≤ n ∧ st ≤ j ∧ i = .int .i64 j ∧ s = .int .i64 st ∧ Hid (st = (D.take j).countP (fun z => decide (z ∈ A) && decide (z ∈ B))) ∧ Hid (Below w12.heap.size w12 wr)) (fun _ i _ => n - (intOf i).toNat)
    case atStart => exact ⟨0, 0, Nat.zero_le _, Nat.le_refl _, rfl, rfl, (rfl : _ = _), Below.refl _ _⟩
    case round =>
      obtain ⟨j, st, hj, hst, rfl, rfl, HC, BR⟩ := hrel
      by_cases hlt : j < n
      · have i3 : (j : Int) < (n : Int) := by omega
        have jd : j < D.length := by have := vn.out; omega
        have SR := hd (S12.out.below BR.out)
        obtain ⟨hv, x0, x1, x2⟩ := SR.out.d.el j jd
        have CT := hd (countP_take (fun z => decide (z ∈ A) && decide (z ∈ B)) D j jd)
        have ZD := hd (List.getElem_mem jd)
        generalize D[j] = Z at *
        obtain ⟨za, zb, zc⟩ := Z
        simp only [] at x0 x1 x2 CT
        go_wp2_with fail
        refine (place_any _ (za, zb, zc) _ _ SR.out.a).mono ?_
        rintro r u1 ⟨rfl, b1⟩
        have BR1 := hd (BR.out.trans (b1.mono BR.out.size))
        have SR1 := hd (SR.out.below b1)
        have y0 := (b1.cell (p := ⟨vb, vo + j * 3, none⟩) hv).trans x0
        have y1 := (b1.cell (p := ⟨vb, vo + j * 3 + 1, none⟩) hv).trans x1
        have y2 := (b1.cell (p := ⟨vb, vo + j * 3 + 2, none⟩) hv).trans x2
        have hv1 := Nat.lt_of_lt_of_le hv b1.size
        clear b1 x0 x1 x2 SR BR hv
        by_cases hA : (za, zb, zc) ∈ A
        · have p1 : placeP (za, zb, zc) A 0 ≥ 0 := placeP_iff.mpr hA
          generalize placeP (za, zb, zc) A 0 = P1 at *
          have HA := hd hA
          clear hA
          go_wp2_with fail
          refine (place_any _ (za, zb, zc) _ _ SR1.out.b).mono ?_
          rintro r u2 ⟨rfl, b2⟩
          have BR2 := hd (BR1.out.trans (b2.mono BR1.out.size))
          have SR2 := hd (SR1.out.below b2)
          have z0 := (b2.cell (p := ⟨vb, vo + j * 3, none⟩) hv1).trans y0
          have z1 := (b2.cell (p := ⟨vb, vo + j * 3 + 1, none⟩) hv1).trans y1
          have z2 := (b2.cell (p := ⟨vb, vo + j * 3 + 2, none⟩) hv1).trans y2
          clear b2 y0 y1 y2 SR1 BR1 hv1
          by_cases hB : (za, zb, zc) ∈ B
          · have p2 : placeP (za, zb, zc) B 0 ≥ 0 := placeP_iff.mpr hB
            generalize placeP (za, zb, zc) B 0 = P2 at *
            have HB := hd hB
            clear hB
            go_wp2_with fail
            refine (place_any _ (za, zb, zc) _ _ SR2.out.x).mono ?_
            rintro r u3 ⟨rfl, b3⟩
            have BR3 := hd (BR2.out.trans (b3.mono BR2.out.size))
            have p3 : ¬ placeP (za, zb, zc) X 0 < 0 := by have := placeP_iff.mpr (SP.out.1 _ ZD.out HA.out HB.out); omega
            have C2 := hd (show st + 1 = (D.take (j + 1)).countP (fun z => decide (z ∈ A) && decide (z ∈ B)) by rw [CT.out, ← HC.out]; simp [HA.out, HB.out])
            generalize placeP (za, zb, zc) X 0 = P3 at *
            clear b3 z0 z1 z2 SR2 BR2
            go_wp2_with fail
            exact ⟨⟨j + 1, st + 1, by omega, by omega, by go_num, by go_num, C2, BR3⟩, by simp [intOf]; omega⟩
          · have p2 : ¬ placeP (za, zb, zc) B 0 ≥ 0 := by rw [placeP_not hB]; omega
            have C2 := hd (show st = (D.take (j + 1)).countP (fun z => decide (z ∈ A) && decide (z ∈ B)) by rw [CT.out, ← HC.out]; simp [hB])
            generalize placeP (za, zb, zc) B 0 = P2 at *
            clear hB z0 z1 z2 SR2
            go_wp2_with fail
            exact ⟨⟨j + 1, st, by omega, by omega, by go_num, rfl, C2, BR2⟩, by simp [intOf]; omega⟩
        · have p1 : ¬ placeP (za, zb, zc) A 0 ≥ 0 := by rw [placeP_not hA]; omega
          have C2 := hd (show st = (D.take (j + 1)).countP (fun z => decide (z ∈ A) && decide (z ∈ B)) by rw [CT.out, ← HC.out]; simp [hA])
          generalize placeP (za, zb, zc) A 0 = P1 at *
          clear hA y0 y1 y2 SR1
          go_wp2_with fail
          exact ⟨⟨j + 1, st, by omega, by omega, by go_num, rfl, C2, BR1⟩, by simp [intOf]; omega⟩
      · obtain rfl : j = n := by omega
        rw [List.take_of_length_le (Nat.le_of_eq vn.out)] at HC
        have S13 := hd (S12.out.below BR.out)
        have B13 := hd (B12.out.trans (BR.out.mono B12.out.size))
        clear S12 B12 BR
        generalize wr = w13 at *
        go_wp2_with fail
        go_loopw [21, 23] (fun s i wr => ∃ j23 st : Nat, j23 ≤ A.length ∧ st ≤ 4096 + j23 ∧ i = .int .i64 j23 ∧ s = .int .i64 st ∧ Hid (st = D.countP (fun z => decide (z ∈ A) && decide (z ∈ B)) + (A.take j23).countP (fun z => decide (z.2.1 = 2))) ∧ Hid (Below w13.heap.size w13 wr)) (fun _ i _ => A.length - (intOf i).toNat)
        case atStart => exact ⟨0, _, Nat.zero_le _, by omega, rfl, rfl, hd (by rw [List.take_zero, List.countP_nil, Nat.add_zero]; exact HC.out), Below.refl _ _⟩
        case round =>
          obtain ⟨j2, st, hj2, hst, rfl, rfl, HC, BR⟩ := hrel
          by_cases hlt : j2 < A.length
          · have i3 : (j2 : Int) < (A.length : Int) := by omega
            have SR := hd (S13.out.below BR.out)
            obtain ⟨hv, x0, x1, x2⟩ := SR.out.a.el j2 hlt
            have CT := hd (countP_take (fun z => decide (z.2.1 = 2)) A j2 hlt)
            have ZD := hd (List.getElem_mem hlt)
            generalize A[j2] = Z at *
            obtain ⟨za, zb, zc⟩ := Z
            simp only [] at x0 x1 x2 CT
            by_cases h2 : zb = 2
            · have ZX := hd (SP.out.2.1 (za, zb, zc) h2 ZD.out)
              subst h2
              go_wp2_with fail
              refine (place_any _ (za, 2, zc) _ _ SR.out.x).mono ?_
              rintro r u3 ⟨rfl, b3⟩
              have BR3 := hd (BR.out.trans (b3.mono BR.out.size))
              have p3 : ¬ placeP (za, 2, zc) X 0 < 0 := by have := placeP_iff.mpr ZX.out; omega
              have C2 := hd (show st + 1 = D.countP (fun z => decide (z ∈ A) && decide (z ∈ B)) + (A.take (j2 + 1)).countP (fun z => decide (z.2.1 = 2)) by rw [CT.out, HC.out]; simp; omega)
              generalize placeP (za, 2, zc) X 0 = P3 at *
              clear b3 x0 x1 x2 SR hv
              go_wp2_with fail
              exact ⟨⟨j2 + 1, st + 1, by omega, by omega, by go_num, by go_num, C2, BR3⟩, by simp [intOf]; omega⟩
            · have C2 := hd (show st = D.countP (fun z => decide (z ∈ A) && decide (z ∈ B)) + (A.take (j2 + 1)).countP (fun z => decide (z.2.1 = 2)) by rw [CT.out, HC.out]; simp [h2])
              go_wp2_with fail
              exact ⟨⟨j2 + 1, st, by omega, by omega, by go_num, rfl, C2, BR⟩, by simp [intOf]; omega⟩
          · have ej : j2 = A.length := by omega
            subst ej
            rw [List.take_of_length_le (Nat.le_refl _)] at HC
            have S14 := hd (S13.out.below BR.out)
            have B14 := hd (B13.out.trans (BR.out.mono B13.out.size))
            clear S13 B13 BR
            generalize wr = w14 at *
            go_wp2_with fail
            go_loopw [21, 24] (fun s i wr => ∃ j24 st : Nat, j24 ≤ B.length ∧ st ≤ 12288 + j24 ∧ i = .int .i64 j24 ∧ s = .int .i64 st ∧ Hid (st = (D.countP (fun z => decide (z ∈ A) && decide (z ∈ B)) + A.countP (fun z => decide (z.2.1 = 2))) + (B.take j24).countP (fun z => decide (z.2.1 = 3))) ∧ Hid (Below w14.heap.size w14 wr)) (fun _ i _ => B.length - (intOf i).toNat)
            case atStart => exact ⟨0, _, Nat.zero_le _, by omega, rfl, rfl, hd (by rw [List.take_zero, List.countP_nil, Nat.add_zero]; exact HC.out), Below.refl _ _⟩
            case round =>
              obtain ⟨j3, st, hj3, hst, rfl, rfl, HC, BR⟩ := hrel
              by_cases hlt : j3 < B.length
              · have i3 : (j3 : Int) < (B.length : Int) := by omega
                have SR := hd (S14.out.below BR.out)
                obtain ⟨hv, x0, x1, x2⟩ := SR.out.b.el j3 hlt
                have CT := hd (countP_take (fun z => decide (z.2.1 = 3)) B j3 hlt)
                have ZD := hd (List.getElem_mem hlt)
                generalize B[j3] = Z at *
                obtain ⟨za, zb, zc⟩ := Z
                simp only [] at x0 x1 x2 CT
                by_cases h2 : zb = 3
                · have ZX := hd (SP.out.2.2.1 (za, zb, zc) h2 ZD.out)
                  subst h2
                  go_wp2_with fail
                  refine (place_any _ (za, 3, zc) _ _ SR.out.x).mono ?_
                  rintro r u3 ⟨rfl, b3⟩
                  have BR3 := hd (BR.out.trans (b3.mono BR.out.size))
                  have p3 : ¬ placeP (za, 3, zc) X 0 < 0 := by have := placeP_iff.mpr ZX.out; omega
                  have C2 := hd (show st + 1 = (D.countP (fun z => decide (z ∈ A) && decide (z ∈ B)) + A.countP (fun z => decide (z.2.1 = 2))) + (B.take (j3 + 1)).countP (fun z => decide (z.2.1 = 3)) by rw [CT.out, HC.out]; simp; omega)
                  generalize placeP (za, 3, zc) X 0 = P3 at *
                  clear b3 x0 x1 x2 SR hv
                  go_wp2_with fail
                  exact ⟨⟨j3 + 1, st + 1, by omega, by omega, by go_num, by go_num, C2, BR3⟩, by simp [intOf]; omega⟩
                · have C2 := hd (show st = (D.countP (fun z => decide (z ∈ A) && decide (z ∈ B)) + A.countP (fun z => decide (z.2.1 = 2))) + (B.take (j3 + 1)).countP (fun z => decide (z.2.1 = 3)) by rw [CT.out, HC.out]; simp [h2])
                  go_wp2_with fail
                  exact ⟨⟨j3 + 1, st, by omega, by omega, by go_num, rfl, C2, BR⟩, by simp [intOf]; omega⟩
              · have ej : j3 = B.length := by omega
                subst ej
                rw [List.take_of_length_le (Nat.le_refl _)] at HC
                have S15 := hd (S14.out.below BR.out)
                have B15 := hd (B14.out.trans (BR.out.mono B14.out.size))
                go_wp2_with fail
                go_ret
                exact ⟨by rw [HC.out, SP.out.2.2.2]; simp, B15.out⟩

end Go.Proofs.YtmkgkgdngjmcmabDoor
