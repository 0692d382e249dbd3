/-
  DocFresh: twice.
-/
import Derived.Test.YtbgpmekjcepmaabFf
import Derived.Test.YtbgpmekjcepmaabFg
import Derived.Test.YtbgpmekjcepmaabFkB
import Derived.Test.YtbgpmekjcepmaabTxB
namespace Go.Proofs.Ytbgpmekjcepmaab
open Go.RowKit
set_option linter.unusedVariables false

theorem find_none {cl sq : Int} : ∀ (ys : List El) {k : Nat}, (∀ y ∈ ys, ¬ (y.2.1 = cl ∧ y.2.2 = sq)) → findP cl sq ys k = -1
  | [], _, _ => rfl
  | y :: ys, k, h => by
    unfold findP
    rw [if_neg (h y List.mem_cons_self)]
    exact find_none ys (fun z hz => h z (List.mem_cons_of_mem _ hz))

def xmE (i : Nat) : El := (120, 8, (i : Int) + 1)

theorem same_true (a b : Option Addr) (n c n' d : Nat) (xs ys : List El) (w : World) (hx : IsE w a n c xs) (hy : IsE w b n' d ys) (h : xs = ys) :
    Calls Try.prog 10 #[.slice a n c, .slice b n' d] w fun e w' => e = .returned (.bool true) ∧ ∃ m, w' = w.drewN m := by
  refine (same_any a b n n' c d xs ys w hx hy).mono ?_
  rintro e w' ⟨rfl, hm⟩
  exact ⟨by rw [decide_eq_true h], hm⟩

set_option maxRecDepth 100000 in
set_option maxHeartbeats 8000000 in
theorem twice_in (a : Option Addr) (n cc : Nat) (ch : Int) (xs : List El) (w : World) (hE : IsE w a n cc xs) (h2 : 0 ≤ ch) (h3 : ch ≤ 255) (hn2 : n ≤ 300) (c : Int) (hc : c = 32 + ch % 95) :
    Calls Try.prog 20 #[.slice a n cc, .int .u8 ch] w fun e w' => e = .returned (.bool true) ∧ Below w.heap.size w w' := by
  have HE := hd hE
  have HL := hd hE.1
  clear hE
  go_enter Try.func20, Try.ntmps20
  go_wp2_with fail
  refine (copied_any a n cc xs _ HE.out (by omega)).mono ?_
  rintro e w1 ⟨v1, rfl, hO1, b1⟩
  obtain ⟨g1, c1, hg1, rfl, hR1⟩ := hO1.form
  have B1 := hd b1
  have bA : Below w1.heap.size w1 (w1.alloc (.cells (elc (101, 9, 1)).toArray 46)) := (Below.refl _ _).alloc (Nat.le_refl _) _
  obtain ⟨g2, c2, w2, hap, hR2, hF2⟩ := run_pushE2 _ g1 c1 xs (hR1.fr (S := fun _ => False) (Fr.of_below bA) (fun h => h)) w1.heap.size (101, 9, 1) (heap_alloc_new _ _) (by have := HL.out; omega)
  simp only [elc] at hap
  have B2 : Hid (Below w.heap.size w w2 ∧ w.heap.size ≤ g2) := by
    have hb := B1.out.trans (bA.mono B1.out.size)
    rcases hF2 with ⟨rfl, rfl, hF⟩ | ⟨rfl, hF⟩
    · exact ⟨hb.trans (hF.below hb.size (fun k e => by rw [e]; exact hg1)), hg1⟩
    · exact ⟨hb.trans (hF.below hb.size (fun k e => e.elim)), hb.size⟩
  have R2 := hd hR2
  clear hO1 hR1 b1 bA hR2 hF2 B1 hg1
  rw [HL.out] at R2 hap ⊢
  obtain ⟨m, hm⟩ : ∃ m, m = n + 1 := ⟨_, rfl⟩
  rw [← hm] at R2 hap
  have HM := hd hm
  have hm1 : 0 < m := by omega
  have hm2 : m ≤ 301 := by omega
  obtain ⟨RS, hRS⟩ : ∃ RS, RS = xs ++ [(101, 9, 1)] := ⟨_, rfl⟩
  rw [← hRS] at R2
  have HRS := hd hRS
  clear hm hRS
  go_wp2_with (at_builtin; refine wpList_append_k _ rfl _ _ 22 22 rfl _ _ rfl rfl (hap _) ?_)
  refine (copied_any _ m c2 RS _ R2.out.isE (by omega)).mono ?_
  rintro e w3 ⟨v3, rfl, hO3, b3⟩
  obtain ⟨g3, c3, hg3, rfl, hR3⟩ := hO3.form
  have LR : Hid (RS.length = m) := R2.out.isE.1
  rw [LR.out] at hR3 ⊢
  have R3 := hd hR3
  have Q3 := hd (R2.out.fr (S := fun _ => False) (Fr.of_below b3) (fun h => h))
  have B3 := hd (B2.out.1.trans (b3.mono B2.out.1.size))
  have G23 : Hid (g2 < g3 ∧ w.heap.size ≤ g2) := ⟨by have := R2.out.lt; omega, B2.out.2⟩
  clear hO3 b3 hR3 hg3 R2 B2 hap
  go_wp2_with fail
  refine (asked_any _ m c2 ch RS _ Q3.out.isE h2 h3 hm1 (by omega)).mono ?_
  rintro e w4 ⟨v4, rfl, hA4⟩
  obtain ⟨gx, Rx, rfl, hx1, hx2, hx3, hx4, hx5, b4⟩ := hA4.open
  rw [askP_len]
  rw [← hc] at hx5
  have X1 := hd hx1
  have X2 := hd hx2
  have X3 := hd hx3
  have X4 := hd hx4
  have X5 := hd hx5
  have Q4 := hd (Q3.out.fr (S := fun _ => False) (Fr.of_below b4) (fun h => h))
  have B34 := hd b4
  clear hA4 hx1 hx2 hx3 hx4 hx5 b4
  go_wp2_with fail
  refine (asked_any _ m c2 ch RS _ Q4.out.isE h2 h3 hm1 (by omega)).mono ?_
  rintro e w5 ⟨v5, rfl, hA5⟩
  obtain ⟨gy, Ry, rfl, hy1, hy2, hy3, hy4, hy5, b5⟩ := hA5.open
  rw [askP_len]
  rw [← hc] at hy5
  have Y1 := hd hy1
  have Y3 := hd hy3
  have Y4 := hd hy4
  have Y5 := hd hy5
  have Z1 := hd (below_keep b5 X1.out)
  have Z3 := hd (X3.out.below b5)
  have B35 := hd (B34.out.trans (b5.mono B34.out.size))
  have J5 := hd (X3.out.app b5 hy3 hy4)
  clear hA5 hy1 hy2 hy3 hy4 hy5 b5 X1 X3 Q4
  go_wp2
  go_loopw [9] (fun i wr => ∃ k mm : Nat, k ≤ 5 ∧ i = .int .i64 k ∧ wr = w5.drewN mm) (fun i _ => 5 - (intOf i).toNat)
  case atStart => exact ⟨0, 0, Nat.zero_le _, rfl, rfl⟩
  case round =>
    obtain ⟨k, mm, hk, rfl, rfl⟩ := hrel
    by_cases hk5 : k < 5
    · obtain ⟨bx, cx, hcx, hix⟩ := pick_text Z1.out Z3.out X5.out k (by rw [askP_len]; exact hk5)
      obtain ⟨by', cy, hcy, hiy⟩ := pick_text Y1.out Y3.out Y5.out k (by rw [askP_len]; exact hk5)
      have i1 : (k : Int) < 5 := by omega
      have IX := hd (hix.drewN mm)
      have IY := hd (hiy.drewN mm)
      have hcx' : (w5.drewN mm).cell? ⟨gx, k, none⟩ = some (.slice (some ⟨bx, 0, none⟩) (askP RS c)[k].length cx) := hcx
      have hcy' : (w5.drewN mm).cell? ⟨gy, k, none⟩ = some (.slice (some ⟨by', 0, none⟩) (askP RS c)[k].length cy) := hcy
      clear hix hiy hcx hcy
      generalize (askP RS c)[k] = TT at *
      obtain ⟨wz, hz⟩ : ∃ wz, wz = w5.drewN mm := ⟨_, rfl⟩
      have HZ := hd hz
      rw [← hz] at IX IY hcx' hcy' ⊢
      clear hz
      go_wp2
      go_quiet (first | (go_at_call 10; exact Calls.quiet_of (same_true _ _ _ _ _ _ _ _ _ (IX.out.drewN _) (IY.out.drewN _) rfl)))
      go_wp2
      exact ⟨⟨k + 1, _, by omega, by go_num, by rw [HZ.out]; exact drewN2 _ _ _⟩, by simp [intOf]; omega⟩
    · have i1 : ¬ (k : Int) < 5 := by omega
      have lx : Rx.length = 5 := by have := congrArg List.length X5.out; rw [askP_len] at this; simpa using this
      have ly : Ry.length = 5 := by have := congrArg List.length Y5.out; rw [askP_len] at this; simpa using this
      obtain ⟨G, w6, hj, hG1, hG2, hLC, bJ, ltJ⟩ := run_join (w5.drewN mm) gx gy Rx Ry 5 lx ly (by omega) (by omega) Z1.out Y1.out
      have bD : Below w5.heap.size w5 (w5.drewN mm) := below_drewN (Below.refl _ _) mm
      have J6 := hd ((J5.out.below bD).below bJ)
      have B36 := hd (B35.out.trans ((bD.trans bJ).mono B35.out.size))
      have LC6 := hd hLC
      have lJ : (Rx ++ Ry).length = 10 := by simp [lx, ly]
      have SH : Hid (∀ r ∈ Rx ++ Ry, r.2.2.length ≤ 1000) := by
        have sh : ∀ (Rs : List Rw), Rs.map (·.2.2) = askP RS c → ∀ r ∈ Rs, r.2.2.length ≤ 1000 := fun Rs h r hr => askP_short RS c (by have := LR.out; omega) _ (by rw [← h]; exact List.mem_map.2 ⟨r, hr, rfl⟩)
        intro r hr
        rcases List.mem_append.1 hr with hr | hr
        · exact sh Rx X5.out r hr
        · exact sh Ry Y5.out r hr
      have BS : Hid (∀ r ∈ Rx ++ Ry, w3.heap.size ≤ r.1) := by
        intro r hr
        rcases List.mem_append.1 hr with hr | hr
        · exact X4.out r hr
        · exact Nat.le_trans B34.out.size (Y4.out r hr)
      have LT6 : Hid ((w5.drewN mm).heap.size < w6.heap.size) := ltJ
      clear hLC bJ ltJ bD J5 B35 Z1 Z3 Y1 Y3 Y4 X4 X2 X5 Y5 lx ly
      go_wp2_with (at_builtin; refine wpList_append_k _ rfl _ _ 54 54 rfl _ _ rfl rfl (hj _) ?_)
      have TBj := J6.out.tb
      rw [lJ] at TBj
      refine (grown_any _ 10 G _ _ _ _ _ TBj (fun i hi => rfl) LC6.out (by omega) (fun i hi => by rw [getD_mem (by omega)]; exact SH.out _ (List.getElem_mem (by omega))) LT6.out hG1 hG2).mono ?_
      rintro e w7 ⟨rfl, hF7⟩
      have B37 : Hid (Below w3.heap.size w3 w7) := B36.out.trans (hF7.below B36.out.size (fun q hq => by
        obtain ⟨j, hj1, rfl⟩ := hq
        simp only [getD_mem (show j < (Rx ++ Ry).length by omega)]
        exact BS.out _ (List.getElem_mem (by omega))))
      have Q7 := hd (Q3.out.fr (S := fun _ => False) (Fr.of_below B37.out) (fun h => h))
      have K7 := hd (R3.out.fr (S := fun _ => False) (Fr.of_below B37.out) (fun h => h))
      have B7 := hd (B3.out.trans (B37.out.mono B3.out.size))
      clear TBj hF7 J6 B36 LC6 SH BS LT6 B37 Q3 R3 B3 B34 lJ hj hG1 hG2
      go_wp2_with fail
      refine (same_any _ _ m m c2 c3 RS RS _ Q7.out.isE K7.out.isE).mono ?_
      rintro e w8 ⟨rfl, m8, rfl⟩
      rw [decide_eq_true rfl]
      have Q8 := hd (Q7.out.fr (Fr.drewN (fun _ => False) w7 m8) (fun h => h))
      have K8 := hd (K7.out.fr (Fr.drewN (fun _ => False) w7 m8) (fun h => h))
      have B8 := hd (below_drewN B7.out m8)
      clear Q7 K7 B7
      generalize w7.drewN m8 = w8 at *
      have M24 : m * 24 ≤ 140737488351232 := by omega
      go_wp2_with fail
      refine (text_any _ m c2 RS _ Q8.out.isE M24).mono ?_
      rintro e w9 ⟨rfl, b9⟩
      have Q9 := hd (Q8.out.fr (S := fun _ => False) (Fr.of_below b9) (fun h => h))
      have K9 := hd (K8.out.fr (S := fun _ => False) (Fr.of_below b9) (fun h => h))
      have B9 := hd (B8.out.trans (b9.mono B8.out.size))
      clear b9 Q8 K8 B8
      go_wp2_with fail
      refine (find_any _ m c2 9 1 RS _ Q9.out.isE).mono ?_
      rintro e w10 ⟨rfl, b10⟩
      have Q10 := hd (Q9.out.fr (S := fun _ => False) (Fr.of_below b10) (fun h => h))
      have K10 := hd (K9.out.fr (S := fun _ => False) (Fr.of_below b10) (fun h => h))
      have B10 := hd (B9.out.trans (b10.mono B9.out.size))
      clear b10 Q9 K9 B9
      go_wp2_with fail
      refine (equal_any _ _ m m c2 c3 RS RS _ Q10.out.isE K10.out.isE).mono ?_
      rintro e w11 ⟨rfl, b11⟩
      rw [decide_eq_true rfl]
      have Q11 := hd (Q10.out.fr (S := fun _ => False) (Fr.of_below b11) (fun h => h))
      have K11 := hd (K10.out.fr (S := fun _ => False) (Fr.of_below b11) (fun h => h))
      have B11 := hd (B10.out.trans (b11.mono B10.out.size))
      clear b11 Q10 K10 B10
      go_wp2_with fail
      refine (asked_any _ m c2 ch RS _ Q11.out.isE h2 h3 hm1 (by omega)).mono ?_
      rintro e w12 ⟨v12, rfl, hA12⟩
      obtain ⟨gz, Rz, rfl, -, -, -, -, -, b12⟩ := hA12.open
      rw [askP_len]
      have Q12 := Q11.out.fr (S := fun _ => False) (Fr.of_below b12) (fun h => h)
      have K12 := hd (K11.out.fr (S := fun _ => False) (Fr.of_below b12) (fun h => h))
      have B12 := hd (B11.out.trans (b12.mono B11.out.size))
      have W0 : Hid (WRel w12 w12 g2 m c2 RS xmE 0) := ⟨by simpa using Q12, Fr.refl _ _⟩
      clear hA12 b12 Q11 K11 B11 Q12
      go_wp2
      go_loopw [13] (fun i wr => ∃ j : Nat, j ≤ m ∧ i = .int .i64 j ∧ Hid (WRel w12 wr g2 m c2 RS xmE j)) (fun i _ => m - (intOf i).toNat)
      case atStart => exact ⟨0, Nat.zero_le _, rfl, W0⟩
      case round =>
        obtain ⟨j, hj, rfl, hr⟩ := hrel
        clear W0
        by_cases hjm : j < m
        · obtain ⟨⟨a0, d0⟩, ⟨a1, d1⟩, ⟨a2, d2⟩⟩ := hr.out.1.cells j hjm
          have f0 := hr.out.1.frozen (j * 3)
          have f1 := hr.out.1.frozen (j * 3 + 1)
          have f2 := hr.out.1.frozen (j * 3 + 2)
          have i2 : (j : Int) < (m : Int) := by omega
          have ST := hd (hr.out.step LR.out hjm 120 8 ((j : Int) + 1) rfl)
          clear hr
          go_wp2
          exact ⟨⟨j + 1, by omega, by go_num, ST⟩, by simp [intOf]; omega⟩
        · have i2 : ¬ (j : Int) < (m : Int) := by omega
          have hjj : j = m := by omega
          obtain ⟨XS, hXS⟩ : ∃ XS : List El, XS = (List.range m).map xmE := ⟨_, rfl⟩
          have HXS := hd hXS
          have QX : Hid (RowE wr g2 m c2 XS) := by
            have := hr.out.1
            rw [hjj, List.drop_of_length_le (by rw [LR.out]; exact Nat.le_refl _), List.append_nil, ← hXS] at this
            exact this
          have KX := hd (K12.out.fr hr.out.2 (fun e => by have := G23.out.1; omega))
          have BX := hd (B12.out.trans (hr.out.2.below B12.out.size (fun q e => by rw [e]; exact G23.out.2)))
          clear hr K12 B12 hXS
          have lXS : Hid (XS.length = m) := QX.out.isE.1
          have FX : Hid (findP 9 1 XS 0 = -1) := by
            refine find_none XS (fun y hy e => ?_)
            rw [HXS.out] at hy
            obtain ⟨t, _, rfl⟩ := List.mem_map.1 hy
            have := e.1
            simp [xmE] at this
          have EX : Hid (decide (XS = RS) = false) := by
            refine decide_eq_false (fun e => ?_)
            have h1 : RS[n]? = some (101, 9, 1) := by rw [HRS.out, List.getElem?_append_right (by have := HL.out; omega), HL.out, Nat.sub_self]; rfl
            rw [← e, HXS.out, List.getElem?_map, List.getElem?_range (by have := HM.out; omega)] at h1
            simp [xmE] at h1
          go_wp2_with fail
          refine (copied_any _ m c2 XS _ QX.out.isE (by omega)).mono ?_
          rintro e w13 ⟨v13, rfl, hO13, b13⟩
          obtain ⟨g13, c13, hg13, rfl, hR13⟩ := hO13.form
          rw [lXS.out] at hR13 ⊢
          have Q13 := hd (QX.out.fr (S := fun _ => False) (Fr.of_below b13) (fun h => h))
          have K13 := hd (KX.out.fr (S := fun _ => False) (Fr.of_below b13) (fun h => h))
          have O13 := hd hR13
          have B13 := hd (BX.out.trans (b13.mono BX.out.size))
          clear hO13 hR13 b13 QX KX BX hg13
          go_wp2_with fail
          refine (text_any _ m c2 XS _ Q13.out.isE M24).mono ?_
          rintro e w14 ⟨rfl, b14⟩
          have Q14 := hd (Q13.out.fr (S := fun _ => False) (Fr.of_below b14) (fun h => h))
          have K14 := hd (K13.out.fr (S := fun _ => False) (Fr.of_below b14) (fun h => h))
          have O14 := hd (O13.out.fr (S := fun _ => False) (Fr.of_below b14) (fun h => h))
          have B14 := hd (B13.out.trans (b14.mono B13.out.size))
          clear Q13 K13 O13 B13
          clear b14
          go_wp2_with fail
          refine (find_any _ m c2 9 1 XS _ Q14.out.isE).mono ?_
          rintro e w15 ⟨rfl, b15⟩
          rw [FX.out]
          have Q15 := hd (Q14.out.fr (S := fun _ => False) (Fr.of_below b15) (fun h => h))
          have K15 := hd (K14.out.fr (S := fun _ => False) (Fr.of_below b15) (fun h => h))
          have O15 := hd (O14.out.fr (S := fun _ => False) (Fr.of_below b15) (fun h => h))
          have B15 := hd (B14.out.trans (b15.mono B14.out.size))
          clear Q14 K14 O14 B14
          clear b15
          go_wp2_with fail
          refine (equal_any _ _ m m c2 c3 XS RS _ Q15.out.isE K15.out.isE).mono ?_
          rintro e w16 ⟨rfl, b16⟩
          rw [EX.out]
          have Q16 := hd (Q15.out.fr (S := fun _ => False) (Fr.of_below b16) (fun h => h))
          have K16 := hd (K15.out.fr (S := fun _ => False) (Fr.of_below b16) (fun h => h))
          have O16 := hd (O15.out.fr (S := fun _ => False) (Fr.of_below b16) (fun h => h))
          have B16 := hd (B15.out.trans (b16.mono B15.out.size))
          clear Q15 K15 O15 B15
          clear b16
          go_wp2_with fail
          refine (asked_any _ m c2 ch XS _ Q16.out.isE h2 h3 hm1 (by omega)).mono ?_
          rintro e w17 ⟨v17, rfl, hA17⟩
          obtain ⟨gx7, Rx7, rfl, hx1, hx2, hx3, hx4, hx5, b17⟩ := hA17.open
          rw [askP_len]
          rw [← hc] at hx5
          have X1 := hd hx1
          have X3 := hd hx3
          have X5 := hd hx5
          have Q17 := hd (Q16.out.fr (S := fun _ => False) (Fr.of_below b17) (fun h => h))
          have K17 := hd (K16.out.fr (S := fun _ => False) (Fr.of_below b17) (fun h => h))
          have O17 := hd (O16.out.fr (S := fun _ => False) (Fr.of_below b17) (fun h => h))
          have B17 := hd (B16.out.trans (b17.mono B16.out.size))
          clear Q16 K16 O16 B16
          clear b17 hA17 hx1 hx2 hx3 hx4 hx5
          go_wp2_with fail
          refine (asked_any _ m c13 ch XS _ O17.out.isE h2 h3 hm1 (by omega)).mono ?_
          rintro e w18 ⟨v18, rfl, hA18⟩
          obtain ⟨gy8, Ry8, rfl, hy1, hy2, hy3, hy4, hy5, b18⟩ := hA18.open
          rw [askP_len]
          rw [← hc] at hy5
          have Y1 := hd hy1
          have Y3 := hd hy3
          have Y5 := hd hy5
          have Z1 := hd (below_keep b18 X1.out)
          have Z3 := hd (X3.out.below b18)
          have Q18 := hd (Q17.out.fr (S := fun _ => False) (Fr.of_below b18) (fun h => h))
          have K18 := hd (K17.out.fr (S := fun _ => False) (Fr.of_below b18) (fun h => h))
          have O18 := hd (O17.out.fr (S := fun _ => False) (Fr.of_below b18) (fun h => h))
          have B18 := hd (B17.out.trans (b18.mono B17.out.size))
          clear Q17 K17 O17 B17
          clear b18 hA18 hy1 hy2 hy3 hy4 hy5 X1 X3
          generalize hbR : bstr (RS.map (·.1)) = bR at *
          generalize hbX : bstr (XS.map (·.1)) = bX at *
          generalize hfR : findP 9 1 RS 0 = fR at *
          have HbR := hd hbR
          have HbX := hd hbX
          have HfR := hd hfR
          clear hbR hbX hfR
          have Za18 := hd Z1.out
          have Zb18 := hd Z3.out
          have Ya18 := hd Y1.out
          have Yb18 := hd Y3.out
          clear Z1 Z3 Y1 Y3
          go_wp2_with fail
          refine (text_any _ m c3 RS _ K18.out.isE M24).mono ?_
          rintro e w19 ⟨rfl, b19⟩
          rw [HbR.out]
          have K19 := hd (K18.out.fr (S := fun _ => False) (Fr.of_below b19) (fun h => h))
          have O19 := hd (O18.out.fr (S := fun _ => False) (Fr.of_below b19) (fun h => h))
          have B19 := hd (B18.out.trans (b19.mono B18.out.size))
          have Za19 := hd (below_keep b19 Za18.out)
          have Zb19 := hd (Zb18.out.below b19)
          have Ya19 := hd (below_keep b19 Ya18.out)
          have Yb19 := hd (Yb18.out.below b19)
          clear b19 K18 O18 B18 Za18 Zb18 Ya18 Yb18
          go_wp2_with fail
          refine (text_any _ m c13 XS _ O19.out.isE M24).mono ?_
          rintro e w20 ⟨rfl, b20⟩
          rw [HbX.out]
          have K20 := hd (K19.out.fr (S := fun _ => False) (Fr.of_below b20) (fun h => h))
          have O20 := hd (O19.out.fr (S := fun _ => False) (Fr.of_below b20) (fun h => h))
          have B20 := hd (B19.out.trans (b20.mono B19.out.size))
          have Za20 := hd (below_keep b20 Za19.out)
          have Zb20 := hd (Zb19.out.below b20)
          have Ya20 := hd (below_keep b20 Ya19.out)
          have Yb20 := hd (Yb19.out.below b20)
          clear b20 K19 O19 B19 Za19 Zb19 Ya19 Yb19
          go_wp2_with fail
          refine (find_any _ m c3 9 1 RS _ K20.out.isE).mono ?_
          rintro e w21 ⟨rfl, b21⟩
          rw [HfR.out]
          have K21 := hd (K20.out.fr (S := fun _ => False) (Fr.of_below b21) (fun h => h))
          have O21 := hd (O20.out.fr (S := fun _ => False) (Fr.of_below b21) (fun h => h))
          have B21 := hd (B20.out.trans (b21.mono B20.out.size))
          have Za21 := hd (below_keep b21 Za20.out)
          have Zb21 := hd (Zb20.out.below b21)
          have Ya21 := hd (below_keep b21 Ya20.out)
          have Yb21 := hd (Yb20.out.below b21)
          clear b21 K20 O20 B20 Za20 Zb20 Ya20 Yb20
          go_wp2
          go_loopw [18] (fun i wr => ∃ k mm : Nat, k ≤ 5 ∧ i = .int .i64 k ∧ wr = w21.drewN mm) (fun i _ => 5 - (intOf i).toNat)
          case atStart => exact ⟨0, 0, Nat.zero_le _, rfl, rfl⟩
          case round =>
            obtain ⟨k, mm, hk, rfl, rfl⟩ := hrel
            by_cases hk5 : k < 5
            · obtain ⟨bx, cx, hcx, hix⟩ := pick_text Za21.out Zb21.out X5.out k (by rw [askP_len]; exact hk5)
              obtain ⟨by', cy, hcy, hiy⟩ := pick_text Ya21.out Yb21.out Y5.out k (by rw [askP_len]; exact hk5)
              have i1 : (k : Int) < 5 := by omega
              have IX := hd (hix.drewN mm)
              have IY := hd (hiy.drewN mm)
              have hcx' : (w21.drewN mm).cell? ⟨gx7, k, none⟩ = some (.slice (some ⟨bx, 0, none⟩) (askP XS c)[k].length cx) := hcx
              have hcy' : (w21.drewN mm).cell? ⟨gy8, k, none⟩ = some (.slice (some ⟨by', 0, none⟩) (askP XS c)[k].length cy) := hcy
              clear hix hiy hcx hcy
              generalize (askP XS c)[k] = TT at *
              obtain ⟨wz, hz⟩ : ∃ wz, wz = w21.drewN mm := ⟨_, rfl⟩
              have HZ := hd hz
              rw [← hz] at IX IY hcx' hcy' ⊢
              clear hz
              go_wp2
              go_quiet (first | (go_at_call 10; exact Calls.quiet_of (same_true _ _ _ _ _ _ _ _ _ (IX.out.drewN _) (IY.out.drewN _) rfl)))
              go_wp2
              exact ⟨⟨k + 1, _, by omega, by go_num, by rw [HZ.out]; exact drewN2 _ _ _⟩, by simp [intOf]; omega⟩
            · have i1 : ¬ (k : Int) < 5 := by omega
              have R := hd (below_drewN B21.out mm)
              generalize w21.drewN mm = wz at *
              go_wp2
              go_ret
              exact ⟨rfl, R.out⟩

theorem twice_any (a : Option Addr) (n cc : Nat) (ch : Int) (xs : List El) (w : World) (hE : IsE w a n cc xs) (h2 : 0 ≤ ch) (h3 : ch ≤ 255) (hn2 : n ≤ 300) :
    Calls Try.prog 20 #[.slice a n cc, .int .u8 ch] w fun e w' => e = .returned (.bool true) ∧ Below w.heap.size w w' :=
  twice_in a n cc ch xs w hE h2 h3 hn2 _ rfl

end Go.Proofs.Ytbgpmekjcepmaab
