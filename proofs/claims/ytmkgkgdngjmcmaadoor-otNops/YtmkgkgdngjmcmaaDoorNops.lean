/-
  OtNops.
-/
import Derived.Test.YtmkgkgdngjmcmaaDoorKa
namespace Go.Proofs.YtmkgkgdngjmcmaaDoor
open Go.RowKit
set_option linter.unusedVariables false

theorem FRel.drewN {w wr : World} {b : Nat} {v : Value} {L : List OpE} (h : FRel w wr b v L) (m : Nat) : FRel w (wr.drewN m) b v L := by
  obtain ⟨β, h1, h2, h3⟩ := h
  exact ⟨β, h1.fr (S := fun _ => False) (Fr.drewN _ _ _) (fun _ _ h => h), h2, below_drewN h3 m⟩

set_option maxRecDepth 100000 in
set_option maxHeartbeats 8000000 in
theorem nops_in (a b : Option Addr) (n c m d : Nat) (xs ys : List OpE) (w : World) (hT : Table w) (hE : IsO w a n c xs) (hF : IsO w b m d ys) (hn : n ≤ 4096) (hm : m ≤ 4096) :
    Calls Tryd.prog 7 #[.slice a n c, .slice b m d] w fun e w' => e = .returned (.bool true) ∧ Below w.heap.size w w' := by
  have i1 : decide ((n : Int) > 4096) = false := by simp; omega
  have i2 : decide ((m : Int) > 4096) = false := by simp; omega
  have hc := hE.2.1
  have hc63 := hE.2.2.1
  have hd1 := hF.2.1
  have hd63 := hF.2.2.1
  have HT := hd hT
  have HE := hd hE
  have HF := hd hF
  clear hT hE hF
  go_enter Tryd.func7, Tryd.ntmps7
  go_wp2_with fail
  refine (lcopied_any a n c xs _ HE.out (by omega)).mono ?_
  rintro e w1 ⟨v, rfl, ⟨g, cg, hg, rfl, hR⟩, b1⟩
  rw [HE.out.1] at hR ⊢
  have R1 := hd hR.isO
  have B1 := hd b1
  clear hR b1 hg
  go_wp2_with fail
  refine (lcopied_any b m d ys _ (HF.out.below B1.out) (by omega)).mono ?_
  rintro e w2 ⟨v, rfl, ⟨h, ch, hh, rfl, hR⟩, b2⟩
  rw [HF.out.1] at hR ⊢
  have R2 := hd hR.isO
  have R12 := hd (R1.out.below b2)
  have B2 := hd (B1.out.trans (b2.mono B1.out.size))
  clear hR b2 hh R1 B1
  go_wp2_with fail
  refine (weave_any _ _ n _ m _ xs ys _ (HT.out.below B2.out HT.out.1) R12.out R2.out hn hm).mono ?_
  rintro e w3 ⟨g3, h3, cg3, ch3, rfl, hg3, hgh3, hR3, hS3, bb⟩
  have X3 := hd hR3.isO
  have Y3 := hd hS3.isO
  have B3 := hd (B2.out.trans (bb.mono B2.out.size))
  clear hR3 hS3 bb R12 R2 B2 hg3 hgh3
  go_wp2_with fail
  refine (acting_any a n c xs _ (HE.out.below B3.out) hn).mono ?_
  rintro e w4 ⟨v4, rfl, hA4⟩
  obtain ⟨N, hN⟩ : ∃ N, N = (act xs).length := ⟨_, rfl⟩
  obtain ⟨a4, c4, rfl, hI4, b4⟩ := hA4.form hN.symm
  have A4 := hd hI4
  have X4 := hd (X3.out.below b4)
  have Y4 := hd (Y3.out.below b4)
  have B4 := hd (B3.out.trans (b4.mono B3.out.size))
  have LN : Hid (N ≤ 4096) := by have := act_len xs; have := HE.out.1; show N ≤ 4096; omega
  clear hA4 hI4 b4 X3 Y3 B3 hN
  go_wp2_with fail
  refine (acting_any b m d ys _ (HF.out.below B4.out) hm).mono ?_
  rintro e w5 ⟨v5, rfl, hA5⟩
  obtain ⟨M, hM⟩ : ∃ M, M = (act ys).length := ⟨_, rfl⟩
  obtain ⟨a5, c5, rfl, hI5, b5⟩ := hA5.form hM.symm
  have A5 := hd hI5
  have A45 := hd (A4.out.below b5)
  have X5 := hd (X4.out.below b5)
  have Y5 := hd (Y4.out.below b5)
  have B5 := hd (B4.out.trans (b5.mono B4.out.size))
  have LM : Hid (M ≤ 4096) := by have := act_len ys; have := HF.out.1; show M ≤ 4096; omega
  clear hA5 hI5 b5 X4 Y4 B4 A4 hM
  go_wp2_with fail
  refine (weave_any _ _ N _ M _ (act xs) (act ys) _ (HT.out.below B5.out HT.out.1) A45.out A5.out LN.out LM.out).mono ?_
  rintro e w6 ⟨g6, h6, cg6, ch6, rfl, hg6, hgh6, hR6, hS6, bb⟩
  obtain ⟨e1, e2, e3, e4⟩ := weave_sel xs ys xs (NK_self xs)
  rw [sel_self] at e1 e3
  rw [← e1] at hR6
  rw [← e3] at hS6
  have V6 := hd hR6.isO
  have W6 := hd hS6.isO
  have X6 := hd (X5.out.below bb)
  have Y6 := hd (Y5.out.below bb)
  have B6 := hd (B5.out.trans (bb.mono B5.out.size))
  have K1 := hd e2
  have K2 := hd e4
  clear hR6 hS6 bb X5 Y5 B5 A5 A45 e1 e2 e3 e4 hg6 hgh6
  generalize (weaveP xs ys).1 = XX at *
  generalize (weaveP xs ys).2 = YY at *
  go_wp2_with fail
  refine (num_any _ _).mono ?_
  rintro e w7 ⟨rfl, rfl⟩
  go_wp2_with fail
  refine (num_any _ _).mono ?_
  rintro e w7 ⟨rfl, rfl⟩
  have LX := hd HE.out.1
  have LY := hd HF.out.1
  have LXX := hd X6.out.1
  have LYY := hd Y6.out.1
  go_wp2
  go_loopw [11, 13] (fun v i wr => ∃ j : Nat, j ≤ n ∧ i = .int .i64 j ∧ Hid (FRel w7 wr w7.heap.size v (sel (xs.take j) (XX.take j)))) (fun _ i _ => n - (intOf i).toNat)
  case atStart => exact ⟨0, Nat.zero_le _, rfl, ⟨none, ⟨rfl, by simp [sel]⟩, fun g hg => by (cases hg), Below.refl _ _⟩⟩
  case round =>
    obtain ⟨j, hj, rfl, hr⟩ := hrel
    obtain ⟨P, hP⟩ : ∃ P, P = (sel (xs.take j) (XX.take j)).length := ⟨_, rfl⟩
    obtain ⟨av, cv, rfl, hI, hB⟩ := hr.out.form hP.symm
    by_cases hlt : j < n
    · have jx : j < xs.length := by have := LX.out; omega
      have jX : j < XX.length := by have := LXX.out; omega
      have E2 := (HE.out.below B6.out).below hB
      obtain ⟨bl, ol, rfl, hbl⟩ := E2.addr (by omega)
      obtain ⟨x0, x1, x2, x3, x4⟩ := E2.at j hlt jx
      obtain ⟨y0, y1, y2, y3, y4⟩ := (X6.out.below hB).at j hlt jX
      simp only [Nat.zero_add] at y0 y1 y2 y3 y4
      have i3 : (j : Int) < (n : Int) := by omega
      have hPl : P ≤ 4096 := by rw [hP]; have := sel_len (xs.take j) (XX.take j); simp at this; omega
      have e1 := sel_take xs XX j jx jX
      have e2 := (NK_at K1.out).2 j jx jX
      obtain ⟨v5, w5, hap, hF5, hk5, -⟩ := hr.out.push (Below.refl wr.heap.size wr) (Nat.le_refl _) hB.size XX[j] (by omega)
      generalize xs[j] = x at *
      generalize XX[j] = y at *
      obtain ⟨uk, up, uc, uq, us⟩ := x
      obtain ⟨vk, vp, vc, vq, vs⟩ := y
      simp only [opc] at hap x0 x1 x2 x3 x4 y0 y1 y2 y3 y4 e1 e2
      have HR := hr
      clear hk5 hI hB E2 hr hP hPl
      by_cases hz : uk = 0
      · have e3 := e2 hz
        simp only [OpE.mk.injEq] at e3
        obtain ⟨rfl, rfl, rfl, rfl, rfl⟩ := e3
        subst hz
        simp only [if_true, List.append_nil] at e1
        have Z : Hid (FRel w7 wr w7.heap.size (.slice av P cv) (sel (xs.take (j + 1)) (XX.take (j + 1)))) := by rw [e1]; exact HR.out
        clear hap hF5 HR e1 e2
        go_wp2_with fail
        go_quiet (fail)
        go_wp2
        exact ⟨⟨j + 1, by omega, by go_num, Z.out.drewN _⟩, by simp [intOf]; omega⟩
      · rw [if_neg hz] at e1
        rw [← e1] at hF5
        have Z5 := hd hF5
        have hz' : (uk != 0) = true := by simpa using hz
        clear hF5 HR e1 e2 hz
        go_wp2_with (at_builtin; refine wpList_append_k _ rfl _ _ 32 32 rfl _ _ rfl rfl (hap _) ?_)
        exact ⟨⟨j + 1, by omega, by go_num, Z5⟩, by simp [intOf]; omega⟩
    · obtain rfl : j = n := by omega
      have hp := hI
      rw [List.take_of_length_le (by have := LX.out; omega), List.take_of_length_le (by have := LXX.out; omega)] at hp
      have PP := hd hp
      have VE := hd (V6.out.below hB)
      have W7 := hd (W6.out.below hB)
      have YE := hd (Y6.out.below hB)
      have BE := hd (B6.out.trans (hB.mono B6.out.size))
      clear hr hI hB hP hp X6 Y6 V6 W6 B6 K1
      obtain ⟨wE, hwE⟩ : ∃ wE, wE = wr := ⟨_, rfl⟩
      subst hwE
      go_wp2
      go_loopw [12, 14] (fun v i wr => ∃ j : Nat, j ≤ m ∧ i = .int .i64 j ∧ Hid (FRel wE wr wE.heap.size v (sel (ys.take j) (YY.take j)))) (fun _ i _ => m - (intOf i).toNat)
      case atStart => exact ⟨0, Nat.zero_le _, rfl, ⟨none, ⟨rfl, by simp [sel]⟩, fun g hg => by (cases hg), Below.refl _ _⟩⟩
      case round =>
        obtain ⟨j, hj, rfl, hr⟩ := hrel
        obtain ⟨P, hP⟩ : ∃ P, P = (sel (ys.take j) (YY.take j)).length := ⟨_, rfl⟩
        obtain ⟨av, cv, rfl, hI, hB⟩ := hr.out.form hP.symm
        by_cases hlt : j < m
        · have jx : j < ys.length := by have := LY.out; omega
          have jX : j < YY.length := by have := LYY.out; omega
          have E2 := (HF.out.below BE.out).below hB
          obtain ⟨bl, ol, rfl, hbl⟩ := E2.addr (by omega)
          obtain ⟨x0, x1, x2, x3, x4⟩ := E2.at j hlt jx
          obtain ⟨y0, y1, y2, y3, y4⟩ := (YE.out.below hB).at j hlt jX
          simp only [Nat.zero_add] at y0 y1 y2 y3 y4
          have i3 : (j : Int) < (m : Int) := by omega
          have hPl : P ≤ 4096 := by rw [hP]; have := sel_len (ys.take j) (YY.take j); simp at this; omega
          have e1 := sel_take ys YY j jx jX
          have e2 := (NK_at K2.out).2 j jx jX
          obtain ⟨v5, w5, hap, hF5, hk5, -⟩ := hr.out.push (Below.refl wr.heap.size wr) (Nat.le_refl _) hB.size YY[j] (by omega)
          generalize ys[j] = x at *
          generalize YY[j] = y at *
          obtain ⟨uk, up, uc, uq, us⟩ := x
          obtain ⟨vk, vp, vc, vq, vs⟩ := y
          simp only [opc] at hap x0 x1 x2 x3 x4 y0 y1 y2 y3 y4 e1 e2
          have HR := hr
          clear hk5 hI hB E2 hr hP hPl
          by_cases hz : uk = 0
          · have e3 := e2 hz
            simp only [OpE.mk.injEq] at e3
            obtain ⟨rfl, rfl, rfl, rfl, rfl⟩ := e3
            subst hz
            simp only [if_true, List.append_nil] at e1
            have Z : Hid (FRel wE wr wE.heap.size (.slice av P cv) (sel (ys.take (j + 1)) (YY.take (j + 1)))) := by rw [e1]; exact HR.out
            clear hap hF5 HR e1 e2
            go_wp2_with fail
            go_quiet (fail)
            go_wp2
            exact ⟨⟨j + 1, by omega, by go_num, Z.out.drewN _⟩, by simp [intOf]; omega⟩
          · rw [if_neg hz] at e1
            rw [← e1] at hF5
            have Z5 := hd hF5
            have hz' : (uk != 0) = true := by simpa using hz
            clear hF5 HR e1 e2 hz
            go_wp2_with (at_builtin; refine wpList_append_k _ rfl _ _ 32 32 rfl _ _ rfl rfl (hap _) ?_)
            exact ⟨⟨j + 1, by omega, by go_num, Z5⟩, by simp [intOf]; omega⟩
        · obtain rfl : j = m := by omega
          have hq := hI
          rw [List.take_of_length_le (by have := LY.out; omega), List.take_of_length_le (by have := LYY.out; omega)] at hq
          have Q1 := hd hq
          have Q2 := hd (W7.out.below hB)
          have P1 := hd (PP.out.below hB)
          have P2 := hd (VE.out.below hB)
          have BL := hd (BE.out.trans (hB.mono BE.out.size))
          clear hr hI hB hP hq
          go_wp2_with fail
          refine (same_true _ _ _ _ _ _ _ _ _ P1.out P2.out rfl).mono ?_
          rintro e w8 ⟨rfl, m8, rfl⟩
          have Q3 := hd (Q1.out.drewN m8)
          have Q4 := hd (Q2.out.drewN m8)
          have BL8 := hd (below_drewN BL.out m8)
          clear Q1 Q2 P1 P2 BL
          generalize wr.drewN m8 = w8 at *
          go_wp2_with fail
          refine (same_true _ _ _ _ _ _ _ _ _ Q3.out Q4.out rfl).mono ?_
          rintro e w9 ⟨rfl, m9, rfl⟩
          have BL9 := hd (below_drewN BL8.out m9)
          clear Q3 Q4 BL8
          generalize w8.drewN m9 = w9 at *
          go_wp2
          go_ret
          exact ⟨rfl, BL9.out⟩


theorem otNops_any (a b : Option Addr) (n c m d : Nat) (xs ys : List OpE) (w : World) (hT : Table w) (hE : IsO w a n c xs) (hK : OkO xs) (hF : IsO w b m d ys) (hK2 : OkO ys) :
    Calls Tryd.prog 7 #[.slice a n c, .slice b m d] w fun e w' => e = .returned (.bool true) ∧ Below w.heap.size w w' := by
  by_cases h : n ≤ 4096
  · by_cases h2 : m ≤ 4096
    · exact nops_in a b n c m d xs ys w hT hE hF h h2
    · have i1 : decide ((n : Int) > 4096) = false := by simp; omega
      have i2 : (m : Int) > 4096 := by omega
      clear hE hF hK hK2 hT
      go_enter Tryd.func7, Tryd.ntmps7
      go_wp2
      go_ret
      exact ⟨rfl, Below.refl _ _⟩
  · have i1 : (n : Int) > 4096 := by omega
    clear hE hF hK hK2 hT
    go_enter Tryd.func7, Tryd.ntmps7
    go_wp2
    go_ret
    exact ⟨rfl, Below.refl _ _⟩

end Go.Proofs.YtmkgkgdngjmcmaaDoor
