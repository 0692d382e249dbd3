/-
  SpaceMeets: the walk.
-/
import Derived.Test.YtmbnimlibnheeaaDoorTk
namespace Go.Proofs.YtmbnimlibnheeaaDoor
open Go.RowKit Go.Lib
set_option linter.unusedVariables false

theorem in_lt (x : Int) : inN x 40 < 40 := by
  have b1 : x.tmod (40 : Nat) < 40 := Int.tmod_lt_of_pos _ (by omega)
  unfold inN
  split <;> omega

theorem SE.drewN {w : World} {β : Option Nat} {v : Value} {xs : List El} (h : SE w β v xs) (m : Nat) : SE (w.drewN m) β v xs := h.fr (Fr.drewN (fun _ => False) w m) (fun _ _ h => h)
theorem TWO.drewN {w0 w : World} {x y : Nat} {s t : Sd} {b1 b2 : Int} {N M : Nat} (h : TWO w0 w x y s t b1 b2 N M) (m : Nat) : TWO w0 (w.drewN m) x y s t b1 b2 N M := h.below (below_drewN (Below.refl _ _) m)

def lenAt (w : World) (x : Nat) : Nat := match w.cell? ⟨x, 4, none⟩ with
  | some (.slice _ n _) => n
  | _ => 0
theorem lenAt_of {w : World} {x : Nat} {a : Option Addr} {n c : Nat} (h : w.cell? ⟨x, 4, none⟩ = some (.slice a n c)) : lenAt w x = n := by simp [lenAt, h]

set_option maxRecDepth 100000 in
set_option maxHeartbeats 8000000 in
theorem spaceMeets_any (x0 : Int) (a : Option Addr) (n c : Nat) (X : Nat → AV) (w : World) (hT : Table w) (hX : IsAc w a n c X) (hK : OkA X) :
    Calls Tryd.prog 7 #[.int .i64 x0, .slice a n c] w fun e w' => e = .returned (.bool true) ∧ Below w.heap.size w w' := by
  have hc1 := hX.1
  have hc2 := hX.2.1
  have HX := hd hX
  have HT := hd hT
  have HK := hd hK
  clear hX hT hK
  go_enter Tryd.func7, Tryd.ntmps7
  go_wp2_with fail
  refine (sides_any x0 _).mono ?_
  rintro e w1 ⟨x, y, rfl, h1⟩
  have D1 := hd (start_two (by rw [bgP_len]; have := in_lt x0; omega) h1.out)
  obtain ⟨N, hN⟩ : ∃ N, N = (bgP (inN x0 40)).length := ⟨_, rfl⟩
  rw [← hN] at D1
  obtain ⟨z1, v1, p1, q1, β1, e0, e1, e4, -, hxl⟩ := D1.out.see
  obtain ⟨z2, v2, p2, q2, β2, g0, g1, g4, -, hyl⟩ := D1.out.swap.see
  have S0 : Hid (∃ s t, TWO w w1 x y s t 0 32 N 0) := ⟨_, _, D1.out⟩
  clear h1 D1 hN
  go_wp2_with fail
  clear e0 e1 e4 g0 g1 g4 hxl hyl
  go_loopw [7] (fun i wr => ∃ k : Nat, k ≤ n ∧ k ≤ 240 ∧ i = .int .i64 k ∧ Hid (∃ s t, TWO w wr x y s t 0 32 N k)) (fun i _ => 240 - (intOf i).toNat)
  case atStart => exact ⟨0, Nat.zero_le _, by omega, rfl, S0⟩
  case round =>
    obtain ⟨k, hk, hk2, rfl, H⟩ := hrel
    by_cases hlt : k < n
    · by_cases hlt2 : k < 240
      · obtain ⟨s, t, H1⟩ := H.out
        obtain ⟨bA, oA, rfl, hbA, hcA⟩ := HX.out.2.2 (by omega)
        have FW : Fr (fun _ => False) w wr := Fr.of_below H1.bel
        obtain ⟨c0, c1, c2, c3, c4⟩ := hcA k hlt
        have c0 := (FW.cell (p := ⟨bA, oA + k * 5, none⟩) hbA (fun h => h)).trans c0
        have c1 := (FW.cell (p := ⟨bA, oA + k * 5 + 1, none⟩) hbA (fun h => h)).trans c1
        have c2 := (FW.cell (p := ⟨bA, oA + k * 5 + 2, none⟩) hbA (fun h => h)).trans c2
        have c3 := (FW.cell (p := ⟨bA, oA + k * 5 + 3, none⟩) hbA (fun h => h)).trans c3
        have c4 := (FW.cell (p := ⟨bA, oA + k * 5 + 4, none⟩) hbA (fun h => h)).trans c4
        have hk5 := HK.out k
        generalize X k = ac at *
        obtain ⟨kd, nop, out, na, ch⟩ := ac
        simp only at c0 c1 c2 c3 c4 hk5
        have bl : bA < wr.heap.size := by have := H1.bel.size; omega
        have i1 : (k : Int) < (n : Int) := by omega
        have i2 : (k : Int) < 240 := by omega
        have CA := hd (act_any H1 (by omega) HT.out kd na ch nop out hk5.1 hk5.2)
        clear FW hcA H1 hk5 H
        go_wp2_with fail
        refine CA.out.mono ?_
        rintro e w2 ⟨rfl, h2⟩
        obtain ⟨s2, t2, H2⟩ := h2.out
        clear c0 c1 c2 c3 c4 CA bl
        obtain ⟨z1, v1, p1, q1, β1, e0, e1, e4, eS, hxl⟩ := H2.see
        obtain ⟨z2, v2, p2, q2, β2, g0, g1, g4, gS, hyl⟩ := H2.swap.see
        have ES := hd (And.intro eS gS)
        have H2' := hd H2
        clear eS gS h2
        have AL := hd (fun h1 h2 => H2.alike h1 h2)
        have ZN : Hid (∀ m, ∃ s t, TWO w (w2.drewN m) x y s t 0 32 N (k + 1)) := fun m => ⟨s2, t2, H2.drewN m⟩
        obtain ⟨l1, hl1⟩ : ∃ l, l = s2.way.length := ⟨_, rfl⟩
        obtain ⟨l2, hl2⟩ : ∃ l, l = t2.way.length := ⟨_, rfl⟩
        rw [← hl1] at e4
        rw [← hl2] at g4
        have HL := hd (And.intro hl1 hl2)
        clear H2 hl1 hl2
        by_cases d1 : l1 = 0
        · subst d1
          by_cases d2 : l2 = 0
          · subst d2
            have hal := hd (AL.out HL.out.1.symm HL.out.2.symm)
            have CS : Hid (∀ m, Calls Tryd.prog 23 #[v1, v2] (w2.drewN m) fun e w' => e = .returned (.bool true) ∧ ∃ m', w' = (w2.drewN m).drewN m') := fun m => same_true v1 v2 β1 β2 s2.d _ (ES.out.1.drewN m) (by rw [show s2.d = t2.d from hal.out]; exact ES.out.2.drewN m)
            clear hal
            go_wp2_with fail
            go_quiet ((go_at_call 23; exact Calls.quiet_of (CS.out _)))
            go_wp2_with fail
            exact ⟨⟨k + 1, by omega, by omega, by go_num, ZN.out _⟩, by simp [intOf]; omega⟩
          · have d2' : ((l2 : Int) == 0) = false := by simpa using d2
            have d2'' : ¬ ((l2 : Int) = 0) := by omega
            clear S0 hc1 hc2
            go_wp2_with fail
            go_quiet (fail)
            go_wp2_with fail
            exact ⟨⟨k + 1, by omega, by omega, by go_num, ZN.out _⟩, by simp [intOf]; omega⟩
        · have d1' : ((l1 : Int) == 0) = false := by simpa using d1
          have d1'' : ¬ ((l1 : Int) = 0) := by omega
          clear S0 hc1 hc2
          go_wp2_with fail
          go_quiet (fail)
          go_wp2_with fail
          exact ⟨⟨k + 1, by omega, by omega, by go_num, ZN.out _⟩, by simp [intOf]; omega⟩
      · have i1 : (k : Int) < (n : Int) := by omega
        have i2 : ¬ ((k : Int) < 240) := by omega
        replace H : Hid (∃ s t, TWO w wr x y s t 0 32 N 240) := by
          obtain ⟨s, t, h⟩ := H.out
          exact ⟨s, t, h.mono hk2⟩
        go_wp2_with fail
        clear S0
        go_loopw [] (fun wr => Hid (∃ s t, TWO w wr x y s t 0 32 N 240)) (fun wr => lenAt wr x + lenAt wr y)
        case atStart => exact H
        case round =>
          obtain ⟨s, t, H1⟩ := hrel.out
          obtain ⟨z1, v1, p1, q1, β1, e0, e1, e4, eS, hxl⟩ := H1.see
          obtain ⟨z2, v2, p2, q2, β2, g0, g1, g4, gS, hyl⟩ := H1.swap.see
          have M1 := lenAt_of e4
          have M2 := lenAt_of g4
          have HM := hd (And.intro M1 M2)
          have ES := hd (And.intro eS gS)
          have H1' := hd H1
          clear M1 M2 eS gS hrel
          obtain ⟨l1, hl1⟩ : ∃ l, l = s.way.length := ⟨_, rfl⟩
          obtain ⟨l2, hl2⟩ : ∃ l, l = t.way.length := ⟨_, rfl⟩
          rw [← hl1] at e4
          rw [← hl2] at g4
          have HL := hd (And.intro hl1 hl2)
          clear H1 hl1 hl2
          by_cases d1 : l1 = 0
          · subst d1
            by_cases d2 : l2 = 0
            · subst d2
              have hal := hd (H1'.out.alike HL.out.1.symm HL.out.2.symm)
              have CS : Hid (∀ m, Calls Tryd.prog 23 #[v1, v2] (wr.drewN m) fun e w' => e = .returned (.bool true) ∧ ∃ m', w' = (wr.drewN m).drewN m') := fun m => same_true v1 v2 β1 β2 s.d _ (ES.out.1.drewN m) (by rw [show s.d = t.d from hal.out]; exact ES.out.2.drewN m)
              have ZB : Hid (∀ m, Below w.heap.size w (wr.drewN m)) := fun m => (H1'.out.drewN m).bel
              clear hal
              go_wp2_with fail
              go_quiet ((go_at_call 23; exact Calls.quiet_of (CS.out _)))
              go_wp2
              go_ret
              exact ⟨rfl, ZB.out _⟩
            · have d2' : (0 : Int) < (l2 : Int) := by omega
              go_wp2_with fail
              refine (tk_two H1'.out (by omega) HT.out).mono ?_
              rintro e w3 ⟨rfl, h3⟩
              obtain ⟨s3, t3, H3, m1, m2⟩ := h3.out
              have CT := hd (tk_two H3.swap (by omega) HT.out)
              have HM1 := hd (And.intro m1 m2)
              clear e0 e1 e4 g0 g1 g4 hxl hyl h3 H3 m1 m2
              go_wp2_with fail
              refine CT.out.mono ?_
              rintro e w4 ⟨rfl, h4⟩
              have Z4 : Hid (∃ s t, TWO w w4 x y s t 0 32 N 240) := by
                obtain ⟨t4, s4, H4, -⟩ := h4.out
                exact ⟨s4, t4, H4.swap⟩
              have ZM : Hid (lenAt w4 x + lenAt w4 y < lenAt wr x + lenAt wr y) := by
                obtain ⟨t4, s4, H4, m3, m4⟩ := h4.out
                obtain ⟨_, _, _, _, _, _, _, k4, _⟩ := H4.see
                obtain ⟨_, _, _, _, _, _, _, j4, _⟩ := H4.swap.see
                have := lenAt_of k4
                have := lenAt_of j4
                have := HM.out
                have := HM1.out
                have := HL.out
                show _ < _
                omega
              clear CT h4 HM1
              go_wp2_with fail
              exact ⟨Z4, ZM.out⟩
          · have d1' : (0 : Int) < (l1 : Int) := by omega
            go_wp2_with fail
            refine (tk_two H1'.out (by omega) HT.out).mono ?_
            rintro e w3 ⟨rfl, h3⟩
            obtain ⟨s3, t3, H3, m1, m2⟩ := h3.out
            have CT := hd (tk_two H3.swap (by omega) HT.out)
            have HM1 := hd (And.intro m1 m2)
            clear e0 e1 e4 g0 g1 g4 hxl hyl h3 H3 m1 m2
            go_wp2_with fail
            refine CT.out.mono ?_
            rintro e w4 ⟨rfl, h4⟩
            have Z4 : Hid (∃ s t, TWO w w4 x y s t 0 32 N 240) := by
              obtain ⟨t4, s4, H4, -⟩ := h4.out
              exact ⟨s4, t4, H4.swap⟩
            have ZM : Hid (lenAt w4 x + lenAt w4 y < lenAt wr x + lenAt wr y) := by
              obtain ⟨t4, s4, H4, m3, m4⟩ := h4.out
              obtain ⟨_, _, _, _, _, _, _, k4, _⟩ := H4.see
              obtain ⟨_, _, _, _, _, _, _, j4, _⟩ := H4.swap.see
              have := lenAt_of k4
              have := lenAt_of j4
              have := HM.out
              have := HM1.out
              have := HL.out
              show _ < _
              omega
            clear CT h4 HM1
            go_wp2_with fail
            exact ⟨Z4, ZM.out⟩
    · have i1 : ¬ ((k : Int) < (n : Int)) := by omega
      replace H : Hid (∃ s t, TWO w wr x y s t 0 32 N 240) := by
        obtain ⟨s, t, h⟩ := H.out
        exact ⟨s, t, h.mono hk2⟩
      go_wp2_with fail
      clear S0
      go_loopw [] (fun wr => Hid (∃ s t, TWO w wr x y s t 0 32 N 240)) (fun wr => lenAt wr x + lenAt wr y)
      case atStart => exact H
      case round =>
        obtain ⟨s, t, H1⟩ := hrel.out
        obtain ⟨z1, v1, p1, q1, β1, e0, e1, e4, eS, hxl⟩ := H1.see
        obtain ⟨z2, v2, p2, q2, β2, g0, g1, g4, gS, hyl⟩ := H1.swap.see
        have M1 := lenAt_of e4
        have M2 := lenAt_of g4
        have HM := hd (And.intro M1 M2)
        have ES := hd (And.intro eS gS)
        have H1' := hd H1
        clear M1 M2 eS gS hrel
        obtain ⟨l1, hl1⟩ : ∃ l, l = s.way.length := ⟨_, rfl⟩
        obtain ⟨l2, hl2⟩ : ∃ l, l = t.way.length := ⟨_, rfl⟩
        rw [← hl1] at e4
        rw [← hl2] at g4
        have HL := hd (And.intro hl1 hl2)
        clear H1 hl1 hl2
        by_cases d1 : l1 = 0
        · subst d1
          by_cases d2 : l2 = 0
          · subst d2
            have hal := hd (H1'.out.alike HL.out.1.symm HL.out.2.symm)
            have CS : Hid (∀ m, Calls Tryd.prog 23 #[v1, v2] (wr.drewN m) fun e w' => e = .returned (.bool true) ∧ ∃ m', w' = (wr.drewN m).drewN m') := fun m => same_true v1 v2 β1 β2 s.d _ (ES.out.1.drewN m) (by rw [show s.d = t.d from hal.out]; exact ES.out.2.drewN m)
            have ZB : Hid (∀ m, Below w.heap.size w (wr.drewN m)) := fun m => (H1'.out.drewN m).bel
            clear hal
            go_wp2_with fail
            go_quiet ((go_at_call 23; exact Calls.quiet_of (CS.out _)))
            go_wp2
            go_ret
            exact ⟨rfl, ZB.out _⟩
          · have d2' : (0 : Int) < (l2 : Int) := by omega
            go_wp2_with fail
            refine (tk_two H1'.out (by omega) HT.out).mono ?_
            rintro e w3 ⟨rfl, h3⟩
            obtain ⟨s3, t3, H3, m1, m2⟩ := h3.out
            have CT := hd (tk_two H3.swap (by omega) HT.out)
            have HM1 := hd (And.intro m1 m2)
            clear e0 e1 e4 g0 g1 g4 hxl hyl h3 H3 m1 m2
            go_wp2_with fail
            refine CT.out.mono ?_
            rintro e w4 ⟨rfl, h4⟩
            have Z4 : Hid (∃ s t, TWO w w4 x y s t 0 32 N 240) := by
              obtain ⟨t4, s4, H4, -⟩ := h4.out
              exact ⟨s4, t4, H4.swap⟩
            have ZM : Hid (lenAt w4 x + lenAt w4 y < lenAt wr x + lenAt wr y) := by
              obtain ⟨t4, s4, H4, m3, m4⟩ := h4.out
              obtain ⟨_, _, _, _, _, _, _, k4, _⟩ := H4.see
              obtain ⟨_, _, _, _, _, _, _, j4, _⟩ := H4.swap.see
              have := lenAt_of k4
              have := lenAt_of j4
              have := HM.out
              have := HM1.out
              have := HL.out
              show _ < _
              omega
            clear CT h4 HM1
            go_wp2_with fail
            exact ⟨Z4, ZM.out⟩
        · have d1' : (0 : Int) < (l1 : Int) := by omega
          go_wp2_with fail
          refine (tk_two H1'.out (by omega) HT.out).mono ?_
          rintro e w3 ⟨rfl, h3⟩
          obtain ⟨s3, t3, H3, m1, m2⟩ := h3.out
          have CT := hd (tk_two H3.swap (by omega) HT.out)
          have HM1 := hd (And.intro m1 m2)
          clear e0 e1 e4 g0 g1 g4 hxl hyl h3 H3 m1 m2
          go_wp2_with fail
          refine CT.out.mono ?_
          rintro e w4 ⟨rfl, h4⟩
          have Z4 : Hid (∃ s t, TWO w w4 x y s t 0 32 N 240) := by
            obtain ⟨t4, s4, H4, -⟩ := h4.out
            exact ⟨s4, t4, H4.swap⟩
          have ZM : Hid (lenAt w4 x + lenAt w4 y < lenAt wr x + lenAt wr y) := by
            obtain ⟨t4, s4, H4, m3, m4⟩ := h4.out
            obtain ⟨_, _, _, _, _, _, _, k4, _⟩ := H4.see
            obtain ⟨_, _, _, _, _, _, _, j4, _⟩ := H4.swap.see
            have := lenAt_of k4
            have := lenAt_of j4
            have := HM.out
            have := HM1.out
            have := HL.out
            show _ < _
            omega
          clear CT h4 HM1
          go_wp2_with fail
          exact ⟨Z4, ZM.out⟩

end Go.Proofs.YtmbnimlibnheeaaDoor
