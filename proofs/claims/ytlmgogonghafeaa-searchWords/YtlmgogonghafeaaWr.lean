/-
  The laws' letter, runs.
-/
import Derived.Test.YtlmgogonghafeaaPw
namespace Go.Proofs.Ytlmgogonghafeaa
open Go.RowKit Go.Lib
set_option linter.unusedVariables false

set_option maxHeartbeats 4000000 in
theorem letter_any (r : Nat) (w : World) : Calls Try.prog 26 #[.int .u8 (r : Int)] w fun e w' => e = .returned (.bool (ltN r)) ∧ w' = w := by
  have G : ∀ (P : Prop), (ltN r = true → 97 ≤ r → r ≤ 122 → P) → (ltN r = true → r < 97 → 65 ≤ r → r ≤ 90 → P) → (ltN r = false → 122 < r → P) → (ltN r = false → r < 97 → 90 < r → P) → (ltN r = false → r < 97 → r < 65 → P) → P := by
    intro P h1 h2 h3 h4 h5
    unfold ltN at *
    by_cases c1 : 97 ≤ r
    · by_cases c2 : r ≤ 122
      · exact h1 (by simp; omega) c1 c2
      · exact h3 (by simp; omega) (by omega)
    · by_cases c3 : 65 ≤ r
      · by_cases c4 : r ≤ 90
        · exact h2 (by simp; omega) (by omega) c3 c4
        · exact h4 (by simp; omega) (by omega) (by omega)
      · exact h5 (by simp; omega) (by omega) (by omega)
  refine G _ ?_ ?_ ?_ ?_ ?_
  · intro e c1 c2
    rw [e]
    have a1 : (97 : Int) ≤ (r : Int) := by omega
    have a2 : (r : Int) ≤ 122 := by omega
    clear G
    go_enter Try.func26, Try.ntmps26
    go_wp2
    go_ret
    exact ⟨rfl, rfl⟩
  · intro e c1 c2 c3
    rw [e]
    have a1 : ¬ (97 : Int) ≤ (r : Int) := by omega
    have a2 : (65 : Int) ≤ (r : Int) := by omega
    have a3 : (r : Int) ≤ 90 := by omega
    clear G
    go_enter Try.func26, Try.ntmps26
    go_wp2
    go_ret
    exact ⟨rfl, rfl⟩
  · intro e c1
    rw [e]
    have a1 : (97 : Int) ≤ (r : Int) := by omega
    have a2 : ¬ (r : Int) ≤ 122 := by omega
    have a3 : (65 : Int) ≤ (r : Int) := by omega
    have a4 : ¬ (r : Int) ≤ 90 := by omega
    clear G
    go_enter Try.func26, Try.ntmps26
    go_wp2
    go_ret
    exact ⟨rfl, rfl⟩
  · intro e c1 c2
    rw [e]
    have a1 : ¬ (97 : Int) ≤ (r : Int) := by omega
    have a3 : (65 : Int) ≤ (r : Int) := by omega
    have a4 : ¬ (r : Int) ≤ 90 := by omega
    clear G
    go_enter Try.func26, Try.ntmps26
    go_wp2
    go_ret
    exact ⟨rfl, rfl⟩
  · intro e c1 c2
    rw [e]
    have a1 : ¬ (97 : Int) ≤ (r : Int) := by omega
    have a3 : ¬ (65 : Int) ≤ (r : Int) := by omega
    clear G
    go_enter Try.func26, Try.ntmps26
    go_wp2
    go_ret
    exact ⟨rfl, rfl⟩

theorem occB_at (T w : By) (i : Nat) (a b c : Bool) (ha : stB T w i = a) (hb : (decide (i = 0) || !ltB (T.getD (i - 1) 0)) = b) (hc : (decide (i + w.length < T.length) && ltB (T.getD (i + w.length) 0)) = c) : occB T w i = (a && b && !c) := by
  unfold occB
  rw [ha, hb, hc]
theorem occN_no {T w : By} {i : Nat} (h : occB T w i = false) : occN T w (i + 1) = occN T w i := by rw [occN_succ, h]; rfl
theorem occN_yes {T w : By} {i : Nat} (h : occB T w i = true) : occN T w (i + 1) = occN T w i + 1 := by rw [occN_succ, h]; rfl
theorem occN_le (T w : By) (n : Nat) : occN T w n ≤ n := by
  unfold occN
  refine Nat.le_trans (List.length_filter_le _ _) ?_
  simp

set_option maxRecDepth 100000 in
set_option maxHeartbeats 8000000 in
theorem runs_any (T s : ByteArray) (w : World) (hT : T.size ≤ 1000000) (hs : s.size ≤ 1000000) (h1 : 1 ≤ s.size) :
    Calls Try.prog 25 #[.string T, .string s] w fun e w' => e = .returned (.int .i64 ((occN T.data.toList s.data.toList T.size : Nat) : Int)) ∧ w' = w := by
  have CA := hd (fun q hq => at_any T s q w (by omega) (by omega) h1 hq)
  have CL := hd (fun r => letter_any r w)
  have HTL : Hid (T.data.toList.length = T.size) := by show _ = _; simp
  have HSL : Hid (s.data.toList.length = s.size) := by show _ = _; simp
  go_enter Try.func25, Try.ntmps25
  go_wp2
  go_loop [5, 6] (fun k i => ∃ j : Nat, j ≤ T.size ∧ i = .int .i64 j ∧ k = .int .i64 ((occN T.data.toList s.data.toList j : Nat) : Int)) (fun _ i => T.size - (intOf i).toNat)
  case atStart => exact ⟨0, Nat.zero_le _, rfl, rfl⟩
  case round =>
    obtain ⟨j, hj, rfl, rfl⟩ := hrel
    by_cases hlt : j < T.size
    · have C := hd (CA.out j (by omega))
      have hle := occN_le T.data.toList s.data.toList j
      have ON := hd (fun (h : occB T.data.toList s.data.toList j = false) => occN_no h)
      have OY := hd (fun (h : occB T.data.toList s.data.toList j = true) => occN_yes h)
      have OA := hd (occB_at T.data.toList s.data.toList j)
      generalize hK : occN T.data.toList s.data.toList j = K at *
      have i1 : (j : Int) < (T.size : Int) := by omega
      have HN : Hid (j + s.size < T.size → ∀ h : j + s.size < T.size, T.data.toList.getD (j + s.size) 0 = T[j + s.size]'h) := fun _ h => by
        rw [getD_lt (by rw [HTL.out]; exact h), gets T _ h]
      cases hst : stB T.data.toList s.data.toList j with
      | false =>
        rw [hst] at C
        have E := hd (ON.out (by rw [OA.out _ _ _ hst rfl rfl]; rfl))
        clear ON OY OA HN hst
        go_wp2_with (go_at_call 33; refine C.out.mono ?_; rintro e w' ⟨rfl, rfl⟩)
        exact ⟨⟨j + 1, by omega, by go_num, by rw [E.out]⟩, by simp [intOf]; omega⟩
      | true =>
        rw [hst] at C
        cases j with
        | zero =>
          simp only [Nat.zero_add] at HN
          by_cases hn : s.size < T.size
          · have hn2 : ((s.size : Int)) < (T.size : Int) := by omega
            have hg := HN.out hn hn
            obtain ⟨C2, hC2⟩ : ∃ C2 : Nat, (T[s.size]'hn).toNat = C2 := ⟨_, rfl⟩
            have hl2 : ltB (T.data.toList.getD (s.size) 0) = ltN C2 := by rw [hg]; unfold ltB; rw [hC2]
            cases hlt2 : ltN C2 with
            | true =>
              have CL2 := CL.out C2
              rw [hlt2] at CL2
              have CL2 := hd CL2
              have hb : (decide (0 + s.data.toList.length < T.data.toList.length) && ltB (T.data.toList.getD (0 + s.data.toList.length) 0)) = true := by
                rw [Nat.zero_add, HSL.out, HTL.out, hl2, hlt2]
                simp <;> omega
              have E := hd (ON.out (by rw [OA.out true true true hst (rfl) hb]; rfl))
              clear ON OY OA HN hst hg hl2 hlt2 CL hb
              go_wp2_with fail
              refine C.out.mono ?_
              rintro e w' ⟨rfl, rfl⟩
              go_wp2_with fail
              refine CL2.out.mono ?_
              rintro e w' ⟨rfl, rfl⟩
              go_wp2
              exact ⟨⟨1, by omega, by go_num, by rw [E.out]⟩, by simp [intOf]; omega⟩
                      | false =>
              have CL2 := CL.out C2
              rw [hlt2] at CL2
              have CL2 := hd CL2
              have hb : (decide (0 + s.data.toList.length < T.data.toList.length) && ltB (T.data.toList.getD (0 + s.data.toList.length) 0)) = false := by
                rw [Nat.zero_add, HSL.out, HTL.out, hl2, hlt2]
                simp
              have E := hd (OY.out (by rw [OA.out true true false hst (rfl) hb]; rfl))
              clear ON OY OA HN hst hg hl2 hlt2 CL hb
              go_wp2_with fail
              refine C.out.mono ?_
              rintro e w' ⟨rfl, rfl⟩
              go_wp2_with fail
              refine CL2.out.mono ?_
              rintro e w' ⟨rfl, rfl⟩
              go_wp2
              exact ⟨⟨1, by omega, by go_num, by rw [E.out]; go_num⟩, by simp [intOf]; omega⟩
          · have hn2 : ¬ ((s.size : Int)) < (T.size : Int) := by omega
            have hb : (decide (0 + s.data.toList.length < T.data.toList.length) && ltB (T.data.toList.getD (0 + s.data.toList.length) 0)) = false := by
              rw [Nat.zero_add, HSL.out, HTL.out]
              have : ¬ s.size < T.size := hn
              simp [this]
            have E := hd (OY.out (by rw [OA.out true true false hst (rfl) hb]; rfl))
            clear ON OY OA HN hst CL hb
            go_wp2_with fail
            refine C.out.mono ?_
            rintro e w' ⟨rfl, rfl⟩
            go_wp2
            exact ⟨⟨1, by omega, by go_num, by rw [E.out]; go_num⟩, by simp [intOf]; omega⟩
        | succ p =>
          have hp : p < T.size := by omega
          obtain ⟨C1, hC1⟩ : ∃ C1 : Nat, (T[p]'hp).toNat = C1 := ⟨_, rfl⟩
          have hl1 : ltB (T.data.toList.getD (p + 1 - 1) 0) = ltN C1 := by rw [Nat.add_sub_cancel, getD_lt (by rw [HTL.out]; exact hp), gets T p hp]; unfold ltB; rw [hC1]
          have hp0 : (0 : Int) < (p : Int) + 1 := by omega
          cases hlt1 : ltN C1 with
          | true =>
            have CL1 := CL.out C1
            rw [hlt1] at CL1
            have CL1 := hd CL1
            have HB : (decide (p + 1 = 0) || !ltB (T.data.toList.getD (p + 1 - 1) 0)) = false := by rw [hl1, hlt1]; simp
            have E := hd (ON.out (by rw [OA.out true false _ hst HB rfl]; rfl))
            clear ON OY OA HN hst hl1 hlt1 CL HB
            go_wp2_with fail
            refine C.out.mono ?_
            rintro e w' ⟨rfl, rfl⟩
            go_wp2_with fail
            refine CL1.out.mono ?_
            rintro e w' ⟨rfl, rfl⟩
            go_wp2
            exact ⟨⟨p + 1 + 1, by omega, by go_num, by rw [E.out]⟩, by simp [intOf]; omega⟩
          | false =>
            have CL1 := CL.out C1
            rw [hlt1] at CL1
            have CL1 := hd CL1
            have HB : Hid ((decide (p + 1 = 0) || !ltB (T.data.toList.getD (p + 1 - 1) 0)) = true) := by show _ = _; rw [hl1, hlt1]; simp
            clear hl1 hlt1
            by_cases hn : p + 1 + s.size < T.size
            · have hn2 : ((p : Int) + 1 + (s.size : Int)) < (T.size : Int) := by omega
              have hg := HN.out hn hn
              obtain ⟨C2, hC2⟩ : ∃ C2 : Nat, (T[p + 1 + s.size]'hn).toNat = C2 := ⟨_, rfl⟩
              have hl2 : ltB (T.data.toList.getD (p + 1 + s.size) 0) = ltN C2 := by rw [hg]; unfold ltB; rw [hC2]
              cases hlt2 : ltN C2 with
              | true =>
                have CL2 := CL.out C2
                rw [hlt2] at CL2
                have CL2 := hd CL2
                have hb : (decide (p + 1 + s.data.toList.length < T.data.toList.length) && ltB (T.data.toList.getD (p + 1 + s.data.toList.length) 0)) = true := by
                  rw [HSL.out, HTL.out, hl2, hlt2]
                  simp <;> omega
                have E := hd (ON.out (by rw [OA.out true true true hst (HB.out) hb]; rfl))
                clear ON OY OA HN hst hg hl2 hlt2 CL hb
                go_wp2_with fail
                refine C.out.mono ?_
                rintro e w' ⟨rfl, rfl⟩
                go_wp2_with fail
                refine CL1.out.mono ?_
                rintro e w' ⟨rfl, rfl⟩
                go_wp2_with fail
                refine CL2.out.mono ?_
                rintro e w' ⟨rfl, rfl⟩
                go_wp2
                exact ⟨⟨p + 1 + 1, by omega, by go_num, by rw [E.out]⟩, by simp [intOf]; omega⟩
                          | false =>
                have CL2 := CL.out C2
                rw [hlt2] at CL2
                have CL2 := hd CL2
                have hb : (decide (p + 1 + s.data.toList.length < T.data.toList.length) && ltB (T.data.toList.getD (p + 1 + s.data.toList.length) 0)) = false := by
                  rw [HSL.out, HTL.out, hl2, hlt2]
                  simp
                have E := hd (OY.out (by rw [OA.out true true false hst (HB.out) hb]; rfl))
                clear ON OY OA HN hst hg hl2 hlt2 CL hb
                go_wp2_with fail
                refine C.out.mono ?_
                rintro e w' ⟨rfl, rfl⟩
                go_wp2_with fail
                refine CL1.out.mono ?_
                rintro e w' ⟨rfl, rfl⟩
                go_wp2_with fail
                refine CL2.out.mono ?_
                rintro e w' ⟨rfl, rfl⟩
                go_wp2
                exact ⟨⟨p + 1 + 1, by omega, by go_num, by rw [E.out]; go_num⟩, by simp [intOf]; omega⟩
            · have hn2 : ¬ ((p : Int) + 1 + (s.size : Int)) < (T.size : Int) := by omega
              have hb : (decide (p + 1 + s.data.toList.length < T.data.toList.length) && ltB (T.data.toList.getD (p + 1 + s.data.toList.length) 0)) = false := by
                rw [HSL.out, HTL.out]
                have : ¬ p + 1 + s.size < T.size := hn
                simp [this]
              have E := hd (OY.out (by rw [OA.out true true false hst (HB.out) hb]; rfl))
              clear ON OY OA HN hst CL hb
              go_wp2_with fail
              refine C.out.mono ?_
              rintro e w' ⟨rfl, rfl⟩
              go_wp2_with fail
              refine CL1.out.mono ?_
              rintro e w' ⟨rfl, rfl⟩
              go_wp2
              exact ⟨⟨p + 1 + 1, by omega, by go_num, by rw [E.out]; go_num⟩, by simp [intOf]; omega⟩
    · obtain rfl : j = T.size := by omega
      go_wp2
      go_ret
      exact ⟨rfl, rfl⟩
end Go.Proofs.Ytlmgogonghafeaa
