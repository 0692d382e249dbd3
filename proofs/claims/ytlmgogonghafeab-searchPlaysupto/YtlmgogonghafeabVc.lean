/-
  Valid and Fits of the document.
-/
import Derived.Test.YtlmgogonghafeabVb
namespace Go.Proofs.Ytlmgogonghafeab
open Go.RowKit
set_option linter.unusedVariables false

theorem inR_false {x l m : Int} : inR x l m = false ↔ x < l ∨ m < x := by
  unfold inR
  rw [decide_eq_false_iff_not]
  omega
theorem holdP_false {k c : Int} : holdP k c = false ↔ (k = 1 ∧ (c < 32 ∨ 126 < c)) ∨ (k ≠ 1 ∧ c ≠ 0) := by
  unfold holdP
  split
  · rw [inR_false]; omega
  · rw [decide_eq_false_iff_not]; omega
theorem pointP_false {k p : Int} : pointP k p = false ↔ (k = 0 ∧ p ≠ 0) ∨ (k ≠ 0 ∧ (p < 0 ∨ 4095 < p)) := by
  unfold pointP
  split
  · rw [decide_eq_false_iff_not]; omega
  · rw [inR_false]; omega
theorem validP_eq (k p c l s : Int) : validP ⟨k, p, c, l, s⟩ = if k < 0 ∨ 2 < k then 40 else if (l < 1 ∨ 64 < l) ∨ (s < 1 ∨ 64 < s) then 41 else if k = 1 ∧ (c < 32 ∨ 126 < c) then 42
    else if k ≠ 1 ∧ c ≠ 0 then 42 else if k = 0 ∧ p ≠ 0 then 43 else if p < 0 ∨ 4096 ≤ p then 43 else 0 := by
  unfold validP
  simp only [Bool.and_eq_false_iff, inR_false, holdP_false, pointP_false]
  repeat' split
  all_goals first | rfl | omega

set_option maxHeartbeats 4000000 in
theorem rvalid_nop (k p c l s : Int) (w : World) (hk : k = 0) :
    Calls Try.prog 91 #[.agg #[.int .i64 k, .int .i64 p, .int .u8 c, .int .i64 l, .int .i64 s]] w fun e w' => e = .returned (.int .i64 (validP ⟨k, p, c, l, s⟩)) ∧ Below w.heap.size w w' := by
  subst hk
  by_cases t6 : l < 1
  · rw [show validP ⟨_, _, _, _, _⟩ = 41 from by rw [validP_eq, if_neg (by omega), if_pos (by omega)]]
    go_enter Try.func91, Try.ntmps91
    go_wp2
    go_ret
    exact ⟨rfl, (Below.refl _ _).alloc (Nat.le_refl _) _⟩
  · by_cases t5 : 64 < l
    · rw [show validP ⟨_, _, _, _, _⟩ = 41 from by rw [validP_eq, if_neg (by omega), if_pos (by omega)]]
      have g : l > 64 := t5
      go_enter Try.func91, Try.ntmps91
      go_wp2
      go_ret
      exact ⟨rfl, (Below.refl _ _).alloc (Nat.le_refl _) _⟩
    · have gt5 : ¬ l > 64 := t5
      by_cases t4 : s < 1
      · rw [show validP ⟨_, _, _, _, _⟩ = 41 from by rw [validP_eq, if_neg (by omega), if_pos (by omega)]]
        go_enter Try.func91, Try.ntmps91
        go_wp2
        go_ret
        exact ⟨rfl, (Below.refl _ _).alloc (Nat.le_refl _) _⟩
      · by_cases t3 : 64 < s
        · rw [show validP ⟨_, _, _, _, _⟩ = 41 from by rw [validP_eq, if_neg (by omega), if_pos (by omega)]]
          have g : s > 64 := t3
          go_enter Try.func91, Try.ntmps91
          go_wp2
          go_ret
          exact ⟨rfl, (Below.refl _ _).alloc (Nat.le_refl _) _⟩
        · have gt3 : ¬ s > 64 := t3
          by_cases t2 : c ≠ 0
          · rw [show validP ⟨_, _, _, _, _⟩ = 42 from by rw [validP_eq, if_neg (by omega), if_neg (by omega), if_neg (by omega), if_pos (by omega)]]
            have g : (c != 0) = true := by simpa using t2
            go_enter Try.func91, Try.ntmps91
            go_wp2
            go_ret
            exact ⟨rfl, (Below.refl _ _).alloc (Nat.le_refl _) _⟩
          · have gt2 : c = 0 := by omega
            subst gt2
            by_cases t1 : p ≠ 0
            · rw [show validP ⟨_, _, _, _, _⟩ = 43 from by rw [validP_eq, if_neg (by omega), if_neg (by omega), if_neg (by omega), if_neg (by omega), if_pos (by omega)]]
              have g : (p != 0) = true := by simpa using t1
              go_enter Try.func91, Try.ntmps91
              go_wp2
              go_ret
              exact ⟨rfl, (Below.refl _ _).alloc (Nat.le_refl _) _⟩
            · have gt1 : p = 0 := by omega
              subst gt1
              rw [show validP ⟨_, _, _, _, _⟩ = 0 from by rw [validP_eq, if_neg (by omega), if_neg (by omega), if_neg (by omega), if_neg (by omega), if_neg (by omega), if_neg (by omega)]]
              go_enter Try.func91, Try.ntmps91
              go_wp2
              go_ret
              exact ⟨rfl, (Below.refl _ _).alloc (Nat.le_refl _) _⟩

set_option maxHeartbeats 4000000 in
theorem rvalid_ins (k p c l s : Int) (w : World) (hk : k = 1) :
    Calls Try.prog 91 #[.agg #[.int .i64 k, .int .i64 p, .int .u8 c, .int .i64 l, .int .i64 s]] w fun e w' => e = .returned (.int .i64 (validP ⟨k, p, c, l, s⟩)) ∧ Below w.heap.size w w' := by
  subst hk
  by_cases t8 : l < 1
  · rw [show validP ⟨_, _, _, _, _⟩ = 41 from by rw [validP_eq, if_neg (by omega), if_pos (by omega)]]
    go_enter Try.func91, Try.ntmps91
    go_wp2
    go_ret
    exact ⟨rfl, (Below.refl _ _).alloc (Nat.le_refl _) _⟩
  · by_cases t7 : 64 < l
    · rw [show validP ⟨_, _, _, _, _⟩ = 41 from by rw [validP_eq, if_neg (by omega), if_pos (by omega)]]
      have g : l > 64 := t7
      go_enter Try.func91, Try.ntmps91
      go_wp2
      go_ret
      exact ⟨rfl, (Below.refl _ _).alloc (Nat.le_refl _) _⟩
    · have gt7 : ¬ l > 64 := t7
      by_cases t6 : s < 1
      · rw [show validP ⟨_, _, _, _, _⟩ = 41 from by rw [validP_eq, if_neg (by omega), if_pos (by omega)]]
        go_enter Try.func91, Try.ntmps91
        go_wp2
        go_ret
        exact ⟨rfl, (Below.refl _ _).alloc (Nat.le_refl _) _⟩
      · by_cases t5 : 64 < s
        · rw [show validP ⟨_, _, _, _, _⟩ = 41 from by rw [validP_eq, if_neg (by omega), if_pos (by omega)]]
          have g : s > 64 := t5
          go_enter Try.func91, Try.ntmps91
          go_wp2
          go_ret
          exact ⟨rfl, (Below.refl _ _).alloc (Nat.le_refl _) _⟩
        · have gt5 : ¬ s > 64 := t5
          by_cases t4 : c < 32
          · rw [show validP ⟨_, _, _, _, _⟩ = 42 from by rw [validP_eq, if_neg (by omega), if_neg (by omega), if_pos (by omega)]]
            go_enter Try.func91, Try.ntmps91
            go_wp2
            go_ret
            exact ⟨rfl, (Below.refl _ _).alloc (Nat.le_refl _) _⟩
          · by_cases t3 : 126 < c
            · rw [show validP ⟨_, _, _, _, _⟩ = 42 from by rw [validP_eq, if_neg (by omega), if_neg (by omega), if_pos (by omega)]]
              have g : c > 126 := t3
              go_enter Try.func91, Try.ntmps91
              go_wp2
              go_ret
              exact ⟨rfl, (Below.refl _ _).alloc (Nat.le_refl _) _⟩
            · have gt3 : ¬ c > 126 := t3
              by_cases t2 : p < 0
              · rw [show validP ⟨_, _, _, _, _⟩ = 43 from by rw [validP_eq, if_neg (by omega), if_neg (by omega), if_neg (by omega), if_neg (by omega), if_neg (by omega), if_pos (by omega)]]
                go_enter Try.func91, Try.ntmps91
                go_wp2
                go_ret
                exact ⟨rfl, (Below.refl _ _).alloc (Nat.le_refl _) _⟩
              · by_cases t1 : 4096 ≤ p
                · rw [show validP ⟨_, _, _, _, _⟩ = 43 from by rw [validP_eq, if_neg (by omega), if_neg (by omega), if_neg (by omega), if_neg (by omega), if_neg (by omega), if_pos (by omega)]]
                  have g : p ≥ 4096 := t1
                  go_enter Try.func91, Try.ntmps91
                  go_wp2
                  go_ret
                  exact ⟨rfl, (Below.refl _ _).alloc (Nat.le_refl _) _⟩
                · have gt1 : ¬ p ≥ 4096 := t1
                  rw [show validP ⟨_, _, _, _, _⟩ = 0 from by rw [validP_eq, if_neg (by omega), if_neg (by omega), if_neg (by omega), if_neg (by omega), if_neg (by omega), if_neg (by omega)]]
                  go_enter Try.func91, Try.ntmps91
                  go_wp2
                  go_ret
                  exact ⟨rfl, (Below.refl _ _).alloc (Nat.le_refl _) _⟩

set_option maxHeartbeats 4000000 in
theorem rvalid_del (k p c l s : Int) (w : World) (hk : k = 2) :
    Calls Try.prog 91 #[.agg #[.int .i64 k, .int .i64 p, .int .u8 c, .int .i64 l, .int .i64 s]] w fun e w' => e = .returned (.int .i64 (validP ⟨k, p, c, l, s⟩)) ∧ Below w.heap.size w w' := by
  subst hk
  by_cases t7 : l < 1
  · rw [show validP ⟨_, _, _, _, _⟩ = 41 from by rw [validP_eq, if_neg (by omega), if_pos (by omega)]]
    go_enter Try.func91, Try.ntmps91
    go_wp2
    go_ret
    exact ⟨rfl, (Below.refl _ _).alloc (Nat.le_refl _) _⟩
  · by_cases t6 : 64 < l
    · rw [show validP ⟨_, _, _, _, _⟩ = 41 from by rw [validP_eq, if_neg (by omega), if_pos (by omega)]]
      have g : l > 64 := t6
      go_enter Try.func91, Try.ntmps91
      go_wp2
      go_ret
      exact ⟨rfl, (Below.refl _ _).alloc (Nat.le_refl _) _⟩
    · have gt6 : ¬ l > 64 := t6
      by_cases t5 : s < 1
      · rw [show validP ⟨_, _, _, _, _⟩ = 41 from by rw [validP_eq, if_neg (by omega), if_pos (by omega)]]
        go_enter Try.func91, Try.ntmps91
        go_wp2
        go_ret
        exact ⟨rfl, (Below.refl _ _).alloc (Nat.le_refl _) _⟩
      · by_cases t4 : 64 < s
        · rw [show validP ⟨_, _, _, _, _⟩ = 41 from by rw [validP_eq, if_neg (by omega), if_pos (by omega)]]
          have g : s > 64 := t4
          go_enter Try.func91, Try.ntmps91
          go_wp2
          go_ret
          exact ⟨rfl, (Below.refl _ _).alloc (Nat.le_refl _) _⟩
        · have gt4 : ¬ s > 64 := t4
          by_cases t3 : c ≠ 0
          · rw [show validP ⟨_, _, _, _, _⟩ = 42 from by rw [validP_eq, if_neg (by omega), if_neg (by omega), if_neg (by omega), if_pos (by omega)]]
            have g : (c != 0) = true := by simpa using t3
            go_enter Try.func91, Try.ntmps91
            go_wp2
            go_ret
            exact ⟨rfl, (Below.refl _ _).alloc (Nat.le_refl _) _⟩
          · have gt3 : c = 0 := by omega
            subst gt3
            by_cases t2 : p < 0
            · rw [show validP ⟨_, _, _, _, _⟩ = 43 from by rw [validP_eq, if_neg (by omega), if_neg (by omega), if_neg (by omega), if_neg (by omega), if_neg (by omega), if_pos (by omega)]]
              go_enter Try.func91, Try.ntmps91
              go_wp2
              go_ret
              exact ⟨rfl, (Below.refl _ _).alloc (Nat.le_refl _) _⟩
            · by_cases t1 : 4096 ≤ p
              · rw [show validP ⟨_, _, _, _, _⟩ = 43 from by rw [validP_eq, if_neg (by omega), if_neg (by omega), if_neg (by omega), if_neg (by omega), if_neg (by omega), if_pos (by omega)]]
                have g : p ≥ 4096 := t1
                go_enter Try.func91, Try.ntmps91
                go_wp2
                go_ret
                exact ⟨rfl, (Below.refl _ _).alloc (Nat.le_refl _) _⟩
              · have gt1 : ¬ p ≥ 4096 := t1
                rw [show validP ⟨_, _, _, _, _⟩ = 0 from by rw [validP_eq, if_neg (by omega), if_neg (by omega), if_neg (by omega), if_neg (by omega), if_neg (by omega), if_neg (by omega)]]
                go_enter Try.func91, Try.ntmps91
                go_wp2
                go_ret
                exact ⟨rfl, (Below.refl _ _).alloc (Nat.le_refl _) _⟩

set_option maxHeartbeats 4000000 in
theorem rvalid_any (k p c l s : Int) (w : World) :
    Calls Try.prog 91 #[.agg #[.int .i64 k, .int .i64 p, .int .u8 c, .int .i64 l, .int .i64 s]] w fun e w' => e = .returned (.int .i64 (validP ⟨k, p, c, l, s⟩)) ∧ Below w.heap.size w w' := by
  by_cases h1 : k < 0
  · rw [show validP ⟨k, p, c, l, s⟩ = 40 from by rw [validP_eq, if_pos (by omega)]]
    go_enter Try.func91, Try.ntmps91
    go_wp2
    go_ret
    exact ⟨rfl, (Below.refl _ _).alloc (Nat.le_refl _) _⟩
  · by_cases h2 : 2 < k
    · rw [show validP ⟨k, p, c, l, s⟩ = 40 from by rw [validP_eq, if_pos (by omega)]]
      have g : k > 2 := h2
      go_enter Try.func91, Try.ntmps91
      go_wp2
      go_ret
      exact ⟨rfl, (Below.refl _ _).alloc (Nat.le_refl _) _⟩
    · have hk : k = 0 ∨ k = 1 ∨ k = 2 := by omega
      rcases hk with hk | hk | hk
      · exact rvalid_nop k p c l s w hk
      · exact rvalid_ins k p c l s w hk
      · exact rvalid_del k p c l s w hk

set_option maxHeartbeats 1000000 in
theorem rfits_first (n k p c l s : Int) (w : World) (v : Int) (HV : Hid (validP ⟨k, p, c, l, s⟩ = v)) (hv : (v != 0) = true) :
    Calls Try.prog 75 #[.int .i64 n, .agg #[.int .i64 k, .int .i64 p, .int .u8 c, .int .i64 l, .int .i64 s]] w fun e w' => e = .returned (.int .i64 v) ∧ Below w.heap.size w w' := by
  go_enter Try.func75, Try.ntmps75
  go_wp2_with fail
  refine (rvalid_any _ _ _ _ _ _).mono ?_
  rintro e w1 ⟨rfl, b1⟩
  rw [HV.out]
  have B1 := hd (out_below b1)
  have c1 := out_cell b1 1
  clear b1
  go_wp2
  go_ret
  exact ⟨rfl, B1.out⟩

set_option maxHeartbeats 4000000 in
theorem rfits_in (n k p c l s : Int) (w : World) (HV : Hid (validP ⟨k, p, c, l, s⟩ = 0)) (r : Int) (hk : k = 0 ∨ k = 1 ∨ k = 2) (hr : r = if n < 0 ∨ 4096 < n ∨ (k = 1 ∧ n = 4096) then 44 else if (k = 1 ∧ n < p) ∨ (k = 2 ∧ n ≤ p) then 43 else 0) :
    Calls Try.prog 75 #[.int .i64 n, .agg #[.int .i64 k, .int .i64 p, .int .u8 c, .int .i64 l, .int .i64 s]] w fun e w' => e = .returned (.int .i64 r) ∧ Below w.heap.size w w' := by
  by_cases g1 : n < 0
  · rw [if_pos (by omega)] at hr
    subst hr
    go_enter Try.func75, Try.ntmps75
    go_wp2_with fail
    refine (rvalid_any _ _ _ _ _ _).mono ?_
    rintro e w1 ⟨rfl, b1⟩
    rw [HV.out]
    have B1 := hd (out_below b1)
    have c0 := out_cell b1 0
    have c1 := out_cell b1 1
    simp at c0 c1
    clear b1
    go_wp2
    go_ret
    exact ⟨rfl, B1.out⟩
  · by_cases g2 : 4096 < n
    · rw [if_pos (by omega)] at hr
      subst hr
      have g3 : n > 4096 := g2
      go_enter Try.func75, Try.ntmps75
      go_wp2_with fail
      refine (rvalid_any _ _ _ _ _ _).mono ?_
      rintro e w1 ⟨rfl, b1⟩
      rw [HV.out]
      have B1 := hd (out_below b1)
      have c0 := out_cell b1 0
      have c1 := out_cell b1 1
      simp at c0 c1
      clear b1
      go_wp2
      go_ret
      exact ⟨rfl, B1.out⟩
    · have g3 : ¬ n > 4096 := g2
      rcases hk with hk | hk | hk <;> subst hk
      · rw [if_neg (by omega), if_neg (by omega)] at hr
        subst hr
        go_enter Try.func75, Try.ntmps75
        go_wp2_with fail
        refine (rvalid_any _ _ _ _ _ _).mono ?_
        rintro e w1 ⟨rfl, b1⟩
        rw [HV.out]
        have B1 := hd (out_below b1)
        have c0 := out_cell b1 0
        have c1 := out_cell b1 1
        simp at c0 c1
        clear b1
        go_wp2
        go_ret
        exact ⟨rfl, B1.out⟩
      · by_cases g4 : n = 4096
        · rw [if_pos (by omega)] at hr
          subst hr
          subst g4
          go_enter Try.func75, Try.ntmps75
          go_wp2_with fail
          refine (rvalid_any _ _ _ _ _ _).mono ?_
          rintro e w1 ⟨rfl, b1⟩
          rw [HV.out]
          have B1 := hd (out_below b1)
          have c0 := out_cell b1 0
          have c1 := out_cell b1 1
          simp at c0 c1
          clear b1
          go_wp2
          go_ret
          exact ⟨rfl, B1.out⟩
        · have g7 : (n == 4096) = false := by simpa using g4
          by_cases g5 : n < p
          · rw [if_neg (by omega), if_pos (by omega)] at hr
            subst hr
            have g6 : p > n := g5
            go_enter Try.func75, Try.ntmps75
            go_wp2_with fail
            refine (rvalid_any _ _ _ _ _ _).mono ?_
            rintro e w1 ⟨rfl, b1⟩
            rw [HV.out]
            have B1 := hd (out_below b1)
            have c0 := out_cell b1 0
            have c1 := out_cell b1 1
            simp at c0 c1
            clear b1
            go_wp2
            go_ret
            exact ⟨rfl, B1.out⟩
          · rw [if_neg (by omega), if_neg (by omega)] at hr
            subst hr
            have g6 : ¬ p > n := g5
            go_enter Try.func75, Try.ntmps75
            go_wp2_with fail
            refine (rvalid_any _ _ _ _ _ _).mono ?_
            rintro e w1 ⟨rfl, b1⟩
            rw [HV.out]
            have B1 := hd (out_below b1)
            have c0 := out_cell b1 0
            have c1 := out_cell b1 1
            simp at c0 c1
            clear b1
            go_wp2
            go_ret
            exact ⟨rfl, B1.out⟩
      · by_cases g5 : n ≤ p
        · rw [if_neg (by omega), if_pos (by omega)] at hr
          subst hr
          have g6 : p ≥ n := g5
          go_enter Try.func75, Try.ntmps75
          go_wp2_with fail
          refine (rvalid_any _ _ _ _ _ _).mono ?_
          rintro e w1 ⟨rfl, b1⟩
          rw [HV.out]
          have B1 := hd (out_below b1)
          have c0 := out_cell b1 0
          have c1 := out_cell b1 1
          simp at c0 c1
          clear b1
          go_wp2
          go_ret
          exact ⟨rfl, B1.out⟩
        · rw [if_neg (by omega), if_neg (by omega)] at hr
          subst hr
          have g6 : ¬ p ≥ n := g5
          go_enter Try.func75, Try.ntmps75
          go_wp2_with fail
          refine (rvalid_any _ _ _ _ _ _).mono ?_
          rintro e w1 ⟨rfl, b1⟩
          rw [HV.out]
          have B1 := hd (out_below b1)
          have c0 := out_cell b1 0
          have c1 := out_cell b1 1
          simp at c0 c1
          clear b1
          go_wp2
          go_ret
          exact ⟨rfl, B1.out⟩

theorem rfits_any (n k p c l s : Int) (w : World) :
    Calls Try.prog 75 #[.int .i64 n, .agg #[.int .i64 k, .int .i64 p, .int .u8 c, .int .i64 l, .int .i64 s]] w fun e w' => e = .returned (.int .i64 (fitsP n ⟨k, p, c, l, s⟩)) ∧ Below w.heap.size w w' := by
  by_cases hv : validP ⟨k, p, c, l, s⟩ = 0
  · refine rfits_in n k p c l s w hv _ (validP_zero hv).1 ?_
    unfold fitsP
    rw [if_neg (by omega)]
    by_cases h1 : n < 0 ∨ 4096 < n ∨ (k = 1 ∧ n = 4096)
    · have h2 : inR n 0 4096 = false ∨ (k = 1 ∧ n = 4096) := by rw [inR_false]; omega
      rw [if_pos h1]
      exact if_pos h2
    · have h2 : ¬ (inR n 0 4096 = false ∨ (k = 1 ∧ n = 4096)) := by rw [inR_false]; omega
      rw [if_neg h1]
      exact if_neg h2
  · rw [show fitsP n ⟨k, p, c, l, s⟩ = validP ⟨k, p, c, l, s⟩ from by unfold fitsP; rw [if_pos hv]]
    exact rfits_first n k p c l s w _ rfl (by simpa using hv)

end Go.Proofs.Ytlmgogonghafeab
