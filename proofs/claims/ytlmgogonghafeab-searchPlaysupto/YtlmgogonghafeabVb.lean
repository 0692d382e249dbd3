/-
  Fits, of the program and of the document; Valid of the document.
-/
import Derived.Test.YtlmgogonghafeabVa
import Derived.Deep.QuietTactic
import Derived.BigQuiet
namespace Go.Proofs.Ytlmgogonghafeab
open Go.RowKit
set_option linter.unusedVariables false

theorem out_cell {w w1 : World} {o : Obj} (b : Below (w.alloc o).heap.size (w.alloc o) w1) (i : Nat) : w1.cell? ⟨w.heap.size, i, none⟩ = (w.alloc o).cell? ⟨w.heap.size, i, none⟩ :=
  b.cell (p := ⟨w.heap.size, i, none⟩) (by simp)

theorem out_below {w w1 : World} {o : Obj} (b : Below (w.alloc o).heap.size (w.alloc o) w1) : Below w.heap.size w w1 :=
  ((Below.refl _ _).alloc (Nat.le_refl _) _).trans (b.mono (by simp))

set_option maxHeartbeats 1000000 in
theorem fits_first (n k p c l s v : Int) (w : World) (H0 : Hid (0 ≤ c)) (H1 : Hid (c ≤ 255)) (HV : Hid (validP ⟨k, p, c, l, s⟩ = v)) (hv : (v != 0) = true) :
    Calls Try.prog 21 #[.int .i64 n, .agg #[.int .i64 k, .int .i64 p, .int .u8 c, .int .i64 l, .int .i64 s]] w fun e w' => e = .returned (.int .i64 v) ∧ Below w.heap.size w w' := by
  go_enter Try.func21, Try.ntmps21
  go_wp2_with fail
  refine (valid_any _ _ _ _ _ _ H0.out H1.out).mono ?_
  rintro e w1 ⟨rfl, b1⟩
  rw [HV.out]
  have B1 := hd (out_below b1)
  clear b1
  go_wp2
  go_ret
  exact ⟨rfl, B1.out⟩

set_option maxHeartbeats 1000000 in
theorem fits_off (n k p c l s : Int) (w : World) (H0 : Hid (0 ≤ c)) (H1 : Hid (c ≤ 255)) (HV : Hid (validP ⟨k, p, c, l, s⟩ = 0)) (HN : Hid (inR n 0 4096 = false)) :
    Calls Try.prog 21 #[.int .i64 n, .agg #[.int .i64 k, .int .i64 p, .int .u8 c, .int .i64 l, .int .i64 s]] w fun e w' => e = .returned (.int .i64 44) ∧ Below w.heap.size w w' := by
  go_enter Try.func21, Try.ntmps21
  go_wp2_with fail
  refine (valid_any _ _ _ _ _ _ H0.out H1.out).mono ?_
  rintro e w1 ⟨rfl, b1⟩
  rw [HV.out]
  have B1 := hd (out_below b1)
  have c0 := out_cell b1 0
  have c1 := out_cell b1 1
  simp at c0 c1
  clear b1
  go_wp2_with fail
  go_quiet (fail)
  go_wp2_with fail
  refine (within_any n 0 4096 _).mono ?_
  rintro e w2 ⟨rfl, rfl⟩
  rw [HN.out]
  go_wp2
  go_ret
  exact ⟨rfl, below_drewN B1.out _⟩

set_option maxHeartbeats 4000000 in
theorem fits_in (n k p c l s r : Int) (w : World) (H0 : Hid (0 ≤ c)) (H1 : Hid (c ≤ 255)) (HV : Hid (validP ⟨k, p, c, l, s⟩ = 0)) (HN : Hid (inR n 0 4096 = true)) (hk : k = 0 ∨ k = 1 ∨ k = 2)
    (hr : r = if k = 1 ∧ n = 4096 then 44 else if (k = 1 ∧ n < p) ∨ (k = 2 ∧ n ≤ p) then 43 else 0) :
    Calls Try.prog 21 #[.int .i64 n, .agg #[.int .i64 k, .int .i64 p, .int .u8 c, .int .i64 l, .int .i64 s]] w fun e w' => e = .returned (.int .i64 r) ∧ Below w.heap.size w w' := by
  rcases hk with hk | hk | hk <;> subst hk
  · simp at hr
    subst hr
    go_enter Try.func21, Try.ntmps21
    go_wp2_with fail
    refine (valid_any _ _ _ _ _ _ H0.out H1.out).mono ?_
    rintro e w1 ⟨rfl, b1⟩
    rw [HV.out]
    have B1 := hd (out_below b1)
    have c0 := out_cell b1 0
    have c1 := out_cell b1 1
    simp at c0 c1
    clear b1
    go_wp2_with fail
    go_quiet (fail)
    go_wp2_with fail
    refine (within_any n 0 4096 _).mono ?_
    rintro e w2 ⟨rfl, rfl⟩
    rw [HN.out]
    go_wp2
    go_ret
    exact ⟨rfl, below_drewN B1.out _⟩
  · by_cases g1 : n = 4096
    · subst g1
      simp at hr
      subst hr
      go_enter Try.func21, Try.ntmps21
      go_wp2_with fail
      refine (valid_any _ _ _ _ _ _ H0.out H1.out).mono ?_
      rintro e w1 ⟨rfl, b1⟩
      rw [HV.out]
      have B1 := hd (out_below b1)
      have c0 := out_cell b1 0
      have c1 := out_cell b1 1
      simp at c0 c1
      clear b1
      go_wp2_with fail
      go_quiet (fail)
      go_wp2_with fail
      refine (within_any _ 0 4096 _).mono ?_
      rintro e w2 ⟨rfl, rfl⟩
      rw [HN.out]
      go_wp2
      go_ret
      exact ⟨rfl, below_drewN B1.out _⟩
    · by_cases g2 : n < p
      · simp [g1, g2] at hr
        subst hr
        have g3 : p > n := g2
        go_enter Try.func21, Try.ntmps21
        go_wp2_with fail
        refine (valid_any _ _ _ _ _ _ H0.out H1.out).mono ?_
        rintro e w1 ⟨rfl, b1⟩
        rw [HV.out]
        have B1 := hd (out_below b1)
        have c0 := out_cell b1 0
        have c1 := out_cell b1 1
        simp at c0 c1
        clear b1
        go_wp2_with fail
        go_quiet (fail)
        go_wp2_with fail
        refine (within_any n 0 4096 _).mono ?_
        rintro e w2 ⟨rfl, rfl⟩
        rw [HN.out]
        go_wp2
        go_ret
        exact ⟨rfl, below_drewN B1.out _⟩
      · simp [g1, g2] at hr
        subst hr
        have g3 : ¬ p > n := g2
        go_enter Try.func21, Try.ntmps21
        go_wp2_with fail
        refine (valid_any _ _ _ _ _ _ H0.out H1.out).mono ?_
        rintro e w1 ⟨rfl, b1⟩
        rw [HV.out]
        have B1 := hd (out_below b1)
        have c0 := out_cell b1 0
        have c1 := out_cell b1 1
        simp at c0 c1
        clear b1
        go_wp2_with fail
        go_quiet (fail)
        go_wp2_with fail
        refine (within_any n 0 4096 _).mono ?_
        rintro e w2 ⟨rfl, rfl⟩
        rw [HN.out]
        go_wp2
        go_ret
        exact ⟨rfl, below_drewN B1.out _⟩
  · by_cases g2 : n ≤ p
    · simp [g2] at hr
      subst hr
      have g3 : p ≥ n := g2
      go_enter Try.func21, Try.ntmps21
      go_wp2_with fail
      refine (valid_any _ _ _ _ _ _ H0.out H1.out).mono ?_
      rintro e w1 ⟨rfl, b1⟩
      rw [HV.out]
      have B1 := hd (out_below b1)
      have c0 := out_cell b1 0
      have c1 := out_cell b1 1
      simp at c0 c1
      clear b1
      go_wp2_with fail
      go_quiet (fail)
      go_wp2_with fail
      refine (within_any n 0 4096 _).mono ?_
      rintro e w2 ⟨rfl, rfl⟩
      rw [HN.out]
      go_wp2
      go_ret
      exact ⟨rfl, below_drewN B1.out _⟩
    · simp [g2] at hr
      subst hr
      have g3 : ¬ p ≥ n := g2
      go_enter Try.func21, Try.ntmps21
      go_wp2_with fail
      refine (valid_any _ _ _ _ _ _ H0.out H1.out).mono ?_
      rintro e w1 ⟨rfl, b1⟩
      rw [HV.out]
      have B1 := hd (out_below b1)
      have c0 := out_cell b1 0
      have c1 := out_cell b1 1
      simp at c0 c1
      clear b1
      go_wp2_with fail
      go_quiet (fail)
      go_wp2_with fail
      refine (within_any n 0 4096 _).mono ?_
      rintro e w2 ⟨rfl, rfl⟩
      rw [HN.out]
      go_wp2
      go_ret
      exact ⟨rfl, below_drewN B1.out _⟩

theorem fits_any (n k p c l s : Int) (w : World) (h0 : 0 ≤ c) (h1 : c ≤ 255) :
    Calls Try.prog 21 #[.int .i64 n, .agg #[.int .i64 k, .int .i64 p, .int .u8 c, .int .i64 l, .int .i64 s]] w fun e w' => e = .returned (.int .i64 (fitsP n ⟨k, p, c, l, s⟩)) ∧ Below w.heap.size w w' := by
  by_cases hv : validP ⟨k, p, c, l, s⟩ = 0
  · have hk := (validP_zero hv).1
    cases hn : inR n 0 4096
    · rw [show fitsP n ⟨k, p, c, l, s⟩ = 44 from by unfold fitsP; rw [if_neg (by omega), if_pos (.inl hn)]]
      exact fits_off n k p c l s w h0 h1 hv hn
    · refine fits_in n k p c l s _ w h0 h1 hv hn hk ?_
      unfold fitsP
      rw [if_neg (by omega)]
      simp [hn]
  · rw [show fitsP n ⟨k, p, c, l, s⟩ = validP ⟨k, p, c, l, s⟩ from by unfold fitsP; rw [if_pos hv]]
    exact fits_first n k p c l s _ w h0 h1 rfl (by simpa using hv)

end Go.Proofs.Ytlmgogonghafeab
