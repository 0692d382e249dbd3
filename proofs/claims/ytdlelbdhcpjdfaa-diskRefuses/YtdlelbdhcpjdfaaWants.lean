/-
  wants.
-/
import Derived.Test.YtdlelbdhcpjdfaaLc
namespace Go.Proofs.Ytdlelbdhcpjdfaa
open Go.RowKit
set_option linter.unusedVariables false

set_option maxRecDepth 100000 in
set_option maxHeartbeats 4000000 in
theorem wants_any (B : List Int) (L s : Nat) (o : OpV) (xa : Option Addr) (xn xc : Nat) (w : World) (hL : B.length = L) (hLm : L ≤ 262144) (hs : s ≤ L) (hxn : o.xs.length = xn) (hxb : xn ≤ 140737488351232) :
    Calls Try.prog 24 #[opVal o xa xn xc, .int .i64 L, .int .i64 s] w fun x w' => x = .returned (.int .i64 (stepP o B s).e) ∧ Below w.heap.size w w' := by
  obtain ⟨kind, site, a, b, c, xs⟩ := o
  have HB : Hid (Below w.heap.size w (w.alloc (.cells #[.int .i64 kind, .int .i64 site, .int .i64 a, .int .i64 b, .int .i64 c, .slice xa xn xc] 48))) := (Below.refl _ _).alloc (Nat.le_refl _) _
  unfold opVal stepP
  simp only [] at hxn ⊢
  by_cases k3 : kind = 3
  · subst k3
    rw [if_pos rfl]
    unfold appP
    by_cases h : B.length + xs.length ≤ 262144
    · rw [if_pos h]
      have i1 : ¬ (262144 : Int) - (L : Int) < (xn : Int) := by omega
      clear h
      go_enter Try.func24, Try.ntmps24
      go_wp2
      go_ret
      exact ⟨rfl, HB.out⟩
    · rw [if_neg h]
      have i1 : (262144 : Int) - (L : Int) < (xn : Int) := by omega
      clear h
      go_enter Try.func24, Try.ntmps24
      go_wp2
      go_ret
      exact ⟨rfl, HB.out⟩
  · rw [if_neg k3]
    by_cases k10 : kind = 10
    · subst k10
      rw [if_pos rfl]
      unfold appP
      have hfl := hd (fillN_le a)
      by_cases h : B.length + (List.replicate (fillN a) (byteOf b)).length ≤ 262144
      · rw [if_pos h]
        rw [rep_len] at h
        have i1 : ¬ (262144 : Int) - (L : Int) < (fillN a : Int) := by omega
        clear h
        go_enter Try.func24, Try.ntmps24
        go_wp2_with fail
        refine (filled_any a 0 _).mono ?_
        rintro e w1 ⟨v, rfl, hN, hb⟩
        obtain ⟨g, rfl, -, -⟩ := hN.isB (by have := hfl.out; omega)
        have B1 := hd (HB.out.trans (hb.mono HB.out.size))
        clear hN hb
        go_wp2
        go_ret
        exact ⟨rfl, B1.out⟩
      · rw [if_neg h]
        rw [rep_len] at h
        have i1 : (262144 : Int) - (L : Int) < (fillN a : Int) := by omega
        clear h
        go_enter Try.func24, Try.ntmps24
        go_wp2_with fail
        refine (filled_any a 0 _).mono ?_
        rintro e w1 ⟨v, rfl, hN, hb⟩
        obtain ⟨g, rfl, -, -⟩ := hN.isB (by have := hfl.out; omega)
        have B1 := hd (HB.out.trans (hb.mono HB.out.size))
        clear hN hb
        go_wp2
        go_ret
        exact ⟨rfl, B1.out⟩
    · rw [if_neg k10]
      by_cases k4 : kind = 4
      · subst k4
        rw [if_pos rfl]
        go_enter Try.func24, Try.ntmps24
        go_wp2
        go_ret
        exact ⟨rfl, HB.out⟩
      · rw [if_neg k4]
        by_cases k5 : kind = 5
        · subst k5
          rw [if_pos rfl]
          unfold cutP
          by_cases h : 0 ≤ a ∧ a ≤ B.length
          · rw [if_pos h]
            have i1 : ¬ a < 0 := by omega
            have i2 : ¬ (L : Int) < a := by omega
            clear h
            go_enter Try.func24, Try.ntmps24
            go_wp2
            go_ret
            exact ⟨rfl, HB.out⟩
          · rw [if_neg h]
            by_cases i1 : a < 0
            · clear h
              go_enter Try.func24, Try.ntmps24
              go_wp2
              go_ret
              exact ⟨rfl, HB.out⟩
            · have i2 : (L : Int) < a := by omega
              clear h
              go_enter Try.func24, Try.ntmps24
              go_wp2
              go_ret
              exact ⟨rfl, HB.out⟩
        · rw [if_neg k5]
          by_cases k6 : kind = 6
          · subst k6
            rw [if_pos rfl]
            unfold crashP
            have eL : ((B.length - s : Nat) : Int) = (L : Int) - (s : Int) := by omega
            rw [eL]
            by_cases h : a < 0 ∨ (L : Int) - (s : Int) < a
            · rw [if_pos h]
              by_cases i1 : a < 0
              · clear h
                go_enter Try.func24, Try.ntmps24
                go_wp2
                go_ret
                exact ⟨rfl, HB.out⟩
              · have i2 : (L : Int) - (s : Int) < a := by omega
                clear h
                go_enter Try.func24, Try.ntmps24
                go_wp2
                go_ret
                exact ⟨rfl, HB.out⟩
            · rw [if_neg h]
              have i1 : ¬ a < 0 := by omega
              have i2 : ¬ (L : Int) - (s : Int) < a := by omega
              clear h
              by_cases hc : c = 0
              · rw [if_pos hc]
                subst hc
                go_enter Try.func24, Try.ntmps24
                go_wp2
                go_ret
                exact ⟨rfl, HB.out⟩
              · rw [if_neg hc]
                have hcb : (c != 0) = true := by simpa using hc
                by_cases hg : 0 ≤ c ∧ c ≤ 255 ∧ 0 ≤ b ∧ b < a
                · rw [if_pos hg]
                  have q1 : ¬ c < 0 := by omega
                  have q2 : ¬ 255 < c := by omega
                  have q3 : ¬ b < 0 := by omega
                  have q4 : ¬ a ≤ b := by omega
                  clear hg
                  go_enter Try.func24, Try.ntmps24
                  go_wp2
                  go_ret
                  exact ⟨rfl, HB.out⟩
                · rw [if_neg hg]
                  have hor : c < 0 ∨ (¬ c < 0 ∧ 255 < c) ∨ (¬ c < 0 ∧ ¬ 255 < c ∧ b < 0) ∨ (¬ c < 0 ∧ ¬ 255 < c ∧ ¬ b < 0 ∧ a ≤ b) := by omega
                  clear hg
                  rcases hor with q1 | ⟨q1, q2⟩ | ⟨q1, q2, q3⟩ | ⟨q1, q2, q3, q4⟩
                  all_goals (
                    go_enter Try.func24, Try.ntmps24
                    go_wp2
                    go_ret
                    exact ⟨rfl, HB.out⟩)
          · rw [if_neg k6]
            go_enter Try.func24, Try.ntmps24
            go_wp2
            go_ret
            exact ⟨rfl, HB.out⟩

end Go.Proofs.Ytdlelbdhcpjdfaa
