/-
  Of the laws: within, operation, eq.
-/
import Derived.Test.YtibnlfdnnlbeeaaDoorVj
import Derived.Deep.QuietTactic
import Derived.BigQuiet
namespace Go.Proofs.YtibnlfdnnlbeeaaDoor
open Go.RowKit
set_option linter.unusedVariables false

set_option maxHeartbeats 2000000 in
theorem within_any (v lo hi : Int) (w : World) (h0 : 0 ≤ lo) (h1 : lo ≤ hi) (h2 : hi ≤ 4096) (hv : -9223372036854775808 ≤ v ∧ v ≤ 9223372036854775807) :
    Calls Tryd.prog 18 #[.int .i64 v, .int .i64 lo, .int .i64 hi] w fun e w' => e = .returned (.int .i64 (withinP v lo hi)) ∧ w' = w := by
  obtain ⟨r, hr⟩ : ∃ r, withinP v lo hi = r := ⟨_, rfl⟩
  rw [hr]
  have HR := hd hr
  clear hr
  obtain ⟨n, hn⟩ : ∃ n, hi - lo + 1 = n := ⟨_, rfl⟩
  have n1 : 1 ≤ n ∧ n ≤ 4097 := by omega
  have hnz : n ≠ 0 := by omega
  by_cases c1 : lo ≤ v ∧ v ≤ hi
  · obtain rfl : r = v := HR.out.symm.trans (within_id v lo hi c1)
    obtain ⟨c1, c2⟩ := c1
    go_enter Tryd.func18, Tryd.ntmps18
    go_wp2
    go_ret
    exact ⟨rfl, rfl⟩
  · have hr : r = lo + v % n := by rw [← HR.out, withinP, if_neg c1, hn]
    have e0 : 0 ≤ v % n := Int.emod_nonneg _ hnz
    have e1 : v % n < n := Int.emod_lt_of_pos _ (by omega)
    have HN := hd hn
    by_cases c0 : 0 ≤ v
    · have htm : v.tmod n = v % n := Int.tmod_eq_emod_of_nonneg c0
      obtain ⟨x, hx⟩ : ∃ x, v % n = x := ⟨_, rfl⟩
      rw [hx] at hr e0 e1 htm
      clear hx
      subst hr
      by_cases c2 : lo ≤ v
      · have c3 : ¬ v ≤ hi := fun h => c1 ⟨c2, h⟩
        clear c1
        go_enter Tryd.func18, Tryd.ntmps18
        go_wp2
        go_ret
        exact ⟨rfl, rfl⟩
      · clear c1
        go_enter Tryd.func18, Tryd.ntmps18
        go_wp2
        go_ret
        exact ⟨rfl, rfl⟩
    · have c2 : ¬ lo ≤ v := by omega
      by_cases hdv : n ∣ v
      · have hz : v % n = 0 := Int.emod_eq_zero_of_dvd hdv
        have htm : v.tmod n = 0 := Int.tmod_eq_zero_of_dvd hdv
        rw [hz, Int.add_zero] at hr
        subst hr
        clear c1 e0 e1 hz hdv
        go_enter Tryd.func18, Tryd.ntmps18
        go_wp2
        go_ret
        exact ⟨by first | rfl | simp, rfl⟩
      · have htm : v.tmod n = v % n - n := by
          have := @Int.tmod_eq_emod v n
          rw [if_neg (by omega)] at this
          omega
        obtain ⟨x, hx⟩ : ∃ x, v % n = x := ⟨_, rfl⟩
        rw [hx] at hr e0 e1 htm
        clear hx hdv c1
        have hlt : x - n < 0 := by omega
        have hb : x - n + hi - lo + 1 = x := by omega
        subst hr
        go_enter Tryd.func18, Tryd.ntmps18
        go_wp2
        go_ret
        exact ⟨by first | rfl | (simp; omega), rfl⟩

set_option maxHeartbeats 1000000 in
theorem eq_true (a a' : Option Addr) (n c c' : Nat) (xs : List Int) (w : World) (h : IsB w a n c xs) (h' : IsB w a' n c' xs) :
    Calls Tryd.prog 12 #[.slice a n c, .slice a' n c'] w fun e w' => e = .returned (.bool true) ∧ ∃ m, w' = w.drewN m := by
  obtain ⟨h1, h2, h3, h4⟩ := h
  obtain ⟨-, h2', h3', h4'⟩ := h'
  go_enter Tryd.func12, Tryd.ntmps12
  go_wp2
  go_loopw [5] (fun i wr => ∃ k m : Nat, k ≤ n ∧ i = .int .i64 k ∧ wr = w.drewN m) (fun i _ => n - (intOf i).toNat)
  case atStart => exact ⟨0, 0, Nat.zero_le _, rfl, rfl⟩
  case round =>
    obtain ⟨k, m, hk, rfl, rfl⟩ := hrel
    by_cases hlt : k < n
    · obtain ⟨b, off, rfl, hb, hc⟩ := h4 (by omega)
      obtain ⟨b', off', rfl, hb', hc'⟩ := h4' (by omega)
      have e1 := hc k hlt
      have e2 := hc' k hlt
      have hi : (k : Int) < (n : Int) := by omega
      clear hc hc' h4 h4'
      go_wp2
      go_quiet (fail)
      go_wp2
      exact ⟨⟨k + 1, m + nq, by omega, by go_num, rfl⟩, by simp [intOf]; omega⟩
    · clear h4 h4'
      go_wp2
      go_ret
      exact ⟨rfl, m, rfl⟩


def I64 (v : Int) : Prop := -9223372036854775808 ≤ v ∧ v ≤ 9223372036854775807

set_option maxHeartbeats 4000000 in
theorem operation_any (k p c cl sq : Int) (w : World) (hk : I64 k) (hp : I64 p) (hc : 0 ≤ c ∧ c ≤ 255) (hl : I64 cl) (hs : I64 sq) :
    Calls Tryd.prog 19 #[.agg #[.int .i64 k, .int .i64 p, .int .u8 c, .int .i64 cl, .int .i64 sq]] w fun e w' => e = .returned (.agg #[.int .i64 (withinP k 0 2), .int .i64 (posP (withinP k 0 2) p), .int .u8 (chP (withinP k 0 2) c), .int .i64 (withinP cl 1 64), .int .i64 (withinP sq 1 64)]) ∧ Below w.heap.size w w' := by
  have C1 := hd (within_any k 0 2 · (by omega) (by omega) (by omega) hk)
  have C2 := hd (within_any cl 1 64 · (by omega) (by omega) (by omega) hl)
  have C3 := hd (within_any sq 1 64 · (by omega) (by omega) (by omega) hs)
  have C4 := hd (within_any p 0 4095 · (by omega) (by omega) (by omega) hp)
  have C5 := hd (within_any c 32 126 · (by omega) (by omega) (by omega) (by omega))
  have r5 := within_rng c 32 126 (by omega)
  generalize withinP k 0 2 = K at *
  generalize withinP cl 1 64 = L at *
  generalize withinP sq 1 64 = S at *
  generalize hP : withinP p 0 4095 = P at *
  generalize hC : withinP c 32 126 = C at *
  have hm : C % 256 = C := by omega
  obtain ⟨pp, hpp⟩ : ∃ pp, posP K p = pp := ⟨_, rfl⟩
  obtain ⟨cc, hcc⟩ : ∃ cc, chP K c = cc := ⟨_, rfl⟩
  have HPP : Hid (pp = if K = 0 then 0 else P) := hd (by rw [← hpp, posP, hP])
  have HCC : Hid (cc = if K = 1 then C else 0) := hd (by rw [← hcc, chP, hC])
  rw [hpp, hcc]
  clear hpp hcc hP hC hk hp hl hs
  go_enter Tryd.func19, Tryd.ntmps19
  go_wp2_with fail
  refine (C1.out _).mono ?_
  rintro e w1 ⟨rfl, rfl⟩
  go_wp2_with fail
  refine (C2.out _).mono ?_
  rintro e w2 ⟨rfl, rfl⟩
  go_wp2_with fail
  refine (C3.out _).mono ?_
  rintro e w3 ⟨rfl, rfl⟩
  by_cases k0 : K = 0
  · obtain rfl : pp = 0 := by rw [HPP.out, if_pos k0]
    have k1 : ¬ K = 1 := by omega
    obtain rfl : cc = 0 := by rw [HCC.out, if_neg k1]
    go_wp2
    refine bodyPost_ret (v := .agg #[.int .i64 0, .int .i64 0, .int .u8 0, .int .i64 L, .int .i64 S]) (by simp [results, Tryd.results19, go_sem]) rfl ?_
    exact ⟨by simp [k0], ((Below.refl _ _).alloc (Nat.le_refl _) _).alloc (by simp) _⟩
  · obtain rfl : pp = P := by rw [HPP.out, if_neg k0]
    go_wp2_with fail
    refine (C4.out _).mono ?_
    rintro e w4 ⟨rfl, rfl⟩
    by_cases k1 : K = 1
    · obtain rfl : cc = C := by rw [HCC.out, if_pos k1]
      go_wp2_with fail
      refine (C5.out _).mono ?_
      rintro e w5 ⟨rfl, rfl⟩
      go_wp2
      refine bodyPost_ret (v := .agg #[.int .i64 1, .int .i64 pp, .int .u8 cc, .int .i64 L, .int .i64 S]) (by simp [results, Tryd.results19, go_sem]) rfl ?_
      exact ⟨by simp [k1], ((Below.refl _ _).alloc (Nat.le_refl _) _).alloc (by simp) _⟩
    · obtain rfl : cc = 0 := by rw [HCC.out, if_neg k1]
      go_wp2
      refine bodyPost_ret (v := .agg #[.int .i64 K, .int .i64 pp, .int .u8 0, .int .i64 L, .int .i64 S]) (by simp [results, Tryd.results19, go_sem]) rfl ?_
      exact ⟨rfl, ((Below.refl _ _).alloc (Nat.le_refl _) _).alloc (by simp) _⟩

end Go.Proofs.YtibnlfdnnlbeeaaDoor
