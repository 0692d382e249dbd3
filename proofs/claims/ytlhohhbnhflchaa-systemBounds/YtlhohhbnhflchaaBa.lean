/-
  Bound: the program's, by division, and the document's, window by window.
-/
import Derived.Test.YtlhohhbnhflchaaRows
import Derived.WalkKit
import Derived.WalkSpells
import Derived.WalkLawsBesides
import Derived.ProofKit
namespace Go.Proofs.Ytlhohhbnhflchaa
open Go.RowKit
set_option linter.unusedVariables false

theorem hd {p : Prop} (h : p) : Hid p := h

def Good (b l p : Int) : Prop := 1 ≤ b ∧ b ≤ 1000 ∧ 0 ≤ l ∧ l ≤ 4096 ∧ 0 ≤ p ∧ p ≤ 4096

def boundP (b l p : Int) : Int := b * (8 + 2 * ((p + 7) / 8) + 2 * ((l + p + 7) / 8))

theorem windows_any (x : Int) (w : World) (h0 : 0 ≤ x) (h1 : x ≤ 8192) :
    Calls Try.prog 6 #[.int .i64 x] w fun e w' => e = .returned (.int .i64 ((x + 7) / 8)) ∧ ∃ m, w' = w.drewN m := by
  go_enter Try.func6, Try.ntmps6
  go_wp2
  go_ret
  refine ⟨?_, 0, rfl⟩
  go_num

theorem bad_any (b l p : Int) (w : World) (h : ¬ Good b l p) :
    Calls Try.prog 4 #[.int .i64 b, .int .i64 l, .int .i64 p] w fun e w' => e = .returned (.tuple #[.int .i64 0, .int .i64 163]) ∧ ∃ m, w' = w.drewN m := by
  by_cases h1 : b < 1
  · go_enter Try.func4, Try.ntmps4
    go_wp2
    go_ret2
    exact ⟨rfl, 0, rfl⟩
  by_cases h2 : b > 1000
  · go_enter Try.func4, Try.ntmps4
    go_wp2
    go_ret2
    exact ⟨rfl, 0, rfl⟩
  by_cases h3 : l < 0
  · go_enter Try.func4, Try.ntmps4
    go_wp2
    go_ret2
    exact ⟨rfl, 0, rfl⟩
  by_cases h4 : l > 4096
  · go_enter Try.func4, Try.ntmps4
    go_wp2
    go_ret2
    exact ⟨rfl, 0, rfl⟩
  by_cases h5 : p < 0
  · go_enter Try.func4, Try.ntmps4
    go_wp2
    go_ret2
    exact ⟨rfl, 0, rfl⟩
  by_cases h6 : p > 4096
  · go_enter Try.func4, Try.ntmps4
    go_wp2
    go_ret2
    exact ⟨rfl, 0, rfl⟩
  exact absurd ⟨by omega, by omega, by omega, by omega, by omega, by omega⟩ h

theorem rbad_any (b l p : Int) (w : World) (h : ¬ Good b l p) :
    Calls Try.prog 5 #[.int .i64 b, .int .i64 l, .int .i64 p] w fun e w' => e = .returned (.tuple #[.int .i64 0, .int .i64 163]) ∧ ∃ m, w' = w.drewN m := by
  by_cases h1 : b < 1
  · go_enter Try.func5, Try.ntmps5
    go_wp2
    go_ret2
    exact ⟨rfl, 0, rfl⟩
  by_cases h2 : b > 1000
  · go_enter Try.func5, Try.ntmps5
    go_wp2
    go_ret2
    exact ⟨rfl, 0, rfl⟩
  by_cases h3 : l < 0
  · go_enter Try.func5, Try.ntmps5
    go_wp2
    go_ret2
    exact ⟨rfl, 0, rfl⟩
  by_cases h4 : l > 4096
  · go_enter Try.func5, Try.ntmps5
    go_wp2
    go_ret2
    exact ⟨rfl, 0, rfl⟩
  by_cases h5 : p < 0
  · go_enter Try.func5, Try.ntmps5
    go_wp2
    go_ret2
    exact ⟨rfl, 0, rfl⟩
  by_cases h6 : p > 4096
  · go_enter Try.func5, Try.ntmps5
    go_wp2
    go_ret2
    exact ⟨rfl, 0, rfl⟩
  exact absurd ⟨by omega, by omega, by omega, by omega, by omega, by omega⟩ h

theorem good_any (b l p : Int) (w : World) (h : Good b l p) :
    Calls Try.prog 4 #[.int .i64 b, .int .i64 l, .int .i64 p] w fun e w' => e = .returned (.tuple #[.int .i64 (boundP b l p), .int .i64 0]) ∧ ∃ m, w' = w.drewN m := by
  obtain ⟨h1, h2, h3, h4, h5, h6⟩ := h
  have hx : IntKind.i64.wrap (l + p) = l + p := by rw [IntKind.wrap_i64]; omega
  have hy : boundP b l p ≤ 4120000 ∧ 0 ≤ boundP b l p := by
    unfold boundP
    have e1 : 0 ≤ (8 + 2 * ((p + 7) / 8) + 2 * ((l + p + 7) / 8)) := by omega
    have e2 : (8 + 2 * ((p + 7) / 8) + 2 * ((l + p + 7) / 8)) ≤ 3080 := by omega
    refine ⟨Int.le_trans (Int.mul_le_mul h2 e2 e1 (by omega)) (by omega), Int.mul_nonneg (by omega) e1⟩
  have hz : wrap64 (b * (8 + 2 * ((p + 7) / 8) + 2 * ((l + p + 7) / 8))) = boundP b l p := by unfold boundP at *; rw [Go.IntWalk.wrap64_in _ (by omega)]
  go_enter Try.func4, Try.ntmps4
  go_wp2_with fail
  refine (windows_any p _ h5 (by omega)).mono ?_
  rintro e w1 ⟨rfl, m1, rfl⟩
  go_wp2_with fail
  (try rw [hx])
  refine (windows_any (l + p) _ (by omega) (by omega)).mono ?_
  rintro e w2 ⟨rfl, m2, rfl⟩
  go_wp2
  go_ret2
  exact ⟨by rw [← hz]; rfl, _, rfl⟩

theorem rgood_any (b l p : Int) (w : World) (h : Good b l p) :
    Calls Try.prog 5 #[.int .i64 b, .int .i64 l, .int .i64 p] w fun e w' => e = .returned (.tuple #[.int .i64 (boundP b l p), .int .i64 0]) ∧ ∃ m, w' = w.drewN m := by
  obtain ⟨h1, h2, h3, h4, h5, h6⟩ := h
  have hx : IntKind.i64.wrap (l + p) = l + p := by rw [IntKind.wrap_i64]; omega
  have hy : boundP b l p ≤ 4120000 ∧ 0 ≤ boundP b l p := by
    unfold boundP
    have e1 : 0 ≤ (8 + 2 * ((p + 7) / 8) + 2 * ((l + p + 7) / 8)) := by omega
    have e2 : (8 + 2 * ((p + 7) / 8) + 2 * ((l + p + 7) / 8)) ≤ 3080 := by omega
    refine ⟨Int.le_trans (Int.mul_le_mul h2 e2 e1 (by omega)) (by omega), Int.mul_nonneg (by omega) e1⟩
  have hz : ∀ q, q = (p + 7) / 8 → wrap64 (b * (8 + 2 * q + 2 * ((l + p + 7) / 8))) = boundP b l p := by rintro q rfl; unfold boundP at *; rw [Go.IntWalk.wrap64_in _ (by omega)]
  have HZ := hd hz
  have hz0 : boundP b l p = boundP b l p := rfl
  clear hz
  go_enter Try.func5, Try.ntmps5
  go_wp2
  go_loopw [8, 9] (fun s i wr => ∃ k : Int, s = .int .i64 (8 + 2 * k) ∧ i = .int .i64 (p - 8 * k) ∧ 0 ≤ k ∧ -8 < p - 8 * k ∧ Hid (wr = w)) (fun _ i _ => (intOf i + 8).toNat)
  case atStart => exact ⟨0, by go_num, by go_num, by omega, by omega, hd rfl⟩
  case round =>
    obtain ⟨k, rfl, rfl, e1, e2, G⟩ := hrel
    have hg := G.out
    subst hg
    clear G
    by_cases hlt : 0 < p - 8 * k
    · go_wp2
      exact ⟨⟨k + 1, by go_num, by go_num, by omega, by omega, by first | exact hd rfl | exact hd trivial⟩, by simp [intOf]; omega⟩
    · obtain rfl : k = (p + 7) / 8 := by omega
      have hz1 := HZ.out _ rfl
      clear HZ
      generalize hq : (p + 7) / 8 = q at *
      have q1 : q ≤ 600 := by omega
      have hz := hz1
      clear hz1
      clear hq e2
      go_wp2
      go_loopw [8, 10] (fun s i wq => ∃ k : Int, s = .int .i64 (8 + 2 * q + 2 * k) ∧ i = .int .i64 (l + p - 8 * k) ∧ 0 ≤ k ∧ -8 < l + p - 8 * k ∧ Hid (wq = wr)) (fun _ i _ => (intOf i + 8).toNat)
      case atStart => exact ⟨0, by go_num, by go_num, by omega, by omega, hd rfl⟩
      case round =>
        obtain ⟨k, rfl, rfl, f1, f2, G⟩ := hrel
        have hg := G.out
        subst hg
        clear G
        by_cases hlt : 0 < l + p - 8 * k
        · go_wp2
          exact ⟨⟨k + 1, by go_num, by go_num, by omega, by omega, by first | exact hd rfl | exact hd trivial⟩, by simp [intOf]; omega⟩
        · obtain rfl : k = (l + p + 7) / 8 := by omega
          go_wp2
          go_ret2
          exact ⟨by rw [← hz]; rfl, 0, rfl⟩

theorem walk (a0 : Int) (a1 : Int) (a2 : Int) (w : World) :
    Calls Try.prog 3 #[.int .i64 a0, .int .i64 a1, .int .i64 a2] w fun e w' => e = .returned (.bool true) ∧ ∃ m, w' = w.drewN m := by
  have key : ∃ n c : Int, (∀ w : World, Calls Try.prog 4 #[.int .i64 a0, .int .i64 a1, .int .i64 a2] w fun e w' => e = .returned (.tuple #[.int .i64 n, .int .i64 c]) ∧ ∃ m, w' = w.drewN m) ∧
      (∀ w : World, Calls Try.prog 5 #[.int .i64 a0, .int .i64 a1, .int .i64 a2] w fun e w' => e = .returned (.tuple #[.int .i64 n, .int .i64 c]) ∧ ∃ m, w' = w.drewN m) := by
    by_cases h : Good a0 a1 a2
    · exact ⟨_, _, fun w => good_any a0 a1 a2 w h, fun w => rgood_any a0 a1 a2 w h⟩
    · exact ⟨_, _, fun w => bad_any a0 a1 a2 w h, fun w => rbad_any a0 a1 a2 w h⟩
  obtain ⟨n, c, k1, k2⟩ := key
  have K1 := hd k1
  have K2 := hd k2
  clear k1 k2
  go_enter Try.func3, Try.ntmps3
  go_wp2_with fail
  refine (K1.out _).mono ?_
  rintro e w1 ⟨rfl, m1, rfl⟩
  go_wp2_with fail
  refine (K2.out _).mono ?_
  rintro e w2 ⟨rfl, m2, rfl⟩
  go_wp2
  go_ret
  exact ⟨rfl, _, rfl⟩
end Go.Proofs.Ytlhohhbnhflchaa
