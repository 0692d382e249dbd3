/-
  The laws' into, ints, words.
-/
import Derived.Test.YtlmgogonghafeaaRt
import Derived.Deep.QuietTactic
import Derived.BigQuiet
namespace Go.Proofs.Ytlmgogonghafeaa
open Go.RowKit Go.Lib
set_option linter.unusedVariables false

set_option maxRecDepth 100000 in
set_option maxHeartbeats 4000000 in
theorem into_any (x : Int) (M : Nat) (w : World) (h0 : 0 < M) (h1 : M ≤ 1000000) :
    Calls Try.prog 16 #[.int .i64 x, .int .i64 M] w fun e w' => e = .returned (.int .i64 (((x % (M : Int)).toNat : Nat) : Int)) ∧ w' = w := by
  have b1 : x.tmod M < M := Int.tmod_lt_of_pos _ (by omega)
  have b2 : -(M : Int) < x.tmod M := by
    have := Int.lt_tmod_of_pos x (b := (M : Int)) (by omega)
    omega
  have hM : ¬ ((M : Int) = 0) := by omega
  have hE : Hid ((((x % (M : Int)).toNat : Nat) : Int) = if x.tmod M < 0 then x.tmod M + M else x.tmod M) := by
    show _ = _
    have e1 := Int.emod_nonneg x hM
    have e2 := Int.emod_lt_of_pos x (show (0 : Int) < (M : Int) by omega)
    have e3 : x.tmod M = x % M ∨ x.tmod M = x % M - M := by
      rw [Int.tmod_eq_emod]
      split
      · left; omega
      · right; omega
    rw [Int.toNat_of_nonneg e1]
    split <;> omega
  obtain ⟨r, hr⟩ : ∃ r, r = x.tmod M := ⟨_, rfl⟩
  rw [← hr] at b1 b2 hE
  have ht : x.tmod (M : Int) = r := hr.symm
  clear hr
  obtain ⟨V, hV⟩ : ∃ V : Int, (((x % (M : Int)).toNat : Nat) : Int) = V := ⟨_, rfl⟩
  rw [hV] at hE ⊢
  clear hV
  by_cases hn : r < 0
  · have R := hd hE.out
    rw [if_pos hn] at R
    clear hE
    go_enter Try.func16, Try.ntmps16
    go_wp2
    go_ret
    exact ⟨by rw [R.out]; rfl, rfl⟩
  · have R := hd hE.out
    rw [if_neg hn] at R
    clear hE
    go_enter Try.func16, Try.ntmps16
    go_wp2
    go_ret
    exact ⟨by rw [R.out]; rfl, rfl⟩

set_option maxRecDepth 100000 in
set_option maxHeartbeats 4000000 in
theorem ints_true (a b : Option Addr) (n c d : Nat) (l : List Nat) (w : World) (ha : IsL w a n c l) (hb : IsL w b n d l) :
    Calls Try.prog 28 #[.slice a n c, .slice b n d] w fun e w' => e = .returned (.bool true) ∧ ∃ m, w' = w.drewN m := by
  obtain ⟨hl, hc, hc', h1⟩ := ha
  obtain ⟨-, hd', hd'', h2⟩ := hb
  have H1 := hd h1
  have H2 := hd h2
  have HN := hd hl
  clear h1 h2 hl
  go_enter Try.func28, Try.ntmps28
  go_wp2
  go_loopw [5] (fun i wr => ∃ k m : Nat, k ≤ n ∧ i = .int .i64 k ∧ wr = w.drewN m) (fun i _ => n - (intOf i).toNat)
  case atStart => exact ⟨0, 0, Nat.zero_le _, rfl, rfl⟩
  case round =>
    obtain ⟨k, m, hk, rfl, rfl⟩ := hrel
    by_cases hlt : k < n
    · have kx : k < l.length := by rw [HN.out]; exact hlt
      obtain ⟨b1, o1, rfl, -, x0⟩ := H1.out (by omega)
      obtain ⟨b2, o2, rfl, -, y0⟩ := H2.out (by omega)
      have x0 := x0 k kx
      have y0 := y0 k kx
      have i1 : (k : Int) < (n : Int) := by omega
      generalize l[k] = x at *
      go_wp2
      go_big_quiet (fail)
      go_wp2
      go_roundw
      case rel => exact ⟨k + 1, _, by omega, by go_num, rfl⟩
      case measure => simp only [intOf]; omega
    · obtain rfl : k = n := by omega
      go_wp2
      go_ret
      exact ⟨rfl, _, rfl⟩

/-- The slice value at a holds the strings l. -/
def IsW (w : World) (a : Option Addr) (n c : Nat) (l : List ByteArray) : Prop :=
  l.length = n ∧ n ≤ c ∧ c ≤ 9223372036854775807 ∧ (0 < n → ∃ b off, a = some ⟨b, off, none⟩ ∧ b < w.heap.size ∧ ∀ k (h : k < l.length), w.cell? ⟨b, off + k, none⟩ = some (.string l[k]))

set_option maxRecDepth 100000 in
set_option maxHeartbeats 4000000 in
theorem words_true (a b : Option Addr) (n c d : Nat) (l : List ByteArray) (w : World) (ha : IsW w a n c l) (hb : IsW w b n d l) :
    Calls Try.prog 29 #[.slice a n c, .slice b n d] w fun e w' => e = .returned (.bool true) ∧ ∃ m, w' = w.drewN m := by
  obtain ⟨hl, hc, hc', h1⟩ := ha
  obtain ⟨-, hd', hd'', h2⟩ := hb
  have H1 := hd h1
  have H2 := hd h2
  have HN := hd hl
  clear h1 h2 hl
  go_enter Try.func29, Try.ntmps29
  go_wp2
  go_loopw [5] (fun i wr => ∃ k m : Nat, k ≤ n ∧ i = .int .i64 k ∧ wr = w.drewN m) (fun i _ => n - (intOf i).toNat)
  case atStart => exact ⟨0, 0, Nat.zero_le _, rfl, rfl⟩
  case round =>
    obtain ⟨k, m, hk, rfl, rfl⟩ := hrel
    by_cases hlt : k < n
    · have kx : k < l.length := by rw [HN.out]; exact hlt
      obtain ⟨b1, o1, rfl, -, x0⟩ := H1.out (by omega)
      obtain ⟨b2, o2, rfl, -, y0⟩ := H2.out (by omega)
      have x0 := x0 k kx
      have y0 := y0 k kx
      have i1 : (k : Int) < (n : Int) := by omega
      generalize l[k] = x at *
      go_wp2
      go_big_quiet (fail)
      go_wp2
      go_roundw
      case rel => exact ⟨k + 1, _, by omega, by go_num, rfl⟩
      case measure => simp only [intOf]; omega
    · obtain rfl : k = n := by omega
      go_wp2
      go_ret
      exact ⟨rfl, _, rfl⟩
end Go.Proofs.Ytlmgogonghafeaa
