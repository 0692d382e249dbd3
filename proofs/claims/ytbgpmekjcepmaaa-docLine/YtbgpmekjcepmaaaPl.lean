/-
  place.
-/
import Derived.Test.YtbgpmekjcepmaaaVa
namespace Go.Proofs.Ytbgpmekjcepmaaa
open Go.RowKit
set_option linter.unusedVariables false

set_option maxHeartbeats 1000000 in
theorem place_any (x : Int) (M : Nat) (w : World) (h0 : 0 < M) (h1 : M ≤ 1000000) :
    Calls Try.prog 13 #[.int .i64 x, .int .i64 M] w fun e w' => ∃ p : Nat, e = .returned (.int .i64 p) ∧ p < M ∧ w = w' := by
  have b1 : x.tmod M < M := Int.tmod_lt_of_pos _ (by omega)
  have b2 : -(M : Int) < x.tmod M := by
    have := Int.lt_tmod_of_pos x (b := (M : Int)) (by omega)
    omega
  have hM : ¬ ((M : Int) = 0) := by omega
  obtain ⟨r, hr⟩ : ∃ r, r = x.tmod M := ⟨_, rfl⟩
  rw [← hr] at b1 b2
  have ht : x.tmod (M : Int) = r := hr.symm
  clear hr
  by_cases hn : r < 0
  · obtain ⟨p, hp⟩ : ∃ p : Nat, r + (M : Int) = (p : Int) := ⟨(r + (M : Int)).toNat, by omega⟩
    have R : Hid (p < M) := by
      show _ < _
      omega
    go_enter Try.func13, Try.ntmps13
    go_wp2
    go_ret
    exact ⟨p, by first | rfl | (simp; omega), R.out, rfl⟩
  · obtain ⟨p, hp⟩ : ∃ p : Nat, r = (p : Int) := ⟨r.toNat, by omega⟩
    have R : Hid (p < M) := by
      show _ < _
      omega
    go_enter Try.func13, Try.ntmps13
    go_wp2
    go_ret
    exact ⟨p, by first | rfl | (simp; omega), R.out, rfl⟩

end Go.Proofs.Ytbgpmekjcepmaaa
