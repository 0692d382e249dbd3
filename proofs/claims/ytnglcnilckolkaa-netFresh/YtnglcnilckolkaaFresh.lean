/-
  NetFresh: the whole walk.
-/
import Derived.Test.YtnglcnilckolkaaFra
namespace Go.Proofs.Ytnglcnilckolkaa
open Go.RowKit
set_option linter.unusedVariables false

set_option maxRecDepth 100000 in
set_option maxHeartbeats 8000000 in
theorem netFresh_any (a : Option Addr) (n c : Nat) (xs : List Int) (i : Int) (W : World) (hB : IsB W a n c xs) :
    Calls Try.prog 6 #[.slice a n c, .int .i64 i] W fun e w' => e = .returned (.bool true) ∧ Below W.heap.size W w' := by
  have H := hd hB
  have hcap : n ≤ c ∧ c ≤ 9223372036854775807 := ⟨hB.2.1, hB.2.2.1⟩
  clear hB
  go_enter Try.func6, Try.ntmps6
  go_upto_if 32 with fail
  go_cut [0] (fun v wx => ∃ (n' : Nat) (xs' : List Int), v = .slice a n' c ∧ n' ≤ 60 ∧ wx = W ∧ Hid (IsB W a n' c xs'))
  case first =>
    by_cases h60 : n ≤ 60
    · have i1 : ¬ (60 : Int) < (n : Int) := by omega
      go_wp2_with fail
      go_meet
      exact ⟨n, xs, rfl, h60, rfl, H⟩
    · have i1 : (60 : Int) < (n : Int) := by omega
      have i2 : (60 : Int) ≤ (c : Int) := by omega
      have T := hd (H.out.take 60 (by omega))
      go_wp2_with fail
      go_meet
      exact ⟨60, xs.take 60, rfl, by omega, rfl, T⟩
  case rest =>
    obtain ⟨n', xs', rfl, h60, rfl, HB⟩ := hcut
    rename_i K0 hK0
    refine hK0 _ _ ?_
    exact fresh_rest a n' c xs' i _ HB.out h60 _ _ _ _ _ _ _ _ _ _ _ _ _ _ _ _ _ _ _ _ _ _ _ _ _ _ _ _ _ _ _ _ _ _ _ _ _ _ _ _ _ _ _ _ _ _ _ _ _ _ _ _ _ _ _ _ _ _ _ _ _ _ _ _ _ _ _ _ _ _ _ _ _ _ _ _ _ _ _ _ _ _ _ _ _ _ _ _ _ _ _ _ _ _ _ _ _ _ _ _ _ _ _ _ _ _ _ _ _ _ _ _ _ _ _ _ _ _ _ _ _ _ _ _ _ _ _ _ _ _ _ _ _ _ _ _ _ _ _ _ _ _ _ _ _ _ _ _ _ _ _ _ _ _ _ _ _ _ _ _ _ _ _ _ _ _ _ _ _ _ _ _ _ _ _ _ _ _ _ _ _ _ _ _ _ _ _ _ _ _ _ _ _ _ _ _ _ _ _ _ _ _ _ _ _ _ _ _ _ _ _ _ _ _ _ _ _ _ _ _ _ _ _ _ _ _ _ _ _ _ _ _ _ _ _ _ _ _ _ _ _ _ _ _ _ _ _ _ _ _ _ _ _ _ _ _ _ _ _ _ _ _ _ _ _ _ _ _ _ _ _ _ _ _ _ _ _ _ _ _ _ _ _ _ _ _ _ _ _ _ _ _ _ _ _ _ _ _ _ _ _ _ _ _ _ _ _ _ _ _ _ _ _ _ _ _ _ _ _ _ _ _ _ _ _ _ _ _ _ _ _ _ _ _

end Go.Proofs.Ytnglcnilckolkaa
