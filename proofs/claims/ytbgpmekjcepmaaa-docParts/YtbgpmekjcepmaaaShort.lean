/-
  short.
-/
import Derived.Test.YtbgpmekjcepmaaaOps
namespace Go.Proofs.Ytbgpmekjcepmaaa
open Go.RowKit
set_option linter.unusedVariables false

set_option maxHeartbeats 1000000 in
theorem short_any (a : Option Addr) (n c : Nat) (os : List OpE) (w : World) (hE : IsO w a n c os) :
    Calls Try.prog 22 #[.slice a n c] w fun e w' => ∃ m, e = .returned (.slice a m c) ∧ m ≤ 300 ∧ IsO w a m c (os.take m) ∧ w = w' := by
  have h2 := hE.2.1
  have h3 := hE.2.2.1
  by_cases h : 300 < n
  · have R := hd (hE.take 300 (by omega))
    have i1 : (n : Int) > 300 := by omega
    have i2 : (300 : Int) ≤ (c : Int) := by omega
    clear hE
    go_enter Try.func22, Try.ntmps22
    go_wp2
    go_ret
    exact ⟨300, rfl, by omega, R.out, rfl⟩
  · have R := hd (hE.take n (by omega))
    have i1 : ¬ (n : Int) > 300 := by omega
    clear hE
    go_enter Try.func22, Try.ntmps22
    go_wp2
    go_ret
    exact ⟨n, rfl, by omega, R.out, rfl⟩

end Go.Proofs.Ytbgpmekjcepmaaa
