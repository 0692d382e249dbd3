/-
  The law's sameDoc, of two texts that are the same.
-/
import Derived.Test.YtfhghijefjhehaaDoorMM
namespace Go.Proofs.YtfhghijefjhehaaDoor
open Go.RowKit
set_option linter.unusedVariables false

set_option maxRecDepth 100000 in
set_option maxHeartbeats 4000000 in
theorem sameDoc_true (a a' : Option Addr) (c c' : Nat) (xs : List El) (w : World) (hT : IsTx w a xs) (hU : IsTx w a' xs) (hn : xs.length ≤ 9223372036854775807) :
    Calls Tryd.prog 11 #[.slice a xs.length c, .slice a' xs.length c'] w fun e w' => e = .returned (.bool true) ∧ ∃ m, w' = w.drewN m := by
  obtain ⟨n, hnx⟩ : ∃ n, n = xs.length := ⟨_, rfl⟩
  rw [← hnx] at hn ⊢
  have HT := hd hT
  have HU := hd hU
  have HN := hd hnx
  clear hT hU hnx
  go_enter Tryd.func11, Tryd.ntmps11
  go_wp2
  go_loopw [5] (fun i wr => ∃ k m : Nat, k ≤ n ∧ i = .int .i64 k ∧ wr = w.drewN m) (fun i _ => n - (intOf i).toNat)
  case atStart => exact ⟨0, 0, Nat.zero_le _, rfl, rfl⟩
  case round =>
    obtain ⟨k, m, hk, rfl, rfl⟩ := hrel
    by_cases hlt : k < n
    · have kx : k < xs.length := by have := HN.out; omega
      obtain ⟨b1, o1, rfl, -, hc⟩ := HT.out (by omega)
      obtain ⟨b2, o2, rfl, -, hc'⟩ := HU.out (by omega)
      obtain ⟨x0, x1, x2⟩ := hc k kx
      obtain ⟨y0, y1, y2⟩ := hc' k kx
      have i1 : (k : Int) < (n : Int) := by omega
      clear hc hc'
      generalize xs[k] = x at x0 x1 x2 y0 y1 y2
      obtain ⟨xa, xb, xc⟩ := x
      simp only [] at x0 x1 x2 y0 y1 y2
      have eqs := elSame xa xb xc
      go_wp2
      go_quiet (fail)
      go_wp2
      exact ⟨⟨k + 1, _, by omega, by go_num, rfl⟩, by simp [intOf]; omega⟩
    · obtain rfl : k = n := by omega
      go_wp2
      go_ret
      exact ⟨rfl, _, rfl⟩

end Go.Proofs.YtfhghijefjhehaaDoor
