/-
  cut, same.
-/
import Derived.Test.YtkidhfednipdcabDoorParts
import Derived.Deep.QuietTactic
import Derived.BigQuiet
namespace Go.Proofs.YtkidhfednipdcabDoor
open Go.RowKit

set_option maxHeartbeats 400000 in
theorem cut_any (a : Option Addr) (n c : Nat) (xs : List Int) (w : World) (h : IsB w a n c xs) :
    Calls Tryd.prog 6 #[.slice a n c] w fun e w' => e = .returned (.slice a (min n 600) c) ∧ w = w' := by
  obtain ⟨h1, h2, h3, h4⟩ := h
  clear h4
  by_cases hn : 600 < n
  · have hq : min n 600 = 600 := by omega
    have hi : (600 : Int) < (n : Int) := by omega
    have H := hq
    clear hq
    rw [H]
    clear H
    go_enter Tryd.func6, Tryd.ntmps6
    go_wp2
    go_ret
    exact ⟨rfl, rfl⟩
  · have hq : min n 600 = n := by omega
    rw [hq]
    clear hq
    go_enter Tryd.func6, Tryd.ntmps6
    go_wp2
    go_ret
    exact ⟨rfl, rfl⟩

set_option maxHeartbeats 400000 in
theorem same_true (a a' : Option Addr) (n c c' : Nat) (xs : List Int) (w : World) (h : IsB w a n c xs) (h' : IsB w a' n c' xs) :
    Calls Tryd.prog 11 #[.slice a n c, .slice a' n c'] w fun e w' => e = .returned (.bool true) ∧ ∃ m, w' = w.drewN m := by
  obtain ⟨h1, h2, h3, h4⟩ := h
  obtain ⟨-, h2', h3', h4'⟩ := h'
  go_enter Tryd.func11, Tryd.ntmps11
  go_wp2
  go_loopw [5] (fun i wr => ∃ k m : Nat, k ≤ n ∧ i = .int .i64 k ∧ wr = w.drewN m) (fun i _ => n - (intOf i).toNat)
  case atStart => exact ⟨0, 0, Nat.zero_le _, rfl, rfl⟩
  case round =>
    obtain ⟨k, m, hk, rfl, rfl⟩ := hrel
    by_cases hlt : k < n
    · obtain ⟨b, off, rfl, hb, hc⟩ := h4 (by omega)
      obtain ⟨b', off', rfl, hb', hc'⟩ := h4' (by omega)
      have e1 := hc k hlt
      have e2 := hc' k hlt
      have hi : (k : Int) < (n : Int) := by omega
      clear hc hc' h4 h4'
      go_wp2
      go_quiet (fail)
      go_wp2
      exact ⟨⟨k + 1, m + nq, by omega, by go_num, rfl⟩, by simp [intOf]; omega⟩
    · clear h4 h4'
      go_wp2
      go_ret
      exact ⟨rfl, m, rfl⟩

end Go.Proofs.YtkidhfednipdcabDoor
