/-
  Put8, Put16, Put32, of the program and of the document.
-/
import Derived.Test.YtibnlfdnnlbeeaaDoorWalkD
namespace Go.Proofs.YtibnlfdnnlbeeaaDoor
open Go.RowKit

theorem call1 (a : Option Addr) (n c : Nat) (num : Int) (xs : List Int) (w : World) (h : IsB w a n c xs) (hn : n ≤ 900000) (hu : 0 ≤ num ∧ num < 18446744073709551616) :
    Calls Tryd.prog 63 #[.slice a n c, .int .u64 num, .int .i64 1] w fun e w' => ∃ v, e = .returned v ∧ OwnB w' w.heap.size v (n + 1) (xs ++ bytesTo num 1 1) ∧ Below w.heap.size w w' :=
  put_any a n c 1 num xs w h hn (by omega) hu

set_option maxHeartbeats 400000 in
theorem prog1 (a : Option Addr) (n c : Nat) (num : Int) (xs : List Int) (w : World) (h : IsB w a n c xs) (hn : n ≤ 900000) (hu : 0 ≤ num ∧ num < 18446744073709551616) :
    Calls Tryd.prog 54 #[.slice a n c, .int .u64 num] w fun e w' => ∃ v, e = .returned v ∧ OwnB w' w.heap.size v (n + 1) (xs ++ bytesTo num 1 1) ∧ Below w.heap.size w w' := by
  have HH : Hid (IsB w a n c xs) := h
  clear h
  go_enter Tryd.func54, Tryd.ntmps54
  go_wp2_with (go_at_call 63; refine (call1 a n c num xs _ HH.out hn hu).mono ?_; rintro e w1 ⟨v, rfl, hown, hbel⟩)
  have R : Hid _ := And.intro hown hbel
  clear hown hbel
  go_ret
  exact ⟨_, rfl, R.out⟩

theorem call2 (a : Option Addr) (n c : Nat) (num : Int) (xs : List Int) (w : World) (h : IsB w a n c xs) (hn : n ≤ 900000) (hu : 0 ≤ num ∧ num < 18446744073709551616) :
    Calls Tryd.prog 63 #[.slice a n c, .int .u64 num, .int .i64 2] w fun e w' => ∃ v, e = .returned v ∧ OwnB w' w.heap.size v (n + 2) (xs ++ bytesTo num 2 2) ∧ Below w.heap.size w w' :=
  put_any a n c 2 num xs w h hn (by omega) hu

set_option maxHeartbeats 400000 in
theorem prog2 (a : Option Addr) (n c : Nat) (num : Int) (xs : List Int) (w : World) (h : IsB w a n c xs) (hn : n ≤ 900000) (hu : 0 ≤ num ∧ num < 18446744073709551616) :
    Calls Tryd.prog 64 #[.slice a n c, .int .u64 num] w fun e w' => ∃ v, e = .returned v ∧ OwnB w' w.heap.size v (n + 2) (xs ++ bytesTo num 2 2) ∧ Below w.heap.size w w' := by
  have HH : Hid (IsB w a n c xs) := h
  clear h
  go_enter Tryd.func64, Tryd.ntmps64
  go_wp2_with (go_at_call 63; refine (call2 a n c num xs _ HH.out hn hu).mono ?_; rintro e w1 ⟨v, rfl, hown, hbel⟩)
  have R : Hid _ := And.intro hown hbel
  clear hown hbel
  go_ret
  exact ⟨_, rfl, R.out⟩

theorem bytes1 (num : Int) : bytesTo num 1 1 = [num % 256] := by simp [bytesTo, byteAt]
theorem bytes2 (num : Int) : bytesTo num 2 2 = [num / 256 % 256, num % 256] := by simp [bytesTo, byteAt, List.range_succ]
end Go.Proofs.YtibnlfdnnlbeeaaDoor
