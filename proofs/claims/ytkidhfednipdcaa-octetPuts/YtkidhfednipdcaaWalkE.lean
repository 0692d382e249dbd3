/-
  Put8, Put16, Put32, of the program and of the document.
-/
import Derived.Test.YtkidhfednipdcaaWalkB
import Derived.Test.YtkidhfednipdcaaWalkD
namespace Go.Proofs.Ytkidhfednipdcaa
open Go.RowKit

theorem call1 (a : Option Addr) (n c : Nat) (num : Int) (xs : List Int) (w : World) (h : IsB w a n c xs) (hn : n ≤ 900000) (hu : 0 ≤ num ∧ num < 18446744073709551616) :
    Calls Try.prog 15 #[.slice a n c, .int .u64 num, .int .i64 1] w fun e w' => ∃ v, e = .returned v ∧ OwnB w' w.heap.size v (n + 1) (xs ++ bytesTo num 1 1) ∧ Below w.heap.size w w' :=
  put_any a n c 1 num xs w h hn (by omega) hu

set_option maxHeartbeats 400000 in
theorem prog1 (a : Option Addr) (n c : Nat) (num : Int) (xs : List Int) (w : World) (h : IsB w a n c xs) (hn : n ≤ 900000) (hu : 0 ≤ num ∧ num < 18446744073709551616) :
    Calls Try.prog 9 #[.slice a n c, .int .u64 num] w fun e w' => ∃ v, e = .returned v ∧ OwnB w' w.heap.size v (n + 1) (xs ++ bytesTo num 1 1) ∧ Below w.heap.size w w' := by
  have HH : Hid (IsB w a n c xs) := h
  clear h
  go_enter Try.func9, Try.ntmps9
  go_wp2_with (go_at_call 15; refine (call1 a n c num xs _ HH.out hn hu).mono ?_; rintro e w1 ⟨v, rfl, hown, hbel⟩)
  have R : Hid _ := And.intro hown hbel
  clear hown hbel
  go_ret
  exact ⟨_, rfl, R.out⟩

theorem call2 (a : Option Addr) (n c : Nat) (num : Int) (xs : List Int) (w : World) (h : IsB w a n c xs) (hn : n ≤ 900000) (hu : 0 ≤ num ∧ num < 18446744073709551616) :
    Calls Try.prog 15 #[.slice a n c, .int .u64 num, .int .i64 2] w fun e w' => ∃ v, e = .returned v ∧ OwnB w' w.heap.size v (n + 2) (xs ++ bytesTo num 2 2) ∧ Below w.heap.size w w' :=
  put_any a n c 2 num xs w h hn (by omega) hu

set_option maxHeartbeats 400000 in
theorem prog2 (a : Option Addr) (n c : Nat) (num : Int) (xs : List Int) (w : World) (h : IsB w a n c xs) (hn : n ≤ 900000) (hu : 0 ≤ num ∧ num < 18446744073709551616) :
    Calls Try.prog 10 #[.slice a n c, .int .u64 num] w fun e w' => ∃ v, e = .returned v ∧ OwnB w' w.heap.size v (n + 2) (xs ++ bytesTo num 2 2) ∧ Below w.heap.size w w' := by
  have HH : Hid (IsB w a n c xs) := h
  clear h
  go_enter Try.func10, Try.ntmps10
  go_wp2_with (go_at_call 15; refine (call2 a n c num xs _ HH.out hn hu).mono ?_; rintro e w1 ⟨v, rfl, hown, hbel⟩)
  have R : Hid _ := And.intro hown hbel
  clear hown hbel
  go_ret
  exact ⟨_, rfl, R.out⟩

theorem call4 (a : Option Addr) (n c : Nat) (num : Int) (xs : List Int) (w : World) (h : IsB w a n c xs) (hn : n ≤ 900000) (hu : 0 ≤ num ∧ num < 18446744073709551616) :
    Calls Try.prog 15 #[.slice a n c, .int .u64 num, .int .i64 4] w fun e w' => ∃ v, e = .returned v ∧ OwnB w' w.heap.size v (n + 4) (xs ++ bytesTo num 4 4) ∧ Below w.heap.size w w' :=
  put_any a n c 4 num xs w h hn (by omega) hu

set_option maxHeartbeats 400000 in
theorem prog4 (a : Option Addr) (n c : Nat) (num : Int) (xs : List Int) (w : World) (h : IsB w a n c xs) (hn : n ≤ 900000) (hu : 0 ≤ num ∧ num < 18446744073709551616) :
    Calls Try.prog 11 #[.slice a n c, .int .u64 num] w fun e w' => ∃ v, e = .returned v ∧ OwnB w' w.heap.size v (n + 4) (xs ++ bytesTo num 4 4) ∧ Below w.heap.size w w' := by
  have HH : Hid (IsB w a n c xs) := h
  clear h
  go_enter Try.func11, Try.ntmps11
  go_wp2_with (go_at_call 15; refine (call4 a n c num xs _ HH.out hn hu).mono ?_; rintro e w1 ⟨v, rfl, hown, hbel⟩)
  have R : Hid _ := And.intro hown hbel
  clear hown hbel
  go_ret
  exact ⟨_, rfl, R.out⟩

set_option maxHeartbeats 400000 in
theorem ref1 (a : Option Addr) (n c : Nat) (num : Int) (xs : List Int) (w : World) (h : IsB w a n c xs) (hn : n ≤ 900000) (_hu : 0 ≤ num ∧ num < 18446744073709551616) :
    Calls Try.prog 12 #[.slice a n c, .int .u64 num] w fun e w' => ∃ v, e = .returned v ∧ OwnB w' w.heap.size v (n + 1) (xs ++ [num % 256]) ∧ Below w.heap.size w w' := by
  obtain ⟨i0, hi, hz0, hz1, hz2⟩ := info_parts Try.info5
  have HH : Hid (IsB w a n c xs) := h
  clear h
  go_enter Try.func12, Try.ntmps12
  go_wp2_with (first | (go_at_call 16; refine (copied_any a n c xs _ HH.out (by omega)).mono ?_; rintro e w1 ⟨v, rfl, hown, hbel⟩; have O : Hid _ := hown; have HB : Hid _ := hbel; have hsz := hbel.size; clear hown hbel) | (at_builtin; refine wpList_append_own _ rfl (.tmp 8) (.tmp 12) 22 rfl w.heap.size 5 i0 (.int .u8 0) 1 1 Try.underlying22 hi hz0 hz1 hz2 rfl (by decide) v n (ints xs) rfl (O.out.alloc _) ⟨w1.heap.size, 0, none⟩ 1 1 [.int .u8 (num % 256)] rfl rfl (cell_one_new _ _ _) (one_of _) (by unfold maxLen; omega) (by omega) (by simp; omega) ?_; intro v' w' hown' hgrow _))
  have R : Hid (OwnB w' w.heap.size v' (n + 1) (xs ++ [num % 256]) ∧ Below w.heap.size w w') := app_step O.out HB.out (Nat.le_refl _) hown' hgrow
  clear hown' hgrow
  go_wp2
  go_ret
  exact ⟨_, rfl, R.out⟩

theorem two_own {w w1 w2 : World} {v : Value} {n : Nat} {xs : List Int} (h1 : Below w.heap.size w w1) (h2 : Below w1.heap.size w1 w2) (h3 : OwnB w2 w1.heap.size v n xs) :
    OwnB w2 w.heap.size v n xs ∧ Below w.heap.size w w2 :=
  ⟨h3.mono h1.size, h1.trans (h2.mono h1.size)⟩

set_option maxHeartbeats 400000 in
theorem ref2 (a : Option Addr) (n c : Nat) (num : Int) (xs : List Int) (w : World) (h : IsB w a n c xs) (hn : n ≤ 800000) (hu : 0 ≤ num ∧ num < 18446744073709551616) :
    Calls Try.prog 13 #[.slice a n c, .int .u64 num] w fun e w' => ∃ v, e = .returned v ∧ OwnB w' w.heap.size v (n + 1 + 1) (xs ++ [num / 256 % 256] ++ [num % 256]) ∧ Below w.heap.size w w' := by
  have HH : Hid (IsB w a n c xs) := h
  clear h
  go_enter Try.func13, Try.ntmps13
  go_wp2_with fail
  refine (ref1 a n c (num / 256) xs _ HH.out (by omega) (by omega)).mono ?_
  rintro e w1 ⟨v, rfl, hown, hbel⟩
  obtain ⟨a1, c1, rfl, hb1⟩ := hown.isB
  have H1 : Hid _ := hb1
  have HB : Hid _ := hbel
  clear hown hbel hb1
  go_wp2_with fail
  refine (ref1 a1 (n + 1) c1 num _ _ H1.out (by omega) hu).mono ?_
  rintro e w2 ⟨v2, rfl, hown, hbel⟩
  have R : Hid _ := two_own HB.out hbel hown
  clear hown hbel
  go_wp2
  go_ret
  exact ⟨_, rfl, R.out⟩

set_option maxHeartbeats 400000 in
theorem ref4 (a : Option Addr) (n c : Nat) (num : Int) (xs : List Int) (w : World) (h : IsB w a n c xs) (hn : n ≤ 700000) (hu : 0 ≤ num ∧ num < 18446744073709551616) :
    Calls Try.prog 14 #[.slice a n c, .int .u64 num] w fun e w' => ∃ v, e = .returned v ∧ OwnB w' w.heap.size v (n + 1 + 1 + 1 + 1) (xs ++ [num / 65536 / 256 % 256] ++ [num / 65536 % 256] ++ [num / 256 % 256] ++ [num % 256]) ∧ Below w.heap.size w w' := by
  have HH : Hid (IsB w a n c xs) := h
  clear h
  go_enter Try.func14, Try.ntmps14
  go_wp2_with fail
  refine (ref2 a n c (num / 65536) xs _ HH.out (by omega) (by omega)).mono ?_
  rintro e w1 ⟨v, rfl, hown, hbel⟩
  obtain ⟨a1, c1, rfl, hb1⟩ := hown.isB
  have H1 : Hid _ := hb1
  have HB : Hid _ := hbel
  clear hown hbel hb1
  go_wp2_with fail
  refine (ref2 a1 (n + 1 + 1) c1 num _ _ H1.out (by omega) hu).mono ?_
  rintro e w2 ⟨v2, rfl, hown, hbel⟩
  have R : Hid _ := two_own HB.out hbel hown
  clear hown hbel
  go_wp2
  go_ret
  exact ⟨_, rfl, R.out⟩

theorem bytes1 (num : Int) : bytesTo num 1 1 = [num % 256] := by simp [bytesTo, byteAt]
theorem bytes2 (num : Int) : bytesTo num 2 2 = [num / 256 % 256, num % 256] := by simp [bytesTo, byteAt, List.range_succ]
theorem bytes4 (num : Int) : bytesTo num 4 4 = [num / 65536 / 256 % 256, num / 65536 % 256, num / 256 % 256, num % 256] := by
  simp [bytesTo, byteAt, List.range_succ]
  omega

end Go.Proofs.Ytkidhfednipdcaa
