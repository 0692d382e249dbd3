/-
  Take, number at a reader that can not, U8, U16, U32 there.
-/
import Derived.Test.YtkidhfednipdcabDoorWalkN
namespace Go.Proofs.YtkidhfednipdcabDoor
open Go.RowKit

set_option maxHeartbeats 400000 in
theorem take_bad (r : Nat) (xs : List Int) (p : Nat) (f : Bool) (n : Int) (w : World) (h : RD w r xs p f) (hb : f = true ∨ n < 0 ∨ (xs.length : Int) - p < n) :
    Calls Tryd.prog 10 #[.pointer (some ⟨r, 0, none⟩), .int .i64 n] w fun e w' => e = .returned (.slice none 0 0) ∧ Bad w w' r xs p := by
  have H := hd h
  have HX := hd hb
  clear h hb
  go_enter Tryd.func10, Tryd.ntmps10
  go_wp2_with fail
  refine (next_bad r xs p f n _ H.out HX.out).mono ?_
  rintro e w1 ⟨rfl, hbad⟩
  have R := hd hbad
  clear hbad
  go_wp2_with fail
  refine (clone_nil 0 0 _).mono ?_
  rintro e w2 ⟨rfl, rfl⟩
  go_wp2
  go_ret
  exact ⟨rfl, R.out⟩

set_option maxHeartbeats 400000 in
theorem take_good (r : Nat) (xs : List Int) (p k : Nat) (w : World) (h : RD w r xs p false) (hx : p + k ≤ xs.length) :
    Calls Tryd.prog 10 #[.pointer (some ⟨r, 0, none⟩), .int .i64 k] w fun e w' => ∃ v, e = .returned v ∧ OwnB w' w.heap.size v k ((xs.drop p).take k) ∧ Good w w' r xs p k := by
  have H := hd h
  have hlen : xs.length ≤ 1000000 := by
    obtain ⟨_, n, _, _, hB, _, _, h2⟩ := h
    rw [hB.1]; exact h2
  clear h
  go_enter Tryd.func10, Tryd.ntmps10
  go_wp2_with fail
  refine (next_good r xs p k _ H.out hx).mono ?_
  rintro e w1 ⟨a, c, rfl, hB, hg⟩
  have HB := hd hB
  have HG := hd hg
  clear hB hg
  go_wp2_with fail
  refine (clone_any a k c _ _ HB.out (by omega)).mono ?_
  rintro e w2 ⟨v, rfl, hown, hbel⟩
  have R : Hid (OwnB w2 w.heap.size v k ((xs.drop p).take k) ∧ Good w w2 r xs p k) :=
    ⟨hown.mono HG.out.2.size, HG.out.1.below hbel, HG.out.2.trans (But.of_below hbel)⟩
  clear hown hbel HB HG
  go_wp2
  go_ret
  exact ⟨_, rfl, R.out⟩

set_option maxHeartbeats 400000 in
theorem number_bad (r : Nat) (xs : List Int) (p : Nat) (f : Bool) (n : Int) (w : World) (h : RD w r xs p f) (hb : f = true ∨ n < 0 ∨ (xs.length : Int) - p < n) :
    Calls Tryd.prog 29 #[.pointer (some ⟨r, 0, none⟩), .int .i64 n] w fun e w' => e = .returned (.int .u32 0) ∧ Bad w w' r xs p := by
  have H := hd h
  have HX := hd hb
  clear h hb
  go_enter Tryd.func29, Tryd.ntmps29
  go_wp2_with fail
  refine (next_bad r xs p f n _ H.out HX.out).mono ?_
  rintro e w1 ⟨rfl, hbad⟩
  have R := hd hbad
  clear hbad
  go_wp2
  refine wp_loop_rounds 1 ?_
  rw [rounds_succ]
  go_wp2
  go_ret
  exact ⟨rfl, R.out⟩

set_option maxHeartbeats 400000 in
theorem u8_bad (r : Nat) (xs : List Int) (p : Nat) (f : Bool) (w : World) (h : RD w r xs p f) (hb : f = true ∨ (xs.length : Int) - p < 1) :
    Calls Tryd.prog 13 #[.pointer (some ⟨r, 0, none⟩)] w fun e w' => e = .returned (.int .i64 0) ∧ Bad w w' r xs p := by
  have H := hd h
  have HX := hd hb
  clear h hb
  go_enter Tryd.func13, Tryd.ntmps13
  go_wp2_with fail
  refine (number_bad r xs p f 1 _ H.out (by rcases HX.out with h | h; exact .inl h; exact .inr (.inr h))).mono ?_
  rintro e w1 ⟨rfl, hbad⟩
  have R := hd hbad
  clear hbad
  go_wp2
  go_ret
  exact ⟨rfl, R.out⟩

set_option maxHeartbeats 400000 in
theorem u16_bad (r : Nat) (xs : List Int) (p : Nat) (f : Bool) (w : World) (h : RD w r xs p f) (hb : f = true ∨ (xs.length : Int) - p < 2) :
    Calls Tryd.prog 14 #[.pointer (some ⟨r, 0, none⟩)] w fun e w' => e = .returned (.int .i64 0) ∧ Bad w w' r xs p := by
  have H := hd h
  have HX := hd hb
  clear h hb
  go_enter Tryd.func14, Tryd.ntmps14
  go_wp2_with fail
  refine (number_bad r xs p f 2 _ H.out (by rcases HX.out with h | h; exact .inl h; exact .inr (.inr h))).mono ?_
  rintro e w1 ⟨rfl, hbad⟩
  have R := hd hbad
  clear hbad
  go_wp2
  go_ret
  exact ⟨rfl, R.out⟩

set_option maxHeartbeats 400000 in
theorem u32_bad (r : Nat) (xs : List Int) (p : Nat) (f : Bool) (w : World) (h : RD w r xs p f) (hb : f = true ∨ (xs.length : Int) - p < 4) :
    Calls Tryd.prog 15 #[.pointer (some ⟨r, 0, none⟩)] w fun e w' => e = .returned (.int .u32 0) ∧ Bad w w' r xs p := by
  have H := hd h
  have HX := hd hb
  clear h hb
  go_enter Tryd.func15, Tryd.ntmps15
  go_wp2_with fail
  refine (number_bad r xs p f 4 _ H.out (by rcases HX.out with h | h; exact .inl h; exact .inr (.inr h))).mono ?_
  rintro e w1 ⟨rfl, hbad⟩
  have R := hd hbad
  clear hbad
  go_wp2
  go_ret
  exact ⟨rfl, R.out⟩

end Go.Proofs.YtkidhfednipdcabDoor
