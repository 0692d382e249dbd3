/-
  One act.
-/
import Derived.Test.YtmbnimlibnheeaaDoorTh
import Derived.Test.YtmbnimlibnheeaaDoorTi
namespace Go.Proofs.YtmbnimlibnheeaaDoor
open Go.RowKit Go.Lib
set_option linter.unusedVariables false

def ACT (w0 : World) (x y : Nat) (b1 b2 : Int) (N M : Nat) (w' : World) : Prop := ∃ s' t', TWO w0 w' x y s' t' b1 b2 N M

set_option maxRecDepth 100000 in
set_option maxHeartbeats 4000000 in
theorem act_any {w0 w : World} {x y : Nat} {s t : Sd} {b1 b2 : Int} {N M : Nat} (h : TWO w0 w x y s t b1 b2 N M) (hM : M ≤ 400) (hT : Table w0) (kd n ch : Int) (nop out : Bool) (hc0 : 0 ≤ ch) (hc1 : ch ≤ 255) :
    Calls Tryd.prog 22 #[.pointer (some ⟨x, 0, none⟩), .pointer (some ⟨y, 0, none⟩), .agg #[.int .i64 kd, .bool nop, .bool out, .int .i64 n, .int .u8 ch]] w fun e w' => e = .returned (.bool true) ∧ Hid (ACT w0 x y b1 b2 N (M + 1) w') := by
  have H := hd h
  have HT := hd hT
  have CI : Hid (∀ W, Calls Tryd.prog 38 #[.int .i64 kd, .int .i64 4] W fun e w' => ∃ p : Nat, e = .returned (.int .i64 p) ∧ p < 4 ∧ w' = W) := fun W => into_any kd 4 W (by omega) (by omega)
  clear h hT
  have hM' := hd hM
  have hc0' := hd hc0
  have hc1' := hd hc1
  clear hM hc0 hc1
  go_enter Tryd.func22, Tryd.ntmps22
  go_wp2_with fail
  refine (CI.out _).mono ?_
  rintro e w1 ⟨p, rfl, hp, rfl⟩
  clear CI
  have HW := hd (H.out.below ((Below.refl _ _).alloc (Nat.le_refl _) (.cells #[.int .i64 kd, .bool nop, .bool out, .int .i64 n, .int .u8 ch] 61)))
  clear H
  obtain rfl | rfl | rfl | rfl : p = 0 ∨ p = 1 ∨ p = 2 ∨ p = 3 := by omega
  · go_wp2_with fail
    refine (mk_two HW.out hM'.out kd n ch nop out hc0'.out hc1'.out).mono ?_
    rintro e w2 ⟨rfl, hh⟩
    have Z : Hid (ACT w0 x y b1 b2 N (M + 1) w2) := by
      obtain ⟨s', h⟩ := hh.out
      exact ⟨s', t, h⟩
    clear HW hh
    go_wp2
    go_ret
    exact ⟨rfl, Z⟩
  · go_wp2_with fail
    refine (mk_two HW.out.swap hM'.out kd n ch nop out hc0'.out hc1'.out).mono ?_
    rintro e w2 ⟨rfl, hh⟩
    have Z : Hid (ACT w0 x y b1 b2 N (M + 1) w2) := by
      obtain ⟨t', h⟩ := hh.out
      exact ⟨s, t', h.swap⟩
    clear HW hh
    go_wp2
    go_ret
    exact ⟨rfl, Z⟩
  · go_wp2_with fail
    refine (tk_two HW.out hM'.out HT.out).mono ?_
    rintro e w2 ⟨rfl, hh⟩
    have Z : Hid (ACT w0 x y b1 b2 N (M + 1) w2) := by
      obtain ⟨s', t', h, -⟩ := hh.out
      exact ⟨s', t', h.mono (Nat.le_succ _)⟩
    clear HW hh
    go_wp2
    go_ret
    exact ⟨rfl, Z⟩
  · go_wp2_with fail
    refine (tk_two HW.out.swap hM'.out HT.out).mono ?_
    rintro e w2 ⟨rfl, hh⟩
    have Z : Hid (ACT w0 x y b1 b2 N (M + 1) w2) := by
      obtain ⟨t', s', h, -⟩ := hh.out
      exact ⟨s', t', h.swap.mono (Nat.le_succ _)⟩
    clear HW hh
    go_wp2
    go_ret
    exact ⟨rfl, Z⟩

end Go.Proofs.YtmbnimlibnheeaaDoor
