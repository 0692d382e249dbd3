/-
  InboxPlays.
-/
import Derived.Test.YtpjnhjijipcjkaaPk
import Derived.Test.YtpjnhjijipcjkaaPj
import Derived.Test.YtpjnhjijipcjkaaPl
import Derived.Test.YtpjnhjijipcjkaaFx
import Derived.Test.YtpjnhjijipcjkaaSc
namespace Go.Proofs.Ytpjnhjijipcjkaa
open Go.RowKit
set_option linter.unusedVariables false

def PS (w0 w : World) (x a b p q : Nat) : Prop := ∃ A B m, m ≤ 44 ∧ PB w0 w NoK x a b p q A B m

set_option maxRecDepth 100000 in
set_option maxHeartbeats 8000000 in
theorem inboxPlays_any (x0 x1 : Int) (a2 : Option Addr) (n2 c2 : Nat) (O : Nat → OpV) (w : World) (hS : IsS w a2 n2 c2 O) :
    Calls Try.prog 7 #[.int .i64 x0, .int .i64 x1, .slice a2 n2 c2] w fun e w' => e = .returned (.bool true) ∧ RowKit.Below w.heap.size w w' := by
  have HS := hd hS
  have n1c := hS.1
  have n1m := hS.2.1
  clear hS
  go_enter Try.func7, Try.ntmps7
  go_wp2_with fail
  refine (boxed_any x0 x1 w).mono ?_
  rintro _ w1 ⟨x, a, b, p, q, A, B, rfl, M⟩
  have H1 := hd M
  clear M
  go_wp2_with fail
  refine (fixed_true w1).mono ?_
  rintro _ w2 ⟨rfl, b2⟩
  have T0 : Hid (PS w w2 x a b p q) := ⟨A, B, 0, by omega, MO.below H1.out b2⟩
  clear H1 b2
  go_wp2_with fail
  go_loopw [9] (fun v wr => ∃ i : Nat, i ≤ n2 ∧ v = .int .i64 i ∧ Hid (PS w wr x a b p q)) (fun v _ => n2 - (intOf v).toNat)
  case atStart => exact ⟨0, Nat.zero_le _, rfl, T0⟩
  case round =>
    obtain ⟨i, hi, rfl, HT⟩ := hrel
    clear T0
    by_cases hlt : i < n2
    · have i1 : (i : Int) < (n2 : Int) := by omega
      obtain ⟨A', B', m, hm, hp⟩ := HT.out
      obtain ⟨bb, off, rfl, k0, k1, k2, k3, k4⟩ := (HS.out.below hp.base (Nat.le_refl _)).cell hlt
      generalize O i = o at k0 k1 k2 k3 k4
      obtain ⟨ok, os, on, ov, oa, ol, oc⟩ := o
      simp only at k0 k1 k2 k3 k4
      have HP := hd hp
      clear hp HT
      go_wp2_with fail
      refine (step_any HP.out hm ok os on ov oa ol oc).mono ?_
      rintro _ w3 ⟨rfl, A2, B2, m2, hm2, M2⟩
      have H2 := hd M2
      clear M2 HP k0 k1 k2 k3 k4
      go_wp2_with fail
      refine (calm_any H2.out hm2).mono ?_
      rintro _ _ ⟨rfl, z, rfl⟩
      have Z : Hid (PS w (w3.drewN z) x a b p q) := ⟨A2, B2, m2, hm2, MO.below H2.out (below_drewN' _ _)⟩
      clear H2
      go_wp2_with fail
      exact ⟨⟨i + 1, by omega, by go_num, Z⟩, by simp [intOf]; omega⟩
    · have i1 : ¬ (i : Int) < (n2 : Int) := by omega
      go_wp2_with fail
      go_loopw [10] (fun v wr => ∃ i : Nat, i ≤ 2 ∧ v = .int .i64 i ∧ Hid (PS w wr x a b p q)) (fun v _ => 2 - (intOf v).toNat)
      case atStart => exact ⟨0, Nat.zero_le _, rfl, HT⟩
      case round =>
        obtain ⟨j, hj, rfl, HJ⟩ := hrel
        clear HT
        obtain ⟨A1, B1, m1, hm1, M1⟩ := HJ.out
        have H1 := hd M1
        clear M1 HJ
        rcases (by omega : j = 0 ∨ j = 1 ∨ j = 2) with rfl | rfl | rfl
        · go_wp2_with fail
          refine (head_0 H1.out).mono ?_
          rintro _ w4 ⟨rfl, M4⟩
          have H4 := hd M4
          clear M4 H1
          go_wp2_with fail
          refine (held_0 H4.out hm1).mono ?_
          rintro _ w5 ⟨rfl, m5, hm5, M5⟩
          have H5 := hd M5
          clear M5 H4
          go_wp2_with fail
          refine (step_any H5.out hm5 5 0 0 0 none 0 0).mono ?_
          rintro _ w6 ⟨rfl, A6, B6, m6, hm6, M6⟩
          have Z : Hid (PS w w6 x a b p q) := ⟨A6, B6, m6, hm6, M6⟩
          clear M6 H5
          go_wp2_with fail
          exact ⟨⟨1, by omega, by go_num, Z⟩, by simp [intOf]⟩
        · go_wp2_with fail
          refine (head_1 H1.out).mono ?_
          rintro _ w4 ⟨rfl, M4⟩
          have H4 := hd M4
          clear M4 H1
          go_wp2_with fail
          refine (held_1 H4.out hm1).mono ?_
          rintro _ w5 ⟨rfl, m5, hm5, M5⟩
          have H5 := hd M5
          clear M5 H4
          go_wp2_with fail
          refine (step_any H5.out hm5 5 1 0 0 none 0 0).mono ?_
          rintro _ w6 ⟨rfl, A6, B6, m6, hm6, M6⟩
          have Z : Hid (PS w w6 x a b p q) := ⟨A6, B6, m6, hm6, M6⟩
          clear M6 H5
          go_wp2_with fail
          exact ⟨⟨2, by omega, by go_num, Z⟩, by simp [intOf]⟩
        · go_wp2_with fail
          refine (calm_any H1.out hm1).mono ?_
          rintro _ _ ⟨rfl, z, rfl⟩
          have Z := hd (MO.base (MO.below H1.out (below_drewN' _ z)))
          clear H1
          go_wp2_with fail
          go_ret
          exact ⟨rfl, Z.out⟩

end Go.Proofs.Ytpjnhjijipcjkaa
