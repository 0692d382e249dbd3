/-
  head.
-/
import Derived.Test.YtpjnhjijipcjkaaPf
import Derived.Deep.DeepCutAuto
namespace Go.Proofs.Ytpjnhjijipcjkaa
open Go.RowKit
set_option linter.unusedVariables false

set_option maxHeartbeats 4000000 in
theorem head_0 {G : Thg} {w0 w : World} {x a b r q : Nat} {A B : Rb} {m : Nat} (h : PB G w0 w NoK x a b r q A B m) :
    Calls Try.prog 28 #[pt x, .int .i64 0] w fun ex w' => ex = .returned (.bool true) ∧ PB G w0 w' NoK x a b r q A B m := by
  obtain ⟨aL, cL, vW, hbx, -, -, hx⟩ := pb_box h
  have c0 := cell_row hbx 0
  have c2 := cell_row hbx 2
  simp at c0 c2
  obtain ⟨z, hz⟩ : ∃ z, atK A.ib.H (A.c + 1) iz = .int .i64 z := by
    rcases find_oH A.L (A.c + 1) with ⟨h1, -⟩ | ⟨z, -, h1, -⟩
    · exact ⟨0, h1⟩
    · exact ⟨z, h1⟩
  obtain ⟨t, ht⟩ : ∃ t, A.ib.hd = t := ⟨_, rfl⟩
  have HZ := hd (And.intro hz ht)
  clear hz ht
  have H0 := hd h
  clear h hbx
  go_enter Try.func28, Try.ntmps28
  go_wp2_with fail
  refine (mr_head H0.out 2 rfl).mono ?_
  rintro _ w1 ⟨rfl, rfl⟩
  rw [HZ.out.1, HZ.out.2]
  go_wp2_with fail
  refine (mk_head H0.out 0 rfl).mono ?_
  rintro _ w2 ⟨rfl, M, -⟩
  have H1 := hd M
  clear M H0
  rw [HZ.out.1, HZ.out.2]
  go_wp2_with fail
  go_ret
  exact ⟨by simp, H1.out⟩

set_option maxRecDepth 100000 in
set_option maxHeartbeats 4000000 in
theorem head_1 {G : Thg} {w0 w : World} {x a b r q : Nat} {A B : Rb} {m : Nat} (h : PB G w0 w NoK x a b r q A B m) :
    Calls Try.prog 28 #[pt x, .int .i64 1] w fun ex w' => ex = .returned (.bool true) ∧ PB G w0 w' NoK x a b r q A B m := by
  obtain ⟨aL, cL, vW, hbx, -, -, hx⟩ := pb_box h
  have c1 := cell_row hbx 1
  have c3 := cell_row hbx 3
  simp at c1 c3
  have H0 := hd h
  clear h hbx
  rcases find_oH B.L (B.c + 1) with ⟨h1, h2, h3⟩ | ⟨z, h1, h2, h3⟩
  · have HZ := hd (And.intro h1 (And.intro h2 h3))
    clear h1 h2 h3
    have e1 : atK B.ib.H (B.c + 1) iz = iz := HZ.out.1
    have e2 : B.ib.hd = false := HZ.out.2.1
    have HE := hd (And.intro e1 e2)
    clear e1 e2
    go_enter Try.func28, Try.ntmps28
    go_wp2_with fail
    refine (mr_head H0.out 3 rfl).mono ?_
    rintro _ w1 ⟨rfl, rfl⟩
    rw [HE.out.1, HE.out.2]
    go_wp2_with fail
    refine (mq_head H0.out 1 rfl).mono ?_
    rintro _ w2 ⟨rfl, M, -⟩
    have H1 := hd M
    clear M H0
    rw [HZ.out.2.2, HE.out.2]
    go_wp2_with fail
    go_ret
    exact ⟨by simp, MO.below H1.out ((Below.refl _ _).alloc (Nat.le_refl _) _)⟩
  · have HZ := hd (And.intro h1 (And.intro h2 h3))
    clear h1 h2 h3
    have e1 : atK B.ib.H (B.c + 1) iz = .int .i64 z := HZ.out.2.1
    have e2 : B.ib.hd = true := HZ.out.1
    have HE := hd (And.intro e1 e2)
    clear e1 e2
    go_enter Try.func28, Try.ntmps28
    go_wp2_with fail
    refine (mr_head H0.out 3 rfl).mono ?_
    rintro _ w1 ⟨rfl, rfl⟩
    rw [HE.out.1, HE.out.2]
    go_wp2_with fail
    refine (mq_head H0.out 1 rfl).mono ?_
    rintro _ w2 ⟨rfl, M, -⟩
    have H1 := hd M
    clear M H0
    rw [HZ.out.2.2, HE.out.2]
    have ho := op_any z
    unfold opV at ho ⊢
    go_wp2_with fail
    go_region_law (go_simp; go_at_call 48; refine (ho _).mono ?_; rintro _ _ ⟨rfl, o, rfl⟩)
    all_goals
      go_wp2
      go_ret
      refine ⟨by first | rfl | simp [Act.put], MO.below H1.out ?_⟩
      repeat (first | exact Below.refl _ _ | refine Below.drew ?_ | refine below_drewN ?_ _ | refine Below.alloc ?_ (by simp) _)

end Go.Proofs.Ytpjnhjijipcjkaa
