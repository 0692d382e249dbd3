/-
  next, here, Run.
-/
import Derived.Test.YtpjnhjijipcjkaaPk
namespace Go.Proofs.Ytpjnhjijipcjkaa
open Go.RowKit
set_option linter.unusedVariables false

set_option maxHeartbeats 2000000 in
theorem here_any (k s n v : Int) (ia : Option Addr) (il ic : Nat) (w : World) : Calls Try.prog 31 #[opA k s n v ia il ic] w fun e w' => e = .returned (opA k 0 n v ia il ic) ∧ RowKit.Below w.heap.size w w' := by
  go_enter Try.func31, Try.ntmps31
  go_wp2
  refine bodyPost_ret (v := opA k 0 n v ia il ic) (by simp [results, Try.results31, go_sem]) rfl ?_
  refine ⟨rfl, ?_⟩
  repeat (first | exact Below.refl _ _ | refine Below.setCell ?_ (by simp) _ | refine Below.alloc ?_ (by simp) _)

set_option maxHeartbeats 2000000 in
theorem run_any (a : Nat) (w : World) : Calls Try.prog 30 #[pt a] w fun e w' => e = .returned (.func (.func 52) #[] #[.pointer (some ⟨w.heap.size, 0, none⟩)]) ∧ w' = w.alloc (.cells #[pt a] 28) := by
  go_enter Try.func30, Try.ntmps30
  go_wp2
  go_ret
  exact ⟨rfl, rfl⟩

theorem rpop_c {A : Rb} (h : A.ib.hd = true) : (rpopS A).c = A.c + 1 := by
  unfold rpopS
  rw [if_pos h]

set_option maxHeartbeats 4000000 in
theorem next_any {G : Thg} {w0 w : World} {K : Nat → Prop} {x a b r q : Nat} {A B : Rb} {m : Nat} (h : MO w0 w K (FP G x a b r q (rpopS A) B A B m)) (hh : A.ib.hd = true) (z : Int) (hz : atK A.ib.H (A.c + 1) iz = .int .i64 z) (hc : A.c ≤ 4096) :
    Calls Try.prog 53 #[pt x, .int .i64 ((A.c + 1 : Nat) : Int), .int .i64 z] w fun ex w' => ex = .returned (.bool true) ∧ MO w0 w' K (FP G x a b r q (rpopS A) B (rpopS A) B m) ∧ KP K w w' := by
  obtain ⟨aL, cL, vW, hbx, -, -, hx⟩ := pb_box h
  have c2 := cell_row hbx 2
  simp at c2
  have HZ := hd (And.intro hz (And.intro hh (And.intro (itossE_of' hh) (rpop_c hh))))
  have H0 := hd h
  clear h hbx hz hh
  have hw1 : wrap64 ((A.c : Int) + 1) = (A.c : Int) + 1 := by unfold wrap64; omega
  go_enter Try.func53, Try.ntmps53
  go_wp2_with fail
  refine (mr_head H0.out 2 rfl).mono ?_
  rintro _ w1 ⟨rfl, rfl⟩
  rw [HZ.out.1, HZ.out.2.1]
  go_wp2_with fail
  refine (mr_cum H0.out 2 rfl).mono ?_
  rintro _ w2 ⟨rfl, rfl⟩

  go_wp2_with fail
  refine (mr_pop H0.out 2 rfl).mono ?_
  rintro _ w3 ⟨rfl, M3, P3⟩
  rw [HZ.out.2.2.1]
  rw [FP_2] at M3
  obtain ⟨aL', cL', vW', hbx3, -, -, hx3⟩ := pb_box M3
  have c0 := cell_row hbx3 0
  simp at c0
  have H3 := hd (And.intro M3 P3)
  clear M3 P3 hbx3 H0 c2
  go_wp2_with fail
  refine (mk_cum H3.out.1 0 rfl).mono ?_
  rintro _ w4 ⟨rfl, rfl⟩
  go_wp2_with fail
  refine (mr_cum H3.out.1 2 rfl).mono ?_
  rintro _ w5 ⟨rfl, rfl⟩
  go_wp2_with fail
  go_ret
  exact ⟨by simp, H3.out⟩

end Go.Proofs.Ytpjnhjijipcjkaa
