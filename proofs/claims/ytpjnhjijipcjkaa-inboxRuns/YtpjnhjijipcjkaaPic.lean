/-
  changes.
-/
import Derived.Test.YtpjnhjijipcjkaaPi
import Derived.Deep.DeepCutAuto
namespace Go.Proofs.Ytpjnhjijipcjkaa
open Go.RowKit
set_option linter.unusedVariables false

set_option maxRecDepth 100000 in
set_option maxHeartbeats 8000000 in
theorem changes_1_1 {G : Thg} {w0 w : World} {x a b r q : Nat} {A B : Rb} {m : Nat} (h : PB G w0 w NoK x a b r q A B m) (s n v : Int) (ia : Option Addr) (il ic : Nat) (hs : bits BinOp.and IntKind.i64 s 1 = 1) :
    Calls Try.prog 44 #[pt x, opA 1 s n v ia il ic] w fun ex w' => ex = .returned (.bool true) ∧ ∃ A' B', PB G w0 w' NoK x a b r q A' B' m := by
  have hok := hd (mq_ok h 3 rfl)
  obtain ⟨U, hU⟩ : ∃ U, U = w.alloc (.cells #[.int .i64 1, .int .i64 s, .int .i64 n, .int .i64 v, .slice ia il ic] 56) := ⟨_, rfl⟩
  have hbU : RowKit.Below w.heap.size w U := by rw [hU]; exact (Below.refl _ _).alloc (Nat.le_refl _) _
  have h1 := mo_adds h hbU
  have zU : U.heap.size = w.heap.size + 1 := by rw [hU]; simp
  have hg : U.heap[w.heap.size]? = some (.cells #[.int .i64 1, .int .i64 s, .int .i64 n, .int .i64 v, .slice ia il ic] 56 (0, 0)) := by rw [hU]; exact heap_alloc_new w _
  obtain ⟨g, hgg⟩ : ∃ g, g = w.heap.size := ⟨_, rfl⟩
  obtain ⟨aL, cL, vW, hbx, -, -, hx⟩ := pb_box h1
  have c2 := cell_row hbx 3
  rw [← hgg] at hg
  have d0 := cell_row hg 0
  have d1 := cell_row hg 1
  have d2 := cell_row hg 2
  have d3 := cell_row hg 3
  simp at c2 d0 d1 d2 d3
  have H1 := hd h1
  have HG := hd (And.intro hg (And.intro hgg zU))
  have HW := hd hU
  clear h h1 hbx hg hbU zU hU
  go_enter Try.func44, Try.ntmps44
  go_wp2_with fail
  rw [← HW.out, ← hgg]
  clear HW hgg
  go_quiet (fail)
  go_wp2_with fail
  refine (mr_put (MO.below H1.out (by repeat (first | exact Below.refl _ _ | refine Below.drew ?_ | refine below_drewN ?_ _ | refine Below.alloc ?_ (by simp) _))) 3 rfl n v).mono ?_
  rintro _ w1 ⟨rfl, M1, P1⟩
  rw [FP_3] at M1
  have hg1 := (P1 g (.inr ⟨by rw [HG.out.2.1]; exact Nat.le_refl _, by rw [HG.out.2.1, HG.out.2.2]; omega⟩)).trans HG.out.1
  obtain ⟨aL', cL', vW', hbx1, -, -, hx1⟩ := pb_box M1
  have e1 := cell_row hbx1 1
  have f2 := cell_row hg1 2
  have f3 := cell_row hg1 3
  simp at e1 f2 f3
  have e1a := fun o => (((Below.refl w1.heap.size w1).alloc (Nat.le_refl _) o).cell (p := ⟨x, 1, none⟩) (block_lt hbx1)).trans e1
  have f2a := fun o => (((Below.refl w1.heap.size w1).alloc (Nat.le_refl _) o).cell (p := ⟨g, 2, none⟩) (block_lt hg1)).trans f2
  have f3a := fun o => (((Below.refl w1.heap.size w1).alloc (Nat.le_refl _) o).cell (p := ⟨g, 3, none⟩) (block_lt hg1)).trans f3
  have H2 := hd M1
  clear M1 P1 hbx1 hg1 H1 c2 d0 d1 d2 d3 hx HG
  go_wp2_with fail
  go_region_law (first | (go_simp; go_at_call 48; refine (op_any v _).mono ?_; rintro _ _ ⟨rfl, oo, rfl⟩) | (go_simp; go_at_call 58; refine (mq_put (MO.below H2.out (by repeat (first | exact Below.refl _ _ | refine Below.drew ?_ | refine below_drewN ?_ _ | refine Below.alloc ?_ (by simp) _))) 1 rfl n v).mono ?_; rintro _ w2 ⟨rfl, M2, -⟩; rw [FP_1] at M2; have H3 := hd M2; clear M2))
  all_goals
    go_wp2
    go_ret
    refine ⟨by first | rfl | simp [Act.put], _, _, MO.less (MO.below H3.out (by repeat (first | exact Below.refl _ _ | refine Below.drew ?_ | refine below_drewN ?_ _ | refine Below.alloc ?_ (by simp) _))) (fun k hk => hk.elim)⟩

end Go.Proofs.Ytpjnhjijipcjkaa
