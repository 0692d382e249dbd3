/-
  The law fixed.
-/
import Derived.Test.YtpjnhjijipcjkaaMb
namespace Go.Proofs.Ytpjnhjijipcjkaa
open Go.RowKit
set_option linter.unusedVariables false

def fx1 : Ib := ⟨2, 0, [(2, .int .i64 20)]⟩
def fx2 : Ib := ⟨2, 0, [(2, .int .i64 20), (1, .int .i64 10)]⟩
def fx3 : Ib := ⟨2, 1, [(2, .int .i64 20)]⟩
theorem fx_1 : iputE ⟨2, 0, []⟩ 2 = 0 ∧ iputS ⟨2, 0, []⟩ 2 (.int .i64 20) = fx1 := ⟨rfl, rfl⟩
theorem fx_2 : iputE fx1 1 = 0 ∧ iputS fx1 1 (.int .i64 10) = fx2 := ⟨rfl, rfl⟩
theorem fx_3 : atK fx2.H (fx2.c + 1) iz = .int .i64 10 ∧ fx2.hd = true ∧ itossE fx2 = 0 ∧ ipopS fx2 = fx3 := ⟨rfl, rfl, rfl, rfl⟩
theorem fx_4 : atK fx3.H (fx3.c + 1) iz = .int .i64 20 ∧ fx3.hd = true ∧ (fx3.c : Int) = 1 := ⟨rfl, rfl, rfl⟩

set_option maxHeartbeats 4000000 in
set_option maxRecDepth 100000 in
theorem fixed_true (w : World) : Calls Try.prog 24 #[] w fun e w' => e = .returned (.bool true) ∧ RowKit.Below w.heap.size w w' := by
  go_enter Try.func24, Try.ntmps24
  go_wp2_with fail
  refine (ix_new 2 w (by omega) (by omega)).mono ?_
  rintro e w1 ⟨x, rfl, h1⟩
  have S1 := hd h1
  clear h1
  go_wp2_with fail
  refine (ix_put S1.out 2 20).mono ?_
  rintro e w2 ⟨rfl, h2, -⟩
  rw [fx_1.2] at h2
  rw [fx_1.1]
  have S2 := hd h2
  clear h2 S1
  go_wp2_with fail
  refine (ix_put S2.out 1 10).mono ?_
  rintro e w3 ⟨rfl, h3, -⟩
  rw [fx_2.2] at h3
  rw [fx_2.1]
  have S3 := hd h3
  clear h3 S2
  go_wp2_with fail
  refine (ix_head S3.out).mono ?_
  rintro e w4 ⟨rfl, h4, -⟩
  rw [fx_3.1, fx_3.2.1]
  have S4 := hd h4
  clear h4 S3
  go_wp2_with fail
  refine (ix_pop S4.out).mono ?_
  rintro e w5 ⟨rfl, h5, -⟩
  rw [fx_3.2.2.2] at h5
  rw [fx_3.2.2.1]
  have S5 := hd h5
  clear h5 S4
  go_wp2_with fail
  refine (ix_cum S5.out).mono ?_
  rintro e w6 ⟨rfl, rfl⟩
  rw [fx_4.2.2]
  go_wp2_with fail
  refine (ix_head S5.out).mono ?_
  rintro e w7 ⟨rfl, h7, -⟩
  rw [fx_4.1, fx_4.2.1]
  have S7 := hd h7.base
  clear h7 S5
  go_wp2_with fail
  go_ret
  exact ⟨rfl, S7.out⟩

end Go.Proofs.Ytpjnhjijipcjkaa
