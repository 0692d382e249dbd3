/-
  DocFits: the walk.
-/
import Derived.Test.YtbgpmekjcepmaaaVc
namespace Go.Proofs.Ytbgpmekjcepmaaa
open Go.RowKit
set_option linter.unusedVariables false

set_option maxHeartbeats 1000000 in
theorem docFits_any (n k p c l s : Int) (w : World) (h0 : 0 ≤ c) (h1 : c ≤ 255) :
    Calls Try.prog 3 #[.int .i64 n, .agg #[.int .i64 k, .int .i64 p, .int .u8 c, .int .i64 l, .int .i64 s]] w fun e w' => e = .returned (.bool true) ∧ Below w.heap.size w w' := by
  have H0 := hd h0
  have H1 := hd h1
  clear h0 h1
  obtain ⟨v, hv⟩ : ∃ v, v = validP ⟨k, p, c, l, s⟩ := ⟨_, rfl⟩
  obtain ⟨f, hf⟩ : ∃ f, f = fitsP n ⟨k, p, c, l, s⟩ := ⟨_, rfl⟩
  have HV := hd hv
  have HF := hd hf
  clear hv hf
  go_enter Try.func3, Try.ntmps3
  go_wp2_with fail
  refine (valid_any _ _ _ _ _ _ H0.out H1.out).mono ?_
  rintro e w1 ⟨rfl, b1⟩
  rw [← HV.out]
  have B1 := hd (out_below b1)
  have c0 := out_cell b1 0
  have c1 := out_cell b1 1
  have c2 := out_cell b1 2
  have c3 := out_cell b1 3
  have c4 := out_cell b1 4
  have lt1 := hd (show w.heap.size < w1.heap.size from Nat.lt_of_lt_of_le (by simp) b1.size)
  simp at c0 c1 c2 c3 c4
  clear b1
  go_wp2_with fail
  refine (fits_any _ _ _ _ _ _ _ H0.out H1.out).mono ?_
  rintro e w2 ⟨rfl, b2⟩
  rw [← HF.out]
  have B2 := hd (B1.out.trans (b2.mono B1.out.size))
  have d0 := (b2.cell (p := ⟨w.heap.size, 0, none⟩) lt1.out).trans c0
  have d1 := (b2.cell (p := ⟨w.heap.size, 1, none⟩) lt1.out).trans c1
  have d2 := (b2.cell (p := ⟨w.heap.size, 2, none⟩) lt1.out).trans c2
  have d3 := (b2.cell (p := ⟨w.heap.size, 3, none⟩) lt1.out).trans c3
  have d4 := (b2.cell (p := ⟨w.heap.size, 4, none⟩) lt1.out).trans c4
  have lt2 := hd (Nat.lt_of_lt_of_le lt1.out b2.size)
  clear b2 c0 c1 c2 c3 c4
  go_wp2_with fail
  refine (rvalid_any _ _ _ _ _ _).mono ?_
  rintro e w3 ⟨rfl, b3⟩
  rw [← HV.out]
  have B3 := hd (B2.out.trans (b3.mono B2.out.size))
  have e0 := (b3.cell (p := ⟨w.heap.size, 0, none⟩) lt2.out).trans d0
  have e1 := (b3.cell (p := ⟨w.heap.size, 1, none⟩) lt2.out).trans d1
  have e2 := (b3.cell (p := ⟨w.heap.size, 2, none⟩) lt2.out).trans d2
  have e3 := (b3.cell (p := ⟨w.heap.size, 3, none⟩) lt2.out).trans d3
  have e4 := (b3.cell (p := ⟨w.heap.size, 4, none⟩) lt2.out).trans d4
  clear b3 d0 d1 d2 d3 d4
  go_wp2_with fail
  refine (rfits_any _ _ _ _ _ _ _).mono ?_
  rintro e w4 ⟨rfl, b4⟩
  rw [← HF.out]
  have B4 := hd (B3.out.trans (b4.mono B3.out.size))
  clear b4
  go_wp2
  go_ret
  exact ⟨rfl, B4.out⟩

end Go.Proofs.Ytbgpmekjcepmaaa
