/-
  Of the laws: is, fixedItem.
-/
import Derived.Test.YtibnlfdnnlbeeaaDoorVn
namespace Go.Proofs.YtibnlfdnnlbeeaaDoor
open Go.RowKit
set_option linter.unusedVariables false

set_option maxHeartbeats 2000000 in
theorem is_err (v : Value) (p c : Int) (w : World) (hF : IsF w v p c) (hH : Handle w) : Calls Tryd.prog 13 #[v, .int .i64 c, .int .i64 p] w fun e w' => e = .returned (.bool true) ∧ Below w.heap.size w w' := by
  have HF := hd hF
  have HH := hd hH
  obtain ⟨b, rfl, -⟩ := hF
  clear hH
  go_enter Tryd.func13, Tryd.ntmps13
  go_wp2_with fail
  refine (HF.out.code HH.out).mono ?_
  rintro e w1 ⟨rfl, b1⟩
  have F1 := hd (HF.out.below b1)
  have H1 := hd (HH.out.below b1 HH.out.pos)
  have B1 := hd b1
  clear b1
  go_wp2_with fail
  refine (F1.out.place H1.out).mono ?_
  rintro e w2 ⟨rfl, b2⟩
  have R := hd (B1.out.trans (b2.mono B1.out.size))
  clear b2
  go_wp2
  go_ret
  exact ⟨by first | rfl | simp, R.out⟩

set_option maxHeartbeats 1000000 in
theorem code_nil (w : World) : Calls Tryd.prog 16 #[.nilIface] w fun e w' => e = .returned (.int .i64 0) ∧ Below w.heap.size w w' := by
  go_enter Tryd.func16, Tryd.ntmps16
  go_wp2
  go_ret
  exact ⟨rfl, (Below.refl _ _).alloc (Nat.le_refl _) _⟩

set_option maxHeartbeats 1000000 in
theorem place_nil (w : World) : Calls Tryd.prog 17 #[.nilIface] w fun e w' => e = .returned (.int .i64 (-1)) ∧ Below w.heap.size w w' := by
  go_enter Tryd.func17, Tryd.ntmps17
  go_wp2_with fail
  refine (as_nil _ _).mono ?_
  rintro e w1 ⟨rfl, hw1⟩
  subst hw1
  go_wp2
  go_ret
  exact ⟨rfl, (Below.refl _ _).alloc (Nat.le_refl _) _⟩

set_option maxHeartbeats 2000000 in
theorem is_nil (w : World) : Calls Tryd.prog 13 #[.nilIface, .int .i64 0, .int .i64 (-1)] w fun e w' => e = .returned (.bool true) ∧ Below w.heap.size w w' := by
  go_enter Tryd.func13, Tryd.ntmps13
  go_wp2_with fail
  refine (code_nil _).mono ?_
  rintro e w1 ⟨rfl, b1⟩
  have B1 := hd b1
  clear b1
  go_wp2_with fail
  refine (place_nil _).mono ?_
  rintro e w2 ⟨rfl, b2⟩
  have R := hd (B1.out.trans (b2.mono B1.out.size))
  clear b2
  go_wp2
  go_ret
  exact ⟨by first | rfl | simp, R.out⟩

set_option maxRecDepth 100000 in
set_option maxHeartbeats 4000000 in
theorem fixedItem_any (w : World) (hL : Lims w) : Calls Tryd.prog 10 #[] w fun e w' => e = .returned (.bool true) ∧ Below w.heap.size w w' := by
  have hrel : Rel ⟨1, 7, 0, 0, 0, 0, 0, 0⟩ [1, 7] := .inl ⟨7, by omega, by omega, rfl, rfl⟩
  have HREL := hd hrel
  have hok := (write_of_rel hrel).2.2.2
  have bz : Below w.heap.size w (w.alloc (.cells #[.int .i64 1, .int .i64 7, .int .i64 0, .int .i64 0, .int .i64 0, .int .u8 0, .int .i64 0, .int .i64 0] 26)) := (Below.refl _ _).alloc (Nat.le_refl _) _
  have hx : XB (w.alloc (.cells #[.int .i64 1, .int .i64 7, .int .i64 0, .int .i64 0, .int .i64 0, .int .u8 0, .int .i64 0, .int .i64 0] 26)) w.heap.size ⟨1, 7, 0, 0, 0, 0, 0, 0⟩ := heap_alloc_new _ _
  have BZ := hd bz
  have HX := hd hx
  have HL := hd (hL.below bz hL.lt)
  clear bz hx hL hrel
  go_enter Tryd.func10, Tryd.ntmps10
  go_wp2_with fail
  generalize w.alloc (.cells #[.int .i64 1, .int .i64 7, .int .i64 0, .int .i64 0, .int .i64 0, .int .u8 0, .int .i64 0, .int .i64 0] 26) = w0 at *
  refine (encode_any ⟨1, 7, 0, 0, 0, 0, 0, 0⟩ _ hok HL.out).mono ?_
  rintro e w1 hE
  obtain ⟨b1, u, rfl, ho⟩ := hE.good HREL.out
  obtain ⟨a', c', rfl, hB1⟩ := ho.isB
  have B1 := hd (BZ.out.trans (b1.mono BZ.out.size))
  have X1 := hd (HX.out.below b1)
  have L1 := hd (HL.out.below b1 HL.out.lt)
  have b2 : Below w1.heap.size w1 (w1.alloc (.cells #[.int .u8 1, .int .u8 7] 5)) := (Below.refl _ _).alloc (Nat.le_refl _) _
  have hB2 := hB1.below b2
  have hB3 : IsB (w1.alloc (.cells #[.int .u8 1, .int .u8 7] 5)) (some ⟨w1.heap.size, 0, none⟩) 2 2 [1, 7] := by
    refine ⟨rfl, Nat.le_refl _, by omega, fun _ => ⟨_, 0, rfl, by simp, fun i hi => ?_⟩⟩
    rw [Nat.zero_add, cell_row (heap_alloc_new _ _)]
    have : i = 0 ∨ i = 1 := by omega
    rcases this with rfl | rfl <;> rfl
  have C := hd (eq_true a' (some ⟨w1.heap.size, 0, none⟩) 2 c' 2 [1, 7] _ hB2 hB3)
  have HB1 := hd hB1
  have B2 := hd b2
  clear hE ho hB1 hB2 hB3 b1 b2 HX HL BZ
  go_wp2_with fail
  generalize w1.alloc (.cells #[.int .u8 1, .int .u8 7] 5) = w2 at *
  refine C.out.mono ?_
  rintro e w3 ⟨rfl, m, rfl⟩
  have b3 := below_drewN B2.out m
  have X3 := hd (X1.out.below b3)
  have L3 := hd (L1.out.below b3 L1.out.lt)
  have B3 := hd (B1.out.trans (b3.mono B1.out.size))
  have HB3 := hd (HB1.out.below b3)
  clear b3 B2 C X1 L1 B1 HB1
  generalize w2.drewN m = w3 at *
  go_wp2_with fail
  refine (decode_any a' 2 c' [1, 7] _ HB3.out (read_of_rel HREL.out).1 (by omega) L3.out).mono ?_
  rintro e w5 ⟨V, v, rfl, hr, -, b5⟩
  obtain ⟨rfl, hV⟩ := hr.of_rel HREL.out
  have X5 := hd (X3.out.below b5)
  have B5 := hd (B3.out.trans (b5.mono B3.out.size))
  have b6 : Below w5.heap.size w5 (w5.alloc (.cells #[.int .i64 (V 0), .int .i64 (V 1), .int .i64 (V 8), .int .i64 (V 9), .int .i64 (V 10), .int .u8 (V 11), .int .i64 (V 12), .int .i64 (V 13)] 26)) := (Below.refl _ _).alloc (Nat.le_refl _) _
  have hx6 := (X5.out.below b6).at
  rw [← hV] at hx6
  simp only [itOf] at hx6
  obtain ⟨c0, c1, c2, c3, c4, c5, c6, c7⟩ := hx6
  have R := hd (B5.out.trans (b6.mono B5.out.size))
  clear hr b5 b6 B3 X3 L3 HB3 B5 X5 hok HREL hV
  go_wp2
  go_ret
  exact ⟨by first | rfl | simp, R.out⟩

end Go.Proofs.YtibnlfdnnlbeeaaDoor
