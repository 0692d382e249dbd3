/-
  WireReads: the walk.
-/
import Derived.Test.YtibnlfdnnlbeeaaDoorYb
import Derived.Test.YtibnlfdnnlbeeaaDoorYd
import Derived.Laws.StructEq
import Derived.Deep.DeepCutAuto
namespace Go.Proofs.YtibnlfdnnlbeeaaDoor
open Go.RowKit
set_option linter.unusedVariables false

set_option maxRecDepth 100000 in
set_option maxHeartbeats 8000000 in
theorem wireReads_any (a : Option Addr) (n c : Nat) (bs : List Int) (W : World) (hB : IsB W a n c bs) (hR : Rng bs) (hn : n ≤ 140737488351232) (hL : Lims W) (hH : Handle W) :
    Calls Tryd.prog 5 #[.slice a n c] W fun e w' => e = .returned (.bool true) ∧ Below W.heap.size W w' := by
  have HB := hd hB
  have HR := hd hR
  have HL := hd hL
  have HH := hd hH
  have hl : bs.length = n := hB.1
  have HLN := hd hl
  clear hB hR hL hH hl
  go_enter Tryd.func5, Tryd.ntmps5
  go_wp2_with fail
  refine (fixedItem_any W HL.out).mono ?_
  rintro e w1 ⟨rfl, b1⟩
  have B1 := hd b1
  clear b1
  go_wp2_with fail
  refine (room_any a n c bs w1 (HB.out.below B1.out) hn).mono ?_
  rintro e w2 ⟨g, rfl, O2, b2⟩
  have B2 := hd (B1.out.trans (b2.mono B1.out.size))
  have O2' := hd O2
  have I2 : Hid (IsB w2 (some ⟨g, 0, none⟩) (n + 3) (n + 3) (bs ++ [165, 165, 165])) := hd (by
    obtain ⟨a', c', e1, h⟩ := O2.isB
    injection e1 with e1 e2 e3
    rw [← e1, ← e3] at h
    exact h)
  clear O2 b2
  have i0 : (0 : Int) ≤ (n : Int) := by omega
  have i1 : (n : Int) ≤ (n : Int) + 3 := by omega
  go_wp2_with fail
  refine (decode_any (some ⟨g, 0, none⟩) n (n + 3) bs w2 (by have := I2.out.take n (by omega); rwa [← HLN.out, List.take_left, HLN.out] at this) HR.out hn (HL.out.below B2.out HL.out.lt)).mono ?_
  rintro e w3 ⟨V, v, rfl, hr3, hc3, b3⟩
  have B3 := hd (B2.out.trans (b3.mono B2.out.size))
  have I3 := hd (I2.out.below b3)
  obtain ⟨w4, hw4⟩ : ∃ u, u = w3.alloc (.cells #[.int .i64 (V 0), .int .i64 (V 1), .int .i64 (V 8), .int .i64 (V 9), .int .i64 (V 10), .int .u8 (V 11), .int .i64 (V 12), .int .i64 (V 13)] 26) := ⟨_, rfl⟩
  have b4 : Below w3.heap.size w3 w4 := by rw [hw4]; exact (Below.refl _ _).alloc (Nat.le_refl _) _
  have X4 : w4.heap[w3.heap.size]? = some (.cells #[.int .i64 (V 0), .int .i64 (V 1), .int .i64 (V 8), .int .i64 (V 9), .int .i64 (V 10), .int .u8 (V 11), .int .i64 (V 12), .int .i64 (V 13)] 26 (0, 0)) := by rw [hw4]; exact heap_alloc_new _ _
  have B4 := hd (B3.out.trans (b4.mono B3.out.size))
  have I4 := hd (I3.out.below b4)
  have R4 := hd (hr3.below b4)
  have HX4 := hd X4
  have HW4 := hd hw4
  clear hr3 hc3 b3 b4 X4 hw4 B1 B2 I2 O2' I3 B3
  go_wp2_with fail
  rw [← HW4.out]
  refine (rdecode_any a n c bs w4 (HB.out.below B4.out) HR.out hn).mono ?_
  rintro e w5 ⟨V', code, at', rfl, hc5, hv5, b5⟩
  obtain ⟨hVV, hor⟩ := one_answer (R4.out.below b5) hc5
  subst hVV
  have HOR := hd hor
  have B5 := hd (B4.out.trans (b5.mono B4.out.size))
  have I5 := hd (I4.out.below b5)
  have X5 := hd ((b5.block _ (block_lt HX4.out)).trans HX4.out)
  obtain ⟨w6, hw6⟩ : ∃ u, u = w5.alloc (.cells #[.int .i64 (V 0), .int .i64 (V 1), .int .i64 (V 8), .int .i64 (V 9), .int .i64 (V 10), .int .u8 (V 11), .int .i64 (V 12), .int .i64 (V 13)] 26) := ⟨_, rfl⟩
  have b6 : Below w5.heap.size w5 w6 := by rw [hw6]; exact (Below.refl _ _).alloc (Nat.le_refl _) _
  have X6 : w6.heap[w5.heap.size]? = some (.cells #[.int .i64 (V 0), .int .i64 (V 1), .int .i64 (V 8), .int .i64 (V 9), .int .i64 (V 10), .int .u8 (V 11), .int .i64 (V 12), .int .i64 (V 13)] 26 (0, 0)) := by rw [hw6]; exact heap_alloc_new _ _
  have Y6 := (b6.block _ (block_lt X5.out)).trans X5.out
  have B6 := hd (B5.out.trans (b6.mono B5.out.size))
  have I6 := hd (I5.out.below b6)
  have OR6 : Hid ((v = .nilIface ∧ code = 0 ∧ at' = -1) ∨ IsF w6 v at' code) := hd (by
    rcases HOR.out with h | h
    · exact .inl h
    · exact .inr (h.below b6))
  have W6 := hd hw6
  go_upto_region 6 with fail
  rw [← W6.out]
  have p0 := cell_row X6 0
  simp at p0
  have p1 := cell_row X6 1
  simp at p1
  have p2 := cell_row X6 2
  simp at p2
  have p3 := cell_row X6 3
  simp at p3
  have p4 := cell_row X6 4
  simp at p4
  have p5 := cell_row X6 5
  simp at p5
  have p6 := cell_row X6 6
  simp at p6
  have p7 := cell_row X6 7
  simp at p7
  have q0 := cell_row Y6 0
  simp at q0
  have q1 := cell_row Y6 1
  simp at q1
  have q2 := cell_row Y6 2
  simp at q2
  have q3 := cell_row Y6 3
  simp at q3
  have q4 := cell_row Y6 4
  simp at q4
  have q5 := cell_row Y6 5
  simp at q5
  have q6 := cell_row Y6 6
  simp at q6
  have q7 := cell_row Y6 7
  simp at q7
  have lx := block_lt X6
  have ly := block_lt Y6
  clear X6 Y6 hc5 hv5 b5 b6 hor hw6 HOR B4 B5 I4 I5 X5 R4 HX4 HW4
  obtain ⟨isr, his⟩ : ∃ R : Ending → World → Prop, Hid (Calls Tryd.prog 13 #[v, .int .i64 code, .int .i64 at'] w6 fun e w' => e = .returned (.bool true) ∧ Below w6.heap.size w6 w') := ⟨fun _ _ => True, hd (by
    rcases OR6.out with ⟨rfl, rfl, rfl⟩ | h
    · exact is_nil w6
    · exact is_err v at' code w6 h (HH.out.below B6.out HH.out.pos))⟩
  clear isr OR6
  go_wp2_with fail
  refine his.out.mono ?_
  rintro e w7 ⟨rfl, b7⟩
  clear his p0 p1 p2 p3 p4 p5 p6 p7 q0 q1 q2 q3 q4 q5 q6 q7 lx ly
  have B7 := hd (B6.out.trans (b7.mono B6.out.size))
  have I7 := hd (I6.out.below b7)
  clear b7 B6 I6
  go_wp2_with fail
  refine (room_any a n c bs w7 (HB.out.below B7.out) hn).mono ?_
  rintro e w8 ⟨g8, rfl, O8, b8⟩
  have I8 : Hid (IsB w8 (some ⟨g8, 0, none⟩) (n + 3) (n + 3) (bs ++ [165, 165, 165])) := hd (by
    obtain ⟨a', c', e1, h⟩ := O8.isB
    injection e1 with e1 e2 e3
    rw [← e1, ← e3] at h
    exact h)
  have B8 := hd (B7.out.trans (b8.mono B7.out.size))
  have J8 := hd (I7.out.below b8)
  clear O8 b8 B7 I7
  go_wp2_with fail
  refine (eq_true _ _ _ _ _ _ w8 J8.out I8.out).mono ?_
  rintro e w9 ⟨rfl, m9, hm9⟩
  have Z : Hid (Below W.heap.size W w9) := hd (by rw [hm9]; exact below_drewN B8.out m9)
  clear hm9 J8 I8 B8
  go_wp2_with fail
  go_ret
  exact ⟨rfl, Z.out⟩

end Go.Proofs.YtibnlfdnnlbeeaaDoor
