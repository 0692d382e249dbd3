/-
  DocLooks: the walk.
-/
import Derived.Test.YtbgpmekjcepmaaaFk
import Derived.Test.YtbgpmekjcepmaaaTx
namespace Go.Proofs.Ytbgpmekjcepmaaa
open Go.RowKit
set_option linter.unusedVariables false

set_option maxRecDepth 100000 in
set_option maxHeartbeats 4000000 in
theorem looks_in (a b : Option Addr) (n c m d : Nat) (wc wl ws : Int) (xs ys : List El) (S : ByteArray) (F : Int) (U : Bool) (w : World) (hx : IsE w a n c xs) (hy : IsE w b m d ys) (hn : n * 24 ≤ 140737488351232)
    (hS : Hid (bstr (xs.map (·.1)) = S)) (hF : Hid (findP wl ws xs 0 = F)) (hU : Hid (decide (xs = ys) = U)) :
    Calls Try.prog 5 #[.slice a n c, .slice b m d, .agg #[.int .u8 wc, .int .i64 wl, .int .i64 ws]] w fun e w' => e = .returned (.bool true) ∧ Below w.heap.size w w' := by
  have HN := hd hn
  have B0 : Hid (Below w.heap.size w (w.alloc (.cells #[.int .u8 wc, .int .i64 wl, .int .i64 ws] 32))) := (Below.refl _ _).alloc (Nat.le_refl _) _
  have X0 := hd (hx.below B0.out)
  have Y0 := hd (hy.below B0.out)
  clear hx hy hn
  go_enter Try.func5, Try.ntmps5
  go_wp2_with fail
  refine (rtext_any a n c xs _ X0.out HN.out).mono ?_
  rintro e w1 ⟨rfl, b1⟩
  rw [hS.out]
  have bb1 := out_below b1
  have B1 := hd bb1
  have X1 := hd (X0.out.below b1)
  have Y1 := hd (Y0.out.below b1)
  have ca1 := out_cell b1 1
  have cb1 := out_cell b1 2
  simp at ca1 cb1
  have lt1 : Hid (w.heap.size < w1.heap.size) := Nat.lt_of_lt_of_le (by simp) b1.size
  clear b1 bb1 B0 X0 Y0
  go_wp2_with fail
  refine (rfind_any a n c wl ws xs _ X1.out).mono ?_
  rintro e w2 ⟨rfl, b2⟩
  rw [hF.out]
  have B2 := hd (B1.out.trans (b2.mono B1.out.size))
  have X2 := hd (X1.out.below b2)
  have Y2 := hd (Y1.out.below b2)
  have ca2 := (b2.cell (p := ⟨w.heap.size, 1, none⟩) lt1.out).trans ca1
  have cb2 := (b2.cell (p := ⟨w.heap.size, 2, none⟩) lt1.out).trans cb1
  have lt2 := hd (Nat.lt_of_lt_of_le lt1.out b2.size)
  clear b2 B1 X1 Y1 ca1 cb1 lt1
  go_wp2_with fail
  refine (requal_any a b n m c d xs ys _ X2.out Y2.out).mono ?_
  rintro e w3 ⟨rfl, m3, rfl⟩
  rw [hU.out]
  have B3 := hd (below_drewN B2.out m3)
  have X3 := hd (X2.out.drewN m3)
  have Y3 := hd (Y2.out.drewN m3)
  have ca3 : (w2.drewN m3).cell? ⟨w.heap.size, 1, none⟩ = _ := ca2
  have cb3 : (w2.drewN m3).cell? ⟨w.heap.size, 2, none⟩ = _ := cb2
  have lt3 : Hid (w.heap.size < (w2.drewN m3).heap.size) := lt2
  clear B2 X2 Y2 ca2 cb2 lt2
  generalize w2.drewN m3 = w3 at *
  go_wp2_with fail
  refine (text_any a n c xs _ X3.out HN.out).mono ?_
  rintro e w4 ⟨rfl, b4⟩
  rw [hS.out]
  have B4 := hd (B3.out.trans (b4.mono B3.out.size))
  have X4 := hd (X3.out.below b4)
  have Y4 := hd (Y3.out.below b4)
  have ca4 := (b4.cell (p := ⟨w.heap.size, 1, none⟩) lt3.out).trans ca3
  have cb4 := (b4.cell (p := ⟨w.heap.size, 2, none⟩) lt3.out).trans cb3
  have lt4 := hd (Nat.lt_of_lt_of_le lt3.out b4.size)
  clear b4 B3 X3 Y3 ca3 cb3 lt3
  go_wp2_with fail
  refine (find_any a n c wl ws xs _ X4.out).mono ?_
  rintro e w5 ⟨rfl, b5⟩
  rw [hF.out]
  have B5 := hd (B4.out.trans (b5.mono B4.out.size))
  have X5 := hd (X4.out.below b5)
  have Y5 := hd (Y4.out.below b5)
  have ca5 := (b5.cell (p := ⟨w.heap.size, 1, none⟩) lt4.out).trans ca4
  have cb5 := (b5.cell (p := ⟨w.heap.size, 2, none⟩) lt4.out).trans cb4
  have lt5 := hd (Nat.lt_of_lt_of_le lt4.out b5.size)
  clear b5 B4 X4 Y4 ca4 cb4 lt4
  go_wp2_with fail
  refine (equal_any a b n m c d xs ys _ X5.out Y5.out).mono ?_
  rintro e w6 ⟨rfl, b6⟩
  rw [hU.out]
  have B6 := hd (B5.out.trans (b6.mono B5.out.size))
  have X6 := hd (X5.out.below b6)
  have Y6 := hd (Y5.out.below b6)
  have ca6 := (b6.cell (p := ⟨w.heap.size, 1, none⟩) lt5.out).trans ca5
  have cb6 := (b6.cell (p := ⟨w.heap.size, 2, none⟩) lt5.out).trans cb5
  have lt6 := hd (Nat.lt_of_lt_of_le lt5.out b6.size)
  clear b6 B5 X5 Y5 ca5 cb5 lt5
  go_wp2_with fail
  refine (equal_any a a n n c c xs xs _ X6.out X6.out).mono ?_
  rintro e w7 ⟨rfl, b7⟩
  rw [decide_eq_true rfl]
  have B7 := hd (B6.out.trans (b7.mono B6.out.size))
  have X7 := hd (X6.out.below b7)
  have Y7 := hd (Y6.out.below b7)
  have ca7 := (b7.cell (p := ⟨w.heap.size, 1, none⟩) lt6.out).trans ca6
  have cb7 := (b7.cell (p := ⟨w.heap.size, 2, none⟩) lt6.out).trans cb6
  have lt7 := hd (Nat.lt_of_lt_of_le lt6.out b7.size)
  clear b7 B6 X6 Y6 ca6 cb6 lt6
  go_wp2
  go_ret
  exact ⟨rfl, B7.out⟩

theorem docLooks_any (a : Option Addr) (n c : Nat) (b : Option Addr) (m d : Nat) (wc wl ws : Int) (xs ys : List El) (w : World) (hx : IsE w a n c xs) (hy : IsE w b m d ys) (hk : ∀ x ∈ xs, 0 ≤ x.1 ∧ x.1 ≤ 255) (hn : n * 24 ≤ 140737488351232) :
    Calls Try.prog 5 #[.slice a n c, .slice b m d, .agg #[.int .u8 wc, .int .i64 wl, .int .i64 ws]] w fun e w' => e = .returned (.bool true) ∧ Below w.heap.size w w' :=
  looks_in a b n c m d wc wl ws xs ys _ _ _ w hx hy hn (rfl : _ = _) (rfl : _ = _) (rfl : _ = _)

end Go.Proofs.Ytbgpmekjcepmaaa
