/-
  DocFull: the walk.
-/
import Derived.Test.YtbgpmekjcepmaaaRows2
import Derived.Test.YtbgpmekjcepmaaaPl
import Derived.Test.YtbgpmekjcepmaaaVd
namespace Go.Proofs.Ytbgpmekjcepmaaa
open Go.RowKit
set_option linter.unusedVariables false

def FRel (w wr : World) (g M : Nat) : Prop := ∃ xs, RowE wr g M M xs ∧ Below w.heap.size w wr

set_option maxRecDepth 100000 in
set_option maxHeartbeats 4000000 in
theorem full_in (x ch c : Int) (M : Nat) (w : World) (hc : c = 32 + ch % 95) (h0 : 32 ≤ c) (h1 : c ≤ 126) (h2 : 0 ≤ ch) (h3 : ch ≤ 255) (m0 : M ≤ 4096) (m1 : 4096 ≤ M) :
    Calls Try.prog 4 #[.int .i64 x, .int .u8 ch] w fun e w' => e = .returned (.bool true) ∧ Below w.heap.size w w' := by
  obtain ⟨i0, hi0, hz0, hz1, hz2⟩ := info_parts Try.infoE
  go_enter Try.func4, Try.ntmps4
  go_wp2_with (at_make; refine wpList_make_k _ rfl _ _ 30 rfl 32 i0 _ Try.underlying30 hi0 hz0 _ _ _ _ M M rfl rfl (by omega) (by omega) (by omega) (by rw [hz2]; omega) (by omega) ?_; intro w1 cur hg1 hcur hb1)
  have R1 : Hid (FRel w w1 w.heap.size M) := ⟨_, row_made hg1.out (by have := hcur.out; rw [hz1] at this; exact this) (by omega), hb1.out⟩
  clear hg1 hcur hb1 hi0 hz0 hz1 hz2
  have HC := hd hc
  clear hc
  go_wp2
  go_loopw [6] (fun i wr => ∃ k : Nat, k ≤ M ∧ i = .int .i64 k ∧ Hid (FRel w wr w.heap.size M)) (fun i _ => M - (intOf i).toNat)
  case atStart => exact ⟨0, Nat.zero_le _, rfl, R1⟩
  case round =>
    obtain ⟨k, hk, rfl, hr⟩ := hrel
    clear R1
    by_cases hlt : k < M
    · obtain ⟨xs, hR, hB⟩ := hr.out
      obtain ⟨⟨a0, c0⟩, ⟨a1, c1⟩, ⟨a2, c2⟩⟩ := hR.cells k hlt
      have f0 := hR.frozen (k * 3)
      have f1 := hR.frozen (k * 3 + 1)
      have f2 := hR.frozen (k * 3 + 2)
      have i1 : (k : Int) < 4096 := by omega
      have i2 : (k : Int) < (M : Int) := by omega
      have HR := hd hR
      have HB := hd hB
      clear hR hB hr
      go_wp2
      refine ⟨⟨k + 1, by omega, by go_num, ⟨_, HR.out.set3 k _ _ _ hlt, ?_⟩⟩, by simp [intOf]; omega⟩
      exact ((HB.out.setCell (Nat.le_refl _) _).setCell (Nat.le_refl _) _).setCell (Nat.le_refl _) _
    · have i1 : ¬ (k : Int) < 4096 := by omega
      obtain ⟨xs, hR, hB⟩ := hr.out
      have HR := hd hR
      have HB := hd hB
      clear hR hB hr
      go_wp2_with fail
      refine (place_any x 4096 _ (by omega) (by omega)).mono ?_
      rintro e w2 ⟨p, rfl, hp, rfl⟩
      have HP := hd hp
      have HF1 : Hid (fitsP (M : Int) ⟨1, p, c, 3, 3⟩ = 44) := by
        rw [fitsP_eq _ _ _ _ _ _ (valid_ins h0 h1 (by omega) (by omega) (by omega) (by omega) (by omega) (by omega)), if_pos (by omega)]
        exact (rfl : _ = _)
      have HF2 : Hid (fitsP (M : Int) ⟨2, p, 0, 3, 4⟩ = 0) := fits_del (by omega) (by omega) (by omega) (by omega) (by omega) m0
      have HF3 : Hid (fitsP ((4095 : Nat) : Int) ⟨2, 4095, 0, 3, 5⟩ = 43) := by
        rw [fitsP_eq _ _ _ _ _ _ (valid_del (by omega) (by omega) (by omega) (by omega) (by omega) (by omega)), if_neg (by omega), if_pos (by omega)]
        exact (rfl : _ = _)
      have HF4 : Hid (fitsP ((4095 : Nat) : Int) ⟨1, p, c, 3, 3⟩ = 0) := fits_ins h0 h1 (by omega) (by omega) (by omega) (by omega) (by omega) (by omega)
      have HL : Hid (xs.length = M) := HR.out.isE.1
      go_wp2_with fail
      rw [← HC.out]
      refine (apply_bad _ M M 1 p c 3 3 44 _ (by omega) (by omega) HF1.out (by omega)).mono ?_
      rintro e w3 ⟨rfl, b3⟩
      have c0 := out_cell b3 0
      have c1 := out_cell b3 1
      have c2 := out_cell b3 2
      have c3 := out_cell b3 3
      have c4 := out_cell b3 4
      simp at c0 c1 c2 c3 c4
      have bb3 := out_below b3
      have E3 := hd (HR.out.isE.below bb3)
      have B3 := hd (HB.out.trans (bb3.mono HB.out.size))
      have lt3 := hd (show wr.heap.size < w3.heap.size from Nat.lt_of_lt_of_le (by simp) b3.size)
      clear b3 bb3 HR HB
      generalize wr.heap.size = r at *
      go_wp2_with fail
      refine (apply_good _ M M 2 p 0 3 4 xs _ E3.out (by omega) (by omega) HF2.out).mono ?_
      rintro e w4 ⟨v, rfl, hO, b4⟩
      obtain ⟨g4, cp4, -, rfl, hR4⟩ := hO.form
      have hl4 : (applyP xs ⟨2, p, 0, 3, 4⟩).length = 4095 := by
        have := applyP_len (xs := xs) (o := ⟨2, p, 0, 3, 4⟩) (by rw [HL.out]; exact HF2.out)
        rw [HL.out] at this
        simp at this
        omega
      generalize applyP xs ⟨2, p, 0, 3, 4⟩ = T4 at *
      rw [hl4] at hR4 ⊢
      have L4 := hd hl4
      have R4 := hd hR4
      have d0 := (b4.cell (p := ⟨r, 0, none⟩) lt3.out).trans c0
      have d1 := (b4.cell (p := ⟨r, 1, none⟩) lt3.out).trans c1
      have d2 := (b4.cell (p := ⟨r, 2, none⟩) lt3.out).trans c2
      have d3 := (b4.cell (p := ⟨r, 3, none⟩) lt3.out).trans c3
      have d4 := (b4.cell (p := ⟨r, 4, none⟩) lt3.out).trans c4
      have lt4 := hd (Nat.lt_of_lt_of_le lt3.out b4.size)
      have B4 := hd (B3.out.trans (b4.mono B3.out.size))
      clear hO hl4 hR4 b4 c0 c1 c2 c3 c4 E3 B3
      go_wp2_with fail
      refine (apply_bad _ 4095 cp4 2 4095 0 3 5 43 _ (by omega) (by omega) HF3.out (by omega)).mono ?_
      rintro e w5 ⟨rfl, b5⟩
      have E5 := hd (R4.out.isE.below b5)
      have e0 := (b5.cell (p := ⟨r, 0, none⟩) lt4.out).trans d0
      have e1 := (b5.cell (p := ⟨r, 1, none⟩) lt4.out).trans d1
      have e2 := (b5.cell (p := ⟨r, 2, none⟩) lt4.out).trans d2
      have e3 := (b5.cell (p := ⟨r, 3, none⟩) lt4.out).trans d3
      have e4 := (b5.cell (p := ⟨r, 4, none⟩) lt4.out).trans d4
      have B5 := hd (B4.out.trans (b5.mono B4.out.size))
      clear b5 d0 d1 d2 d3 d4 R4 B4
      go_wp2_with fail
      refine (apply_good _ 4095 cp4 1 p c 3 3 T4 _ E5.out (by omega) (by omega) HF4.out).mono ?_
      rintro e w6 ⟨v, rfl, hO, b6⟩
      obtain ⟨g6, cp6, -, rfl, hR6⟩ := hO.form
      have hl6 : (applyP T4 ⟨1, p, c, 3, 3⟩).length = 4096 := by
        have := applyP_len (xs := T4) (o := ⟨1, p, c, 3, 3⟩) (by rw [L4.out]; exact HF4.out)
        rw [L4.out] at this
        simp at this
        omega
      rw [hl6] at hR6 ⊢
      have at6 := hR6.isE.at p HP.out (by rw [hl6]; exact HP.out)
      have el6 : (applyP T4 ⟨1, p, c, 3, 3⟩)[p]'(by rw [hl6]; exact HP.out) = (c, 3, 3) := by
        simp only [applyP, Int.toNat_natCast, if_pos]
        rw [List.getElem_append_right (by have := L4.out; have := HP.out; simp; omega)]
        have := L4.out
        have := HP.out
        simp [show min p T4.length = p by omega]
      rw [el6] at at6
      simp only [Nat.zero_add] at at6
      obtain ⟨k0, k1, k2⟩ := at6
      have B6 := hd (B5.out.trans (b6.mono B5.out.size))
      have i2 : (p : Int) < 4096 := by have := HP.out; omega
      clear hO hl6 hR6 b6 el6 E5 B5
      go_wp2
      go_ret
      exact ⟨rfl, B6.out⟩

theorem docFull_any (x ch : Int) (w : World) (h0 : 0 ≤ ch) (h1 : ch ≤ 255) : Calls Try.prog 4 #[.int .i64 x, .int .u8 ch] w fun e w' => e = .returned (.bool true) ∧ Below w.heap.size w w' :=
  full_in x ch _ 4096 w rfl (char_range h0).1 (char_range h0).2 h0 h1 (Nat.le_refl _) (Nat.le_refl _)

end Go.Proofs.Ytbgpmekjcepmaaa
