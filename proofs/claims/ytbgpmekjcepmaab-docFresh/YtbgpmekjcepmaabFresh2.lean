/-
  DocFresh: a text that is cut.
-/
import Derived.Test.YtbgpmekjcepmaabFl2
namespace Go.Proofs.Ytbgpmekjcepmaab
open Go.RowKit
set_option linter.unusedVariables false

set_option maxRecDepth 100000 in
set_option maxHeartbeats 8000000 in
theorem fresh_cut (a : Option Addr) (n0 cc : Nat) (ch : Int) (xs0 : List El) (w : World) (hE0 : IsE w a n0 cc xs0) (hn0 : 300 < n0) (h2 : 0 ≤ ch) (h3 : ch ≤ 255) (c : Int) (hc : c = 32 + ch % 95) :
    Calls Try.prog 5 #[.slice a n0 cc, .int .u8 ch] w fun e w' => e = .returned (.bool true) ∧ Below w.heap.size w w' := by
  obtain ⟨n, hSx⟩ : ∃ n, n = 300 := ⟨_, rfl⟩
  obtain ⟨xs, hxs⟩ : ∃ xs, xs = xs0.take n := ⟨_, rfl⟩
  have hE : IsE w a n cc xs := by rw [hxs]; exact hE0.take n (by omega)
  have hn : n ≤ 300 := by omega
  have HSx := hd hSx
  have l1 := hE0.2.1
  have l2 := hE0.2.2.1
  have hcc : 32 + ch % 95 = c := hc.symm
  have c0 : 32 ≤ c := by omega
  have c1 : c ≤ 126 := by omega
  have HE := hd hE
  have HL := hd hE.1
  have i0 : (n0 : Int) > 300 := by omega
  have i1 : (300 : Int) ≤ (cc : Int) := by omega
  obtain ⟨M, hM⟩ : ∃ M, M = n + 4 := ⟨_, rfl⟩
  have HM := hd hM
  have j1 : (n : Int) ≤ (M : Int) := by omega
  have j2 : (0 : Int) ≤ (n : Int) := by omega
  have j3 : n ≤ M := by omega
  have j4 : M ≤ 304 := by omega
  have F1 : Hid (fitsP (n : Int) ⟨1, n, c, 1, 1⟩ = 0) := fits_ins (n := n) (p := n) c0 c1 (by omega) (by omega) (by omega) (by omega) (by omega) (by omega)
  have F4 : Hid (fitsP (n : Int) ⟨0, 0, 0, 1, 2⟩ = 0) := fits_nop (by omega) (by omega) (by omega) (by omega) (by omega)
  obtain ⟨m, hm⟩ : ∃ m, m = n + 1 := ⟨_, rfl⟩
  have HM1 := hd hm
  have j5 : (m : Int) = (n : Int) + 1 := by omega
  clear hE hM hc hm hE0 hSx hxs
  go_enter Try.func5, Try.ntmps5
  go_wp2_with fail
  rw [← HSx.out]
  refine (roomy_any a n cc M xs _ HE.out hn HM.out).mono ?_
  rintro e w1 ⟨g1, rfl, hg1, hR1, b1⟩
  have G1 := hd hg1
  have R1 := hd hR1
  have B1 := hd b1
  have E1 := hd (HE.out.below b1)
  clear hg1 hR1 b1 HE
  go_wp2_with fail
  refine (roomy_any a n cc M xs _ E1.out hn HM.out).mono ?_
  rintro e w2 ⟨g2, rfl, hg2, hR2, b2⟩
  have G2 : Hid (g1 < g2 ∧ w.heap.size ≤ g1 ∧ w.heap.size ≤ g2) := ⟨by have := R1.out.lt; omega, G1.out, Nat.le_trans B1.out.size hg2⟩
  have P2 := hd (R1.out.fr (S := fun _ => False) (Fr.of_below b2) (fun h => h))
  have Q2 := hd hR2
  have B2 := hd (B1.out.trans (b2.mono B1.out.size))
  clear hg2 hR2 b2 B1 R1 E1 G1
  have TK : Hid ((roomyP xs).take n = xs) := by
    have := roomyP_take xs
    rw [HL.out] at this
    exact this
  generalize roomyP xs = RM at *
  have bA : Below w2.heap.size w2 (w2.alloc (.cells #[.int .i64 1, .int .i64 n, .int .u8 c, .int .i64 1, .int .i64 1] 29)) := (Below.refl _ _).alloc (Nat.le_refl _) _
  have PA := hd (P2.out.fr (S := fun _ => False) (Fr.of_below bA) (fun h => h))
  have QA := hd (Q2.out.fr (S := fun _ => False) (Fr.of_below bA) (fun h => h))
  have BA := hd (B2.out.trans (bA.mono B2.out.size))
  clear P2 Q2 B2 bA
  go_wp2_with fail
  generalize w2.alloc (.cells #[.int .i64 1, .int .i64 n, .int .u8 c, .int .i64 1, .int .i64 1] 29) = wA at *
  refine (apply_good _ n M 1 n c 1 1 xs _ (by have := PA.out.isE.take n j3; rw [TK.out] at this; exact this) (by omega) (by omega) F1.out).mono ?_
  rintro e w3 ⟨v3, rfl, hO3, b3⟩
  obtain ⟨g3, c3, hg3, rfl, hR3⟩ := hO3.form
  have A3 : Hid ((applyP xs ⟨1, n, c, 1, 1⟩).length = m) := by
    have h1 := HL.out
    have h2 := HM1.out
    have h3 : (applyP xs ⟨1, n, c, 1, 1⟩).length = n + 1 := by simp [applyP]; omega
    exact h3.trans h2.symm
  rw [A3.out] at hR3 ⊢
  generalize applyP xs ⟨1, n, c, 1, 1⟩ = AP at *
  have G3 : Hid (g2 < g3) := by have := QA.out.lt; exact Nat.lt_of_lt_of_le this hg3
  have R3 := hd hR3
  have P3 := hd (PA.out.fr (S := fun _ => False) (Fr.of_below b3) (fun h => h))
  have Q3 := hd (QA.out.fr (S := fun _ => False) (Fr.of_below b3) (fun h => h))
  have B3 := hd (BA.out.trans (b3.mono BA.out.size))
  clear hO3 b3 hg3 hR3 PA QA BA
  go_wp2_with fail
  refine (apply_good _ n M 0 0 0 1 2 xs _ (by have := P3.out.isE.take n j3; rw [TK.out] at this; exact this) (by omega) (by omega) F4.out).mono ?_
  rintro e w4 ⟨v4, rfl, hO4, b4⟩
  have hO4' : OwnE w4 w3.heap.size v4 xs := hO4
  obtain ⟨g4, c4, hg4, rfl, hR4⟩ := hO4'.form
  rw [HL.out] at hR4 ⊢
  have G4 : Hid (g3 < g4) := by have := R3.out.lt; exact Nat.lt_of_lt_of_le this hg4
  have S4 := hd hR4
  have R4 := hd (R3.out.fr (S := fun _ => False) (Fr.of_below b4) (fun h => h))
  have P4 := hd (P3.out.fr (S := fun _ => False) (Fr.of_below b4) (fun h => h))
  have Q4 := hd (Q3.out.fr (S := fun _ => False) (Fr.of_below b4) (fun h => h))
  have B4 := hd (B3.out.trans (b4.mono B3.out.size))
  clear hO4 hO4' b4 hg4 hR4 P3 Q3 B3 R3
  go_wp2_with fail
  refine (text_any _ n M xs _ (by have := P4.out.isE.take n j3; rw [TK.out] at this; exact this) (by omega)).mono ?_
  rintro e w5 ⟨rfl, b5⟩
  have S5 := hd (S4.out.fr (S := fun _ => False) (Fr.of_below b5) (fun h => h))
  have R5 := hd (R4.out.fr (S := fun _ => False) (Fr.of_below b5) (fun h => h))
  have P5 := hd (P4.out.fr (S := fun _ => False) (Fr.of_below b5) (fun h => h))
  have Q5 := hd (Q4.out.fr (S := fun _ => False) (Fr.of_below b5) (fun h => h))
  have B5 := hd (B4.out.trans (b5.mono B4.out.size))
  clear b5 P4 Q4 B4 R4 S4
  go_wp2_with fail
  refine (find_any _ n M 9 9 xs _ (by have := P5.out.isE.take n j3; rw [TK.out] at this; exact this)).mono ?_
  rintro e w6 ⟨rfl, b6⟩
  have S6 := hd (S5.out.fr (S := fun _ => False) (Fr.of_below b6) (fun h => h))
  have R6 := hd (R5.out.fr (S := fun _ => False) (Fr.of_below b6) (fun h => h))
  have P6 := hd (P5.out.fr (S := fun _ => False) (Fr.of_below b6) (fun h => h))
  have Q6 := hd (Q5.out.fr (S := fun _ => False) (Fr.of_below b6) (fun h => h))
  have B6 := hd (B5.out.trans (b6.mono B5.out.size))
  clear b6 P5 Q5 B5 R5 S5
  have FL : ¬ (n : Int) ≤ findP 9 9 xs 0 := by
    have h1 := find_lt 9 9 xs 0
    have h2 := HL.out
    omega
  generalize findP 9 9 xs 0 = k0 at *
  go_wp2_with fail
  refine (equal_any _ _ n n M M xs xs _ (by have := P6.out.isE.take n j3; rw [TK.out] at this; exact this) (by have := Q6.out.isE.take n j3; rw [TK.out] at this; exact this)).mono ?_
  rintro e w7 ⟨rfl, b7⟩
  rw [decide_eq_true rfl]
  have S7 := hd (S6.out.fr (S := fun _ => False) (Fr.of_below b7) (fun h => h))
  have R7 := hd (R6.out.fr (S := fun _ => False) (Fr.of_below b7) (fun h => h))
  have P7 := hd (P6.out.fr (S := fun _ => False) (Fr.of_below b7) (fun h => h))
  have Q7 := hd (Q6.out.fr (S := fun _ => False) (Fr.of_below b7) (fun h => h))
  have B7 := hd (B6.out.trans (b7.mono B6.out.size))
  clear b7 P6 Q6 B6 R6 S6
  have SZ := bstr_sz (xs.map (·.1))
  rw [List.length_map, HL.out] at SZ
  generalize bstr (xs.map (·.1)) = st at *
  go_wp2_with fail
  refine (same_any _ _ M M M M RM RM _ P7.out.isE Q7.out.isE).mono ?_
  rintro e w8 ⟨rfl, m8, rfl⟩
  rw [decide_eq_true rfl]
  have S8 := hd (S7.out.fr (Fr.drewN (fun _ => False) w7 m8) (fun h => h))
  have R8 := hd (R7.out.fr (Fr.drewN (fun _ => False) w7 m8) (fun h => h))
  have P8 := hd (P7.out.fr (Fr.drewN (fun _ => False) w7 m8) (fun h => h))
  have Q8 := hd (Q7.out.fr (Fr.drewN (fun _ => False) w7 m8) (fun h => h))
  have B8 := hd (below_drewN B7.out m8)
  clear S7 R7 P7 Q7 B7
  generalize w7.drewN m8 = w8 at *
  go_wp2_with fail
  refine (fill_any g3 m m c3 201 AP _ R8.out (Nat.le_refl _) (by omega) (by omega)).mono ?_
  rintro e w9 ⟨rfl, hR9, hF9⟩
  rw [List.drop_of_length_le (by have := A3.out; omega), List.append_nil] at hR9
  have R9 := hd hR9
  have S9 := hd (S8.out.fr hF9 (fun e => by have := G4.out; omega))
  have P9 := hd (P8.out.fr hF9 (fun e => by have := G3.out; have := G2.out; omega))
  have Q9 := hd (Q8.out.fr hF9 (fun e => by have := G3.out; omega))
  have B9 := hd (B8.out.trans (hF9.below B8.out.size (fun q e => by rw [e]; have := G3.out; have := G2.out; omega)))
  clear hR9 hF9 R8 S8 P8 Q8 B8
  go_wp2_with fail
  refine (fill_any g4 n n c4 202 xs _ S9.out (Nat.le_refl _) (by omega) (by omega)).mono ?_
  rintro e w10 ⟨rfl, hS10, hF10⟩
  rw [List.drop_of_length_le (by have := HL.out; omega), List.append_nil] at hS10
  have S10 := hd hS10
  have R10 := hd (R9.out.fr hF10 (fun e => by have := G4.out; omega))
  have P10 := hd (P9.out.fr hF10 (fun e => by have := G4.out; have := G3.out; have := G2.out; omega))
  have Q10 := hd (Q9.out.fr hF10 (fun e => by have := G4.out; have := G3.out; omega))
  have B10 := hd (B9.out.trans (hF10.below B9.out.size (fun q e => by rw [e]; have := G4.out; have := G3.out; have := G2.out; omega)))
  clear hS10 hF10 R9 S9 P9 Q9 B9
  go_wp2_with fail
  refine (same_any _ _ M M M M RM RM _ P10.out.isE Q10.out.isE).mono ?_
  rintro e w11 ⟨rfl, m11, rfl⟩
  rw [decide_eq_true rfl]
  have S11 := hd (S10.out.fr (Fr.drewN (fun _ => False) w10 m11) (fun h => h))
  have R11 := hd (R10.out.fr (Fr.drewN (fun _ => False) w10 m11) (fun h => h))
  have P11 := hd (P10.out.fr (Fr.drewN (fun _ => False) w10 m11) (fun h => h))
  have Q11 := hd (Q10.out.fr (Fr.drewN (fun _ => False) w10 m11) (fun h => h))
  have B11 := hd (below_drewN B10.out m11)
  clear S10 R10 P10 Q10 B10
  generalize w10.drewN m11 = w11 at *
  go_wp2_with fail
  refine (changed_any n ch _ h2 h3 hn).mono ?_
  rintro e w12 ⟨v12, rfl, hH12⟩
  obtain ⟨β, hSO, hβ, b12⟩ := hH12
  rw [hcc] at hSO
  obtain ⟨ao, co, rfl, hIO⟩ := hSO.formN (n := 5) (by simp [chgP])
  have IOq := hd hIO
  have S12 := hd (S11.out.fr (S := fun _ => False) (Fr.of_below b12) (fun h => h))
  have R12 := hd (R11.out.fr (S := fun _ => False) (Fr.of_below b12) (fun h => h))
  have P12 := hd (P11.out.fr (S := fun _ => False) (Fr.of_below b12) (fun h => h))
  have Q12 := hd (Q11.out.fr (S := fun _ => False) (Fr.of_below b12) (fun h => h))
  have B12 := hd (B11.out.trans (b12.mono B11.out.size))
  clear S11 R11 P11 Q11 B11
  clear hSO hβ b12 hIO
  go_wp2_with fail
  refine (apart_any _ _ _ M M M n 5 co RM (chgP n c) _ P12.out.isE Q12.out.isE IOq.out j3 hn (by omega) (by omega) (chgP_ok n c hn c0 c1)).mono ?_
  rintro e w13 ⟨rfl, b13⟩
  have S13 := hd (S12.out.fr (S := fun _ => False) (Fr.of_below b13) (fun h => h))
  have R13 := hd (R12.out.fr (S := fun _ => False) (Fr.of_below b13) (fun h => h))
  have P13 := hd (P12.out.fr (S := fun _ => False) (Fr.of_below b13) (fun h => h))
  have Q13 := hd (Q12.out.fr (S := fun _ => False) (Fr.of_below b13) (fun h => h))
  have B13 := hd (B12.out.trans (b13.mono B12.out.size))
  clear S12 R12 P12 Q12 B12
  clear b13 IOq
  have bO : Below w13.heap.size w13 (w13.alloc (.cells #[.int .i64 1, .int .i64 0, .int .u8 114, .int .i64 5, .int .i64 5, .int .i64 0, .int .i64 0, .int .u8 0, .int .i64 5, .int .i64 6] 29)) := (Below.refl _ _).alloc (Nat.le_refl _) _
  have O14 : Hid ((w13.alloc (.cells #[.int .i64 1, .int .i64 0, .int .u8 114, .int .i64 5, .int .i64 5, .int .i64 0, .int .i64 0, .int .u8 0, .int .i64 5, .int .i64 6] 29)).heap[w13.heap.size]? = some (.cells #[.int .i64 1, .int .i64 0, .int .u8 114, .int .i64 5, .int .i64 5, .int .i64 0, .int .i64 0, .int .u8 0, .int .i64 5, .int .i64 6] 29 (0, 0))) := heap_alloc_new _ _
  have LG : Hid (g4 < w13.heap.size) := S13.out.lt
  have S14 := hd (S13.out.fr (S := fun _ => False) (Fr.of_below bO) (fun h => h))
  have R14 := hd (R13.out.fr (S := fun _ => False) (Fr.of_below bO) (fun h => h))
  have P14 := hd (P13.out.fr (S := fun _ => False) (Fr.of_below bO) (fun h => h))
  have Q14 := hd (Q13.out.fr (S := fun _ => False) (Fr.of_below bO) (fun h => h))
  have B14 := hd (B13.out.trans (bO.mono B13.out.size))
  clear S13 R13 P13 Q13 B13
  clear bO
  go_wp2_with fail
  generalize w13.alloc (.cells #[.int .i64 1, .int .i64 0, .int .u8 114, .int .i64 5, .int .i64 5, .int .i64 0, .int .i64 0, .int .u8 0, .int .i64 5, .int .i64 6] 29) = w14 at *
  generalize w13.heap.size = gop at *
  refine (replay_any _ 2 2 [⟨1, 0, 114, 5, 5⟩, ⟨0, 0, 0, 5, 6⟩] _ (isO_block [⟨1, 0, 114, 5, 5⟩, ⟨0, 0, 0, 5, 6⟩] (by simp) O14.out) fresh_ok).mono ?_
  rintro e w15 ⟨v15, rfl, hM15, b15⟩
  rw [fresh_replay] at hM15 ⊢
  simp only [] at hM15 ⊢
  obtain ⟨gx, cx, hgx, rfl, hX15⟩ := (hM15.own (by simp)).form
  have X15 : Hid (RowE w15 gx 1 cx [(114, 5, 5)]) := hX15
  have L15 : ([((114 : Int), (5 : Int), (5 : Int))] : List El).length = 1 := rfl
  rw [L15]
  have GX : Hid (g4 < gx ∧ gop < gx) := ⟨Nat.lt_of_lt_of_le S14.out.lt hgx, Nat.lt_of_lt_of_le (block_lt O14.out) hgx⟩
  have O15 := hd (below_keep b15 O14.out)
  have S15 := hd (S14.out.fr (S := fun _ => False) (Fr.of_below b15) (fun h => h))
  have R15 := hd (R14.out.fr (S := fun _ => False) (Fr.of_below b15) (fun h => h))
  have P15 := hd (P14.out.fr (S := fun _ => False) (Fr.of_below b15) (fun h => h))
  have Q15 := hd (Q14.out.fr (S := fun _ => False) (Fr.of_below b15) (fun h => h))
  have B15 := hd (B14.out.trans (b15.mono B14.out.size))
  clear S14 R14 P14 Q14 B14
  clear hM15 hX15 hgx b15 O14 L15
  go_wp2_with fail
  refine (replay_any _ 2 2 [⟨1, 0, 114, 5, 5⟩, ⟨0, 0, 0, 5, 6⟩] _ (isO_block [⟨1, 0, 114, 5, 5⟩, ⟨0, 0, 0, 5, 6⟩] (by simp) O15.out) fresh_ok).mono ?_
  rintro e w16 ⟨v16, rfl, hM16, b16⟩
  rw [fresh_replay] at hM16 ⊢
  simp only [] at hM16 ⊢
  obtain ⟨gy, cy, hgy, rfl, hY16⟩ := (hM16.own (by simp)).form
  have Y16 : Hid (RowE w16 gy 1 cy [(114, 5, 5)]) := hY16
  have L16 : ([((114 : Int), (5 : Int), (5 : Int))] : List El).length = 1 := rfl
  rw [L16]
  have GY : Hid (gx < gy) := Nat.lt_of_lt_of_le X15.out.lt hgy
  have O16 := hd (below_keep b16 O15.out)
  have S16 := hd (S15.out.fr (S := fun _ => False) (Fr.of_below b16) (fun h => h))
  have R16 := hd (R15.out.fr (S := fun _ => False) (Fr.of_below b16) (fun h => h))
  have P16 := hd (P15.out.fr (S := fun _ => False) (Fr.of_below b16) (fun h => h))
  have Q16 := hd (Q15.out.fr (S := fun _ => False) (Fr.of_below b16) (fun h => h))
  have X16 := hd (X15.out.fr (S := fun _ => False) (Fr.of_below b16) (fun h => h))
  have B16 := hd (B15.out.trans (b16.mono B15.out.size))
  clear S15 R15 P15 Q15 X15 B15
  clear hM16 hY16 hgy b16 O15 L16
  have q0 : w16.cell? ⟨gop, 0, none⟩ = some (.int .i64 1) := by rw [cell_row O16.out]; rfl
  have q1 : w16.cell? ⟨gop, 1, none⟩ = some (.int .i64 0) := by rw [cell_row O16.out]; rfl
  have q2 : w16.cell? ⟨gop, 2, none⟩ = some (.int .u8 114) := by rw [cell_row O16.out]; rfl
  have q3 : w16.cell? ⟨gop, 3, none⟩ = some (.int .i64 5) := by rw [cell_row O16.out]; rfl
  have q4 : w16.cell? ⟨gop, 4, none⟩ = some (.int .i64 5) := by rw [cell_row O16.out]; rfl
  have q5 : w16.cell? ⟨gop, 5, none⟩ = some (.int .i64 0) := by rw [cell_row O16.out]; rfl
  have q6 : w16.cell? ⟨gop, 6, none⟩ = some (.int .i64 0) := by rw [cell_row O16.out]; rfl
  have q7 : w16.cell? ⟨gop, 7, none⟩ = some (.int .u8 0) := by rw [cell_row O16.out]; rfl
  have q8 : w16.cell? ⟨gop, 8, none⟩ = some (.int .i64 5) := by rw [cell_row O16.out]; rfl
  have q9 : w16.cell? ⟨gop, 9, none⟩ = some (.int .i64 6) := by rw [cell_row O16.out]; rfl
  obtain ⟨x0, -, -⟩ := X16.out.isE.at 0 (by omega) (by simp)
  simp only [Nat.zero_mul, Nat.zero_add, List.getElem_cons_zero] at x0
  have cx1 := X16.out.isE.2.1
  have cx2 := X16.out.isE.2.2.1
  go_wp2_with fail
  clear q0 q1 q2 q3 q4 q5 q6 q7 q8 q9 x0 O16
  have ORD : Hid (g1 < g2 ∧ g2 < g3 ∧ g3 < g4 ∧ g4 < gx ∧ gx < gy ∧ w.heap.size ≤ g1) := ⟨G2.out.1, G3.out, G4.out, GX.out.1, GY.out, G2.out.2.1⟩
  clear G2 G3 G4 GX GY LG
  refine (fill_any gx 1 1 cx 204 [(114, 5, 5)] _ X16.out (Nat.le_refl _) (by omega) (by omega)).mono ?_
  rintro e w17 ⟨rfl, hX17, hF17⟩
  rw [List.drop_of_length_le (by simp), List.append_nil] at hX17
  have X17 := hd hX17
  have S17 := hd (S16.out.fr hF17 (fun e => by have := ORD.out; omega))
  have R17 := hd (R16.out.fr hF17 (fun e => by have := ORD.out; omega))
  have P17 := hd (P16.out.fr hF17 (fun e => by have := ORD.out; omega))
  have Q17 := hd (Q16.out.fr hF17 (fun e => by have := ORD.out; omega))
  have Y17 := hd (Y16.out.fr hF17 (fun e => by have := ORD.out; omega))
  have B17 := hd (B16.out.trans (hF17.below B16.out.size (fun q e => by rw [e]; have := ORD.out; omega)))
  clear hX17 hF17 S16 R16 P16 Q16 Y16 X16 B16
  have LY : Hid (gy < w17.heap.size) := Y17.out.lt
  obtain ⟨x', w18, hap, hJ⟩ := jrel_push S17.out (0, 1, 0) (by omega)
  obtain ⟨PP, gp, cp, rfl, p1, p2, p3, p4⟩ := hJ
  have GP : Hid (gp ≠ gx ∧ gp ≠ gy) := by
    have h1 := ORD.out
    have h2 := LY.out
    rcases p4 with ⟨p4, _⟩ | p4
    · exact ⟨by omega, by omega⟩
    · exact ⟨by omega, by omega⟩
  have S18 := hd p2
  have T18 := hd p1
  have R18 := hd (R17.out.fr p3 (fun e => by have := ORD.out; omega))
  have P18 := hd (P17.out.fr p3 (fun e => by have := ORD.out; omega))
  have Q18 := hd (Q17.out.fr p3 (fun e => by have := ORD.out; omega))
  have Y18 := hd (Y17.out.fr p3 (fun e => by have := ORD.out; omega))
  have X18 := hd (X17.out.fr p3 (fun e => by have := ORD.out; omega))
  have B18 := hd (B17.out.trans (p3.below B17.out.size (fun q e => by rw [e]; have := ORD.out; omega)))
  have LY2 : Hid (gy < w18.heap.size) := Y18.out.lt
  clear p1 p2 p3 p4 S17 R17 P17 Q17 Y17 X17 B17
  obtain ⟨x'', w19, hap2, hJ2⟩ := jrel_push X18.out (0, 3, 0) (by omega)
  obtain ⟨P2, gs, cs, rfl, s1, s2, s3, s4⟩ := hJ2
  have GS : Hid (gs ≠ gy) := by
    have h1 := ORD.out
    have h2 := LY2.out
    rcases s4 with ⟨s4, _⟩ | s4
    · show gs ≠ gy
      omega
    · show gs ≠ gy
      omega
  have X19 := hd s2
  have U19 := hd s1
  have R19 := hd (R18.out.fr s3 (fun e => by have := ORD.out; omega))
  have P19 := hd (P18.out.fr s3 (fun e => by have := ORD.out; omega))
  have Q19 := hd (Q18.out.fr s3 (fun e => by have := ORD.out; omega))
  have Y19 := hd (Y18.out.fr s3 (fun e => by have := ORD.out; omega))
  have S19 := hd (S18.out.fr s3 (fun e => by have := ORD.out; omega))
  have B19 := hd (B18.out.trans (s3.below B18.out.size (fun q e => by rw [e]; have := ORD.out; omega)))
  have T19 := hd (T18.out.fr s3 GP.out.1)
  clear s1 s2 s3 s4 R18 P18 Q18 Y18 S18 X18 T18 B18
  simp only [elc] at hap hap2
  go_wp2_with (at_builtin; first | (refine wpList_append_k _ rfl _ _ 22 22 rfl _ _ rfl rfl (hap _) ?_; clear hap) | (refine wpList_append_k _ rfl _ _ 22 22 rfl _ _ rfl rfl (hap2 _) ?_; clear hap2))
  refine (fill_any gy 1 1 cy 205 [(114, 5, 5)] _ Y19.out (Nat.le_refl _) (by omega) (by omega)).mono ?_
  rintro e w20 ⟨rfl, hY20, hF20⟩
  rw [List.drop_of_length_le (by simp), List.append_nil] at hY20
  have Y20 := hd hY20
  have R20 := hd (R19.out.fr hF20 (fun e => by have := ORD.out; omega))
  have P20 := hd (P19.out.fr hF20 (fun e => by have := ORD.out; omega))
  have Q20 := hd (Q19.out.fr hF20 (fun e => by have := ORD.out; omega))
  have S20 := hd (S19.out.fr hF20 (fun e => by have := ORD.out; omega))
  have X20 := hd (X19.out.fr hF20 (fun e => by have := ORD.out; omega))
  have B20 := hd (B19.out.trans (hF20.below B19.out.size (fun q e => by rw [e]; have := ORD.out; omega)))
  have T20 := hd (T19.out.fr hF20 GP.out.2)
  have U20 := hd (U19.out.fr hF20 GS.out)
  clear hY20 hF20 R19 P19 Q19 S19 X19 Y19 T19 U19 B19
  have tc : w20.cell? ⟨gp, n * 3 + 1, none⟩ = some (.int .i64 1) := by
    obtain ⟨-, h, -⟩ := T20.out.isE.at n (by omega) (by simp)
    rw [List.getElem_append_right (by simp)] at h
    simpa using h
  have uc : w20.cell? ⟨gs, 4, none⟩ = some (.int .i64 3) := by
    obtain ⟨-, h, -⟩ := U20.out.isE.at 1 (by omega) (by simp)
    rw [List.getElem_append_right (by simp)] at h
    simpa using h
  have tc1 := T20.out.isE.2.1
  have tc2 := T20.out.isE.2.2.1
  have uc1 := U20.out.isE.2.1
  have uc2 := U20.out.isE.2.2.1
  clear T20 U20
  go_wp2_with fail
  refine (twice_any _ n M ch xs _ (by have := Q20.out.isE.take n j3; rw [TK.out] at this; exact this) h2 h3 hn).mono ?_
  rintro e w21 ⟨rfl, b21⟩
  have R21 := hd (R20.out.fr (S := fun _ => False) (Fr.of_below b21) (fun h => h))
  have P21 := hd (P20.out.fr (S := fun _ => False) (Fr.of_below b21) (fun h => h))
  have Q21 := hd (Q20.out.fr (S := fun _ => False) (Fr.of_below b21) (fun h => h))
  have S21 := hd (S20.out.fr (S := fun _ => False) (Fr.of_below b21) (fun h => h))
  have X21 := hd (X20.out.fr (S := fun _ => False) (Fr.of_below b21) (fun h => h))
  have Y21 := hd (Y20.out.fr (S := fun _ => False) (Fr.of_below b21) (fun h => h))
  have B21 := hd (B20.out.trans (b21.mono B20.out.size))
  clear R20 P20 Q20 S20 X20 Y20 B20
  clear b21
  go_wp2_with fail
  refine (same_any _ _ M M M M RM RM _ P21.out.isE Q21.out.isE).mono ?_
  rintro e w22 ⟨rfl, m22, rfl⟩
  rw [decide_eq_true rfl]
  have R22 := hd (R21.out.fr (Fr.drewN (fun _ => False) w21 m22) (fun h => h))
  have P22 := hd (P21.out.fr (Fr.drewN (fun _ => False) w21 m22) (fun h => h))
  have Q22 := hd (Q21.out.fr (Fr.drewN (fun _ => False) w21 m22) (fun h => h))
  have S22 := hd (S21.out.fr (Fr.drewN (fun _ => False) w21 m22) (fun h => h))
  have X22 := hd (X21.out.fr (Fr.drewN (fun _ => False) w21 m22) (fun h => h))
  have Y22 := hd (Y21.out.fr (Fr.drewN (fun _ => False) w21 m22) (fun h => h))
  have B22 := hd (below_drewN B21.out m22)
  clear R21 P21 Q21 S21 X21 Y21 B21
  generalize w21.drewN m22 = w22 at *
  clear tc uc
  go_wp2_with fail
  refine (full_any _ m c3 201 _ R22.out.isE (by omega) (by omega)).mono ?_
  rintro e w23 ⟨rfl, m23, rfl⟩
  have S23 := hd (S22.out.fr (Fr.drewN (fun _ => False) w22 m23) (fun h => h))
  have X23 := hd (X22.out.fr (Fr.drewN (fun _ => False) w22 m23) (fun h => h))
  have Y23 := hd (Y22.out.fr (Fr.drewN (fun _ => False) w22 m23) (fun h => h))
  have B23 := hd (below_drewN B22.out m23)
  clear S22 X22 Y22 B22
  generalize w22.drewN m23 = w23 at *
  go_wp2_with fail
  refine (full_any _ n c4 202 _ (by have := S23.out.isE.take n (by simp); rw [List.take_append_of_le_length (by simp), List.take_of_length_le (by simp)] at this; exact this) (by omega) (by omega)).mono ?_
  rintro e w24 ⟨rfl, m24, rfl⟩
  have X24 := hd (X23.out.fr (Fr.drewN (fun _ => False) w23 m24) (fun h => h))
  have Y24 := hd (Y23.out.fr (Fr.drewN (fun _ => False) w23 m24) (fun h => h))
  have B24 := hd (below_drewN B23.out m24)
  clear X23 Y23 B23
  generalize w23.drewN m24 = w24 at *
  go_wp2_with fail
  refine (full_any _ 1 cx 204 _ (by have := X24.out.isE.take 1 (by simp); rw [List.take_append_of_le_length (by simp), List.take_of_length_le (by simp)] at this; exact this) (by omega) (by omega)).mono ?_
  rintro e w25 ⟨rfl, m25, rfl⟩
  have Y25 := hd (Y24.out.fr (Fr.drewN (fun _ => False) w24 m25) (fun h => h))
  have B25 := hd (below_drewN B24.out m25)
  clear Y24 B24
  generalize w24.drewN m25 = w25 at *
  go_wp2_with fail
  refine (full_any _ 1 cy 205 _ Y25.out.isE (by omega) (by omega)).mono ?_
  rintro e w26 ⟨rfl, m26, rfl⟩
  have B26 := hd (below_drewN B25.out m26)
  generalize w25.drewN m26 = w26 at *
  go_wp2
  go_ret
  exact ⟨rfl, B26.out⟩

end Go.Proofs.Ytbgpmekjcepmaab
