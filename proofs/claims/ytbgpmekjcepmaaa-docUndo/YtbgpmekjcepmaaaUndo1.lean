import Derived.Test.YtbgpmekjcepmaaaRows2
import Derived.Test.YtbgpmekjcepmaaaPl
import Derived.Test.YtbgpmekjcepmaaaVd
namespace Go.Proofs.Ytbgpmekjcepmaaa
open Go.RowKit
set_option linter.unusedVariables false

/-- What is put in is at its place. -/
theorem applyP_at (xs : List El) (p : Nat) (c l s : Int) (hp : p ≤ xs.length) : (applyP xs ⟨1, p, c, l, s⟩).length = xs.length + 1 ∧ (applyP xs ⟨1, p, c, l, s⟩)[p]? = some (c, l, s) := by
  simp only [applyP, Int.toNat_natCast, if_pos]
  constructor
  · simp; omega
  · rw [List.getElem?_append_right (by simp; omega)]
    simp [show min p xs.length = p by omega]

/-- Put in and taken out again. -/
theorem undo_in (xs : List El) (p : Nat) (c l s l' s' : Int) (hp : p ≤ xs.length) : applyP (applyP xs ⟨1, p, c, l, s⟩) ⟨2, p, 0, l', s'⟩ = xs := by
  have hl : (xs.take p).length = p := by simp; omega
  simp only [applyP, Int.toNat_natCast, if_pos]
  simp only [show ¬ (2 : Int) = 1 by omega, if_false]
  have h1 : (xs.take p ++ (c, l, s) :: xs.drop p).take p = xs.take p := by
    rw [List.take_append_of_le_length (by omega), List.take_of_length_le (by omega)]
  have h2 : (xs.take p ++ (c, l, s) :: xs.drop p).drop (p + 1) = xs.drop p := by
    rw [List.drop_append, List.drop_of_length_le (by omega), hl]
    simp
  rw [h1, h2, List.take_append_drop]

/-- Taken out and put in again. -/
theorem undo_out (xs : List El) (p : Nat) (l' s' : Int) (hp : p < xs.length) : applyP (applyP xs ⟨2, p, 0, l', s'⟩) ⟨1, p, xs[p].1, xs[p].2.1, xs[p].2.2⟩ = xs := by
  have hl : (xs.take p).length = p := by simp; omega
  simp only [applyP, Int.toNat_natCast, if_pos]
  simp only [show ¬ (2 : Int) = 1 by omega, if_false]
  have h1 : (xs.take p ++ xs.drop (p + 1)).take p = xs.take p := by
    rw [List.take_append_of_le_length (by omega), List.take_of_length_le (by omega)]
  have h2 : (xs.take p ++ xs.drop (p + 1)).drop p = xs.drop (p + 1) := by
    rw [List.drop_append, List.drop_of_length_le (by omega), hl]
    simp
  rw [h1, h2, ← List.drop_eq_getElem_cons hp, List.take_append_drop]

theorem not_may (n : Int) (p : Nat) (c l s : Int) (h : ¬ (32 ≤ c ∧ c ≤ 126 ∧ 1 ≤ l ∧ l ≤ 64 ∧ 1 ≤ s ∧ s ≤ 64)) : ¬ fitsP n ⟨1, p, c, l, s⟩ = 0 := by
  intro hf
  have hv := (fitsP_zero hf).1
  rw [validP_eq] at hv
  split at hv
  · omega
  · split at hv
    · omega
    · split at hv
      · omega
      · omega

set_option maxRecDepth 100000 in
set_option maxHeartbeats 8000000 in
theorem undo_in_walk (a : Option Addr) (N cc : Nat) (x ch c : Int) (xs : List El) (w : World) (hE : IsE w a N cc xs) (hO : ∀ x ∈ xs, 0 ≤ x.1 ∧ x.1 ≤ 255) (hN : N < 4096) (hc : c = 32 + ch % 95) (h0 : 32 ≤ c) (h1 : c ≤ 126) (h2 : 0 ≤ ch) (h3 : ch ≤ 255) :
    Calls Try.prog 6 #[.slice a N cc, .int .i64 x, .int .u8 ch] w fun e w' => e = .returned (.bool true) ∧ Below w.heap.size w w' := by
  have HE := hd hE
  have HO := hd hO
  have HL := hd hE.1
  have hcc : 32 + ch % 95 = c := hc.symm
  have i0 : ¬ (N : Int) ≥ 4096 := by omega
  clear hE hO hc
  go_enter Try.func6, Try.ntmps6
  go_wp2_with fail
  refine (place_any x (N + 1) _ (by omega) (by omega)).mono ?_
  rintro e w2 ⟨p, rfl, hp, rfl⟩
  have HP := hd hp
  have HF1 : Hid (fitsP (N : Int) ⟨1, p, c, 7, 64⟩ = 0) := fits_ins h0 h1 (by omega) (by omega) (by omega) (by omega) (by omega) hN
  have HF2 : Hid (fitsP ((N + 1 : Nat) : Int) ⟨2, p, 0, 9, 1⟩ = 0) := fits_del (by omega) (by omega) (by omega) (by omega) (by omega) (by omega)
  have HF3 : Hid (fitsP (N : Int) ⟨0, 0, 0, 64, 1⟩ = 0) := fits_nop (by omega) (by omega) (by omega) (by omega) (by omega)
  go_wp2_with fail
  refine (apply_good a N cc 1 p c 7 64 xs _ HE.out (by omega) (by omega) HF1.out).mono ?_
  rintro e w3 ⟨v, rfl, hO, b3⟩
  obtain ⟨g3, cp3, -, rfl, hR3⟩ := hO.form
  have U3 := hd (undo_in xs p c 7 64 9 1 (by have := HL.out; omega))
  obtain ⟨l3, a3⟩ := applyP_at xs p c 7 64 (by have := HL.out; omega)
  generalize applyP xs ⟨1, p, c, 7, 64⟩ = T3 at *
  rw [HL.out] at l3
  rw [l3] at hR3 ⊢
  have q3 : p < T3.length := by omega
  have at3 := hR3.isE.at p hp q3
  rw [show T3[p] = (c, 7, 64) from by rw [List.getElem?_eq_getElem q3] at a3; exact Option.some.inj a3] at at3
  simp only [Nat.zero_add] at at3
  obtain ⟨k0, k1, k2⟩ := at3
  have R3 := hd hR3
  have B3 := hd b3
  have E3 := hd (HE.out.below b3)
  have i3 : (p : Int) < (N : Int) + 1 := by omega
  clear hO hR3 b3 a3 l3 q3 HE hp
  go_wp2_with fail
  refine (apply_good _ (N + 1) cp3 2 p 0 9 1 T3 _ R3.out.isE (by omega) (by omega) HF2.out).mono ?_
  rintro e w4 ⟨v, rfl, hO, b4⟩
  rw [U3.out] at hO
  obtain ⟨g4, cp4, -, rfl, hR4⟩ := hO.form
  rw [HL.out] at hR4 ⊢
  have R4 := hd hR4.isE
  have E4 := hd (E3.out.below b4)
  have B4 := hd (B3.out.trans (b4.mono B3.out.size))
  clear hO hR4 b4 E3 B3 R3 U3 k0 k1 k2
  go_wp2_with fail
  refine (same_any _ _ N N cp4 cc xs xs _ R4.out E4.out).mono ?_
  rintro e w5 ⟨rfl, m5, rfl⟩
  rw [decide_eq_true rfl]
  have E5 := hd (E4.out.drewN m5)
  have B5 := hd (below_drewN B4.out m5)
  clear E4 B4 R4
  generalize w4.drewN m5 = w5 at *
  go_wp2_with fail
  refine (apply_good a N cc 0 0 0 64 1 xs _ E5.out (by omega) (by omega) HF3.out).mono ?_
  rintro e w6 ⟨v, rfl, hO, b6⟩
  rw [show applyP xs ⟨0, 0, 0, 64, 1⟩ = xs from by simp [applyP]] at hO
  obtain ⟨g6, cp6, -, rfl, hR6⟩ := hO.form
  rw [HL.out] at hR6 ⊢
  have R6 := hd hR6.isE
  have E6 := hd (E5.out.below b6)
  have B6 := hd (B5.out.trans (b6.mono B5.out.size))
  clear hO hR6 b6 E5 B5
  go_wp2_with fail
  refine (same_any _ _ N N cp6 cc xs xs _ R6.out E6.out).mono ?_
  rintro e w7 ⟨rfl, m7, rfl⟩
  rw [decide_eq_true rfl]
  have E7 := hd (E6.out.drewN m7)
  have B7 := hd (below_drewN B6.out m7)
  clear E6 B6 R6
  generalize w6.drewN m7 = w7 at *
  by_cases hpN : p = N
  · subst hpN
    go_wp2
    go_ret
    exact ⟨rfl, B7.out⟩
  · have i4 : ¬ (p : Int) = (N : Int) := by omega
    have hpl : p < N := by have := HP.out; omega
    have i5 : (p : Int) < (N : Int) := by omega
    have qx : p < xs.length := by have := HL.out; omega
    obtain ⟨b, off, rfl, hbl⟩ := E7.out.addr (by omega)
    obtain ⟨k0, k1, k2⟩ := E7.out.at p hpl qx
    have HO2 := hd (HO.out xs[p] (List.getElem_mem qx))
    have U8 := hd (undo_out xs p 9 2 qx)
    generalize xs[p] = X at *
    obtain ⟨xc, xl, xq⟩ := X
    simp only [] at k0 k1 k2 HO2 U8
    have HF5 : Hid (fitsP (N : Int) ⟨2, p, 0, 9, 2⟩ = 0) := fits_del (by omega) (by omega) (by omega) (by omega) hpl (by omega)
    obtain ⟨M, hM⟩ : ∃ M, N = M + 1 := ⟨N - 1, by omega⟩
    have iM : (N : Int) - 1 = (M : Int) := by omega
    have HM := hd hM
    clear hM
    go_wp2_with fail
    refine (apply_good _ N cc 2 p 0 9 2 xs _ (E7.out.below ((Below.refl _ _).alloc (Nat.le_refl _) _)) (by omega) (by omega) HF5.out).mono ?_
    rintro e w8 ⟨v, rfl, hO, b8⟩
    obtain ⟨g8, cp8, -, rfl, hR8⟩ := hO.form
    have hl8 : (applyP xs ⟨2, p, 0, 9, 2⟩).length = M := by
      have := applyP_len (xs := xs) (o := ⟨2, p, 0, 9, 2⟩) (by rw [HL.out]; exact HF5.out)
      rw [HL.out] at this
      simp at this
      omega
    generalize applyP xs ⟨2, p, 0, 9, 2⟩ = T8 at *
    rw [hl8] at hR8 ⊢
    have R8 := hd hR8.isE
    have x0 := out_cell b8 0
    have x1 := out_cell b8 1
    have x2 := out_cell b8 2
    simp at x0 x1 x2
    have hr8 : w7.heap.size < w8.heap.size := Nat.lt_of_lt_of_le (by simp) b8.size
    have hr9 : ¬ w7.heap.size = w8.heap.size := by omega
    have bb8 := out_below b8
    have E8 := hd (E7.out.below bb8)
    have B8 := hd (B7.out.trans (bb8.mono B7.out.size))
    clear hO hR8 b8 bb8 hl8 E7 B7 k0 k1 k2
    generalize w7.heap.size = r at *
    by_cases t0 : 32 ≤ xc
    · by_cases t1 : xc ≤ 126
      · by_cases t2 : 1 ≤ xl
        · by_cases t3 : xl ≤ 64
          · by_cases t4 : 1 ≤ xq
            · by_cases t5 : xq ≤ 64
              · have HF9 : Hid (fitsP (M : Int) ⟨1, p, xc, xl, xq⟩ = 0) := fits_ins t0 t1 t2 t3 t4 t5 (by have := HM.out; omega) (by have := HM.out; omega)
                go_wp2_with fail
                refine (apply_good _ M cp8 1 p xc xl xq T8 _ (R8.out.below ((Below.refl _ _).alloc (Nat.le_refl _) _)) HO2.out.1 HO2.out.2 HF9.out).mono ?_
                rintro e w9 ⟨v, rfl, hO, b9⟩
                rw [U8.out] at hO
                obtain ⟨g9, cp9, -, rfl, hR9⟩ := hO.form
                rw [HL.out] at hR9 ⊢
                have R9 := hd hR9.isE
                have bb9 := out_below b9
                have E9 := hd (E8.out.below bb9)
                have B9 := hd (B8.out.trans (bb9.mono B8.out.size))
                clear hO hR9 b9 bb9 E8 B8 R8
                go_wp2_with fail
                refine (same_any _ _ N N cp9 cc xs xs _ R9.out E9.out).mono ?_
                rintro e w10 ⟨rfl, m10, rfl⟩
                rw [decide_eq_true rfl]
                have B10 := hd (below_drewN B9.out m10)
                clear E9 B9 R9
                generalize w9.drewN m10 = w10 at *
                go_wp2
                go_ret
                exact ⟨rfl, B10.out⟩
              · have tb : decide (xq ≤ 64) = false := decide_eq_false t5
                obtain ⟨ev, hev⟩ : ∃ ev, ev = fitsP (M : Int) ⟨1, p, xc, xl, xq⟩ := ⟨_, rfl⟩
                have hn0 : ¬ ev = 0 := by rw [hev]; exact not_may _ _ _ _ _ (by omega)
                have hnb : (ev != 0) = true := by simpa using hn0
                have EV := hd hev.symm
                have EN := hd hn0
                clear hev hn0
                go_wp2_with fail
                refine (apply_bad _ M cp8 1 p xc xl xq ev _ HO2.out.1 HO2.out.2 EV.out EN.out).mono ?_
                rintro e w9 ⟨rfl, b9⟩
                have B9 := hd (B8.out.trans ((out_below b9).mono B8.out.size))
                clear b9
                go_wp2
                go_ret
                exact ⟨rfl, B9.out⟩
            · obtain ⟨ev, hev⟩ : ∃ ev, ev = fitsP (M : Int) ⟨1, p, xc, xl, xq⟩ := ⟨_, rfl⟩
              have hn0 : ¬ ev = 0 := by rw [hev]; exact not_may _ _ _ _ _ (by omega)
              have hnb : (ev != 0) = true := by simpa using hn0
              have EV := hd hev.symm
              have EN := hd hn0
              clear hev hn0
              go_wp2_with fail
              refine (apply_bad _ M cp8 1 p xc xl xq ev _ HO2.out.1 HO2.out.2 EV.out EN.out).mono ?_
              rintro e w9 ⟨rfl, b9⟩
              have B9 := hd (B8.out.trans ((out_below b9).mono B8.out.size))
              clear b9
              go_wp2
              go_ret
              exact ⟨rfl, B9.out⟩
          · obtain ⟨ev, hev⟩ : ∃ ev, ev = fitsP (M : Int) ⟨1, p, xc, xl, xq⟩ := ⟨_, rfl⟩
            have hn0 : ¬ ev = 0 := by rw [hev]; exact not_may _ _ _ _ _ (by omega)
            have hnb : (ev != 0) = true := by simpa using hn0
            have EV := hd hev.symm
            have EN := hd hn0
            clear hev hn0
            go_wp2_with fail
            refine (apply_bad _ M cp8 1 p xc xl xq ev _ HO2.out.1 HO2.out.2 EV.out EN.out).mono ?_
            rintro e w9 ⟨rfl, b9⟩
            have B9 := hd (B8.out.trans ((out_below b9).mono B8.out.size))
            clear b9
            go_wp2
            go_ret
            exact ⟨rfl, B9.out⟩
        · obtain ⟨ev, hev⟩ : ∃ ev, ev = fitsP (M : Int) ⟨1, p, xc, xl, xq⟩ := ⟨_, rfl⟩
          have hn0 : ¬ ev = 0 := by rw [hev]; exact not_may _ _ _ _ _ (by omega)
          have hnb : (ev != 0) = true := by simpa using hn0
          have EV := hd hev.symm
          have EN := hd hn0
          clear hev hn0
          go_wp2_with fail
          refine (apply_bad _ M cp8 1 p xc xl xq ev _ HO2.out.1 HO2.out.2 EV.out EN.out).mono ?_
          rintro e w9 ⟨rfl, b9⟩
          have B9 := hd (B8.out.trans ((out_below b9).mono B8.out.size))
          clear b9
          go_wp2
          go_ret
          exact ⟨rfl, B9.out⟩
      · obtain ⟨ev, hev⟩ : ∃ ev, ev = fitsP (M : Int) ⟨1, p, xc, xl, xq⟩ := ⟨_, rfl⟩
        have hn0 : ¬ ev = 0 := by rw [hev]; exact not_may _ _ _ _ _ (by omega)
        have hnb : (ev != 0) = true := by simpa using hn0
        have EV := hd hev.symm
        have EN := hd hn0
        clear hev hn0
        go_wp2_with fail
        refine (apply_bad _ M cp8 1 p xc xl xq ev _ HO2.out.1 HO2.out.2 EV.out EN.out).mono ?_
        rintro e w9 ⟨rfl, b9⟩
        have B9 := hd (B8.out.trans ((out_below b9).mono B8.out.size))
        clear b9
        go_wp2
        go_ret
        exact ⟨rfl, B9.out⟩
    · obtain ⟨ev, hev⟩ : ∃ ev, ev = fitsP (M : Int) ⟨1, p, xc, xl, xq⟩ := ⟨_, rfl⟩
      have hn0 : ¬ ev = 0 := by rw [hev]; exact not_may _ _ _ _ _ (by omega)
      have hnb : (ev != 0) = true := by simpa using hn0
      have EV := hd hev.symm
      have EN := hd hn0
      clear hev hn0
      go_wp2_with fail
      refine (apply_bad _ M cp8 1 p xc xl xq ev _ HO2.out.1 HO2.out.2 EV.out EN.out).mono ?_
      rintro e w9 ⟨rfl, b9⟩
      have B9 := hd (B8.out.trans ((out_below b9).mono B8.out.size))
      clear b9
      go_wp2
      go_ret
      exact ⟨rfl, B9.out⟩

end Go.Proofs.Ytbgpmekjcepmaaa
