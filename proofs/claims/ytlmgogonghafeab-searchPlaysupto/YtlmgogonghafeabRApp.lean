/-
  Apply of the document.
-/
import Derived.Test.YtlmgogonghafeabRAt
import Derived.Test.YtlmgogonghafeabVc
namespace Go.Proofs.Ytlmgogonghafeab
open Go.RowKit
set_option linter.unusedVariables false

theorem take_set_succ {α : Type} (ys : List α) (k : Nat) (v : α) (hk : k < ys.length) : (ys.set k v).take (k + 1) = ys.take k ++ [v] := by
  rw [List.take_set, List.take_succ_eq_append_getElem hk, List.set_append_right _ _ (by simp; omega)]
  simp [show min k ys.length = k by omega]

set_option maxHeartbeats 1000000 in
theorem rapply_bad (a : Option Addr) (n cc : Nat) (k p c l s e : Int) (w : World) (hf : fitsP n ⟨k, p, c, l, s⟩ = e) (he : ¬ e = 0) :
    Calls Try.prog 57 #[.slice a n cc, .agg #[.int .i64 k, .int .i64 p, .int .u8 c, .int .i64 l, .int .i64 s]] w fun x w' => x = .returned (.tuple #[.slice none 0 0, .int .i64 e]) ∧ Below w.heap.size w w' := by
  have HF := hd hf
  have he' : (e != 0) = true := by simpa using he
  clear hf he
  go_enter Try.func57, Try.ntmps57
  go_wp2_with fail
  refine (rfits_any _ _ _ _ _ _ _).mono ?_
  rintro x w1 ⟨rfl, b1⟩
  rw [HF.out]
  have B1 := hd (out_below b1)
  clear b1
  go_wp2
  go_ret2
  exact ⟨rfl, B1.out⟩

/-- What holds in the loop of Apply. -/
def ARel (w1 wr : World) (g : Nat) (T : List El) (k : Nat) : Prop := ∃ ys, RowE wr g T.length T.length ys ∧ ys.take k = T.take k ∧ Below w1.heap.size w1 wr

set_option maxRecDepth 100000 in
set_option maxHeartbeats 4000000 in
theorem rapply_good (a : Option Addr) (n cc : Nat) (k p c l s : Int) (xs T : List El) (N : Nat) (w : World) (hE : IsE w a n cc xs) (hf : fitsP n ⟨k, p, c, l, s⟩ = 0) (hT : T = applyP xs ⟨k, p, c, l, s⟩) (hN : N = T.length) :
    Calls Try.prog 57 #[.slice a n cc, .agg #[.int .i64 k, .int .i64 p, .int .u8 c, .int .i64 l, .int .i64 s]] w fun x w' =>
      ∃ v, x = .returned (.tuple #[v, .int .i64 0]) ∧ OwnE w' w.heap.size v T ∧ Below w.heap.size w w' := by
  obtain ⟨i0, hi0, hz0, hz1, hz2⟩ := info_parts Try.infoE
  have hL := hE.1
  have hn : n ≤ 4096 := by have := (fitsP_zero hf).2.2.1; omega
  have hk := (validP_zero (fitsP_zero hf).1).1
  have hLN : (if k = 1 then (n : Int) + 1 else if k = 2 then (n : Int) - 1 else (n : Int)) = (N : Int) := by
    have := applyP_len (xs := xs) (o := ⟨k, p, c, l, s⟩) (by rw [hL]; exact hf)
    rw [hN, hT, this, hL]
  have hN4 : N ≤ 4096 := by
    have := applyP_le (xs := xs) (o := ⟨k, p, c, l, s⟩) (by rw [hL]; exact hf)
    rw [hN, hT]; exact this
  have HE := hd hE
  have HF := hd hf
  have HK := hd hk
  have HT := hd hT
  have HN := hd hN
  have HLN := hd hLN
  clear hE hf hk hLN hT hN hL
  have B0 := hd ((Below.refl w.heap.size w).alloc (Nat.le_refl _) (.cells #[.int .i64 k, .int .i64 p, .int .u8 c, .int .i64 l, .int .i64 s] 32))
  go_enter Try.func57, Try.ntmps57
  go_wp2_with fail
  refine (rfits_any _ _ _ _ _ _ _).mono ?_
  rintro x w1 ⟨rfl, b1⟩
  rw [HF.out]
  have B1 := hd b1
  have c0 := out_cell b1 0
  have c1 := out_cell b1 1
  have c2 := out_cell b1 2
  have c3 := out_cell b1 3
  have c4 := out_cell b1 4
  simp at c0 c1 c2 c3 c4
  clear b1
  go_wp2_with fail
  refine (rlong_any n k p c l s _ HK.out hn).mono ?_
  rintro x w2 ⟨rfl, b2⟩
  rw [HLN.out]
  have B2 := hd (B1.out.trans (b2.mono B1.out.size))
  clear b2 c0 c1 c2 c3 c4 B1
  go_wp2_with (at_make; refine wpList_make_k _ rfl _ _ 22 rfl 25 i0 _ Try.underlying22 hi0 hz0 _ _ _ _ N N rfl rfl rfl rfl (Nat.le_refl _) (by rw [hz2]; omega) (by omega) ?_; intro w3 cur hg3 hcur hb3)
  have R3 : Hid (ARel (w.alloc (.cells #[.int .i64 k, .int .i64 p, .int .u8 c, .int .i64 l, .int .i64 s] 32)) w3 w2.heap.size T 0) := by
    refine ⟨List.replicate N (0, 0, 0), ?_, by simp, B2.out.trans (hb3.out.mono B2.out.size)⟩
    rw [← HN.out]
    exact row_made hg3.out (by have := hcur.out; rw [hz1] at this; exact this) (by omega)
  have hgB : (w.alloc (.cells #[.int .i64 k, .int .i64 p, .int .u8 c, .int .i64 l, .int .i64 s] 32)).heap.size ≤ w2.heap.size := B2.out.size
  have HG := hd hgB
  generalize w2.heap.size = g at *
  clear hg3 hcur hb3 hi0 hz0 hz1 hz2 B2 hgB
  go_wp2
  go_loopw [9] (fun i wr => ∃ j : Nat, j ≤ N ∧ i = .int .i64 j ∧ Hid (ARel (w.alloc (.cells #[.int .i64 k, .int .i64 p, .int .u8 c, .int .i64 l, .int .i64 s] 32)) wr g T j)) (fun i _ => N - (intOf i).toNat)
  case atStart => exact ⟨0, Nat.zero_le _, rfl, R3⟩
  case round =>
    obtain ⟨j, hj, rfl, hr⟩ := hrel
    clear R3
    by_cases hlt : j < N
    · have jT : j < T.length := by have := HN.out; omega
      obtain ⟨ys, hR, hT2, hB⟩ := hr.out
      have c0 := out_cell hB 0
      have c1 := out_cell hB 1
      have c2 := out_cell hB 2
      have c3 := out_cell hB 3
      have c4 := out_cell hB 4
      simp at c0 c1 c2 c3 c4
      have i1 : (j : Int) < (N : Int) := by omega
      have HR := hd hR
      have HT2 := hd hT2
      have HB := hd hB
      have E1 := hd (HE.out.below (B0.out.trans (hB.mono B0.out.size)))
      clear hr hR hT2 hB
      have TE := hd (show (applyP xs ⟨k, p, c, l, s⟩)[j]'(by rw [← HT.out]; exact jT) = T[j] from by simp only [HT.out])
      go_wp2_with fail
      refine (rat_any a n cc k p c l s j xs _ E1.out HF.out (by rw [← HT.out]; exact jT)).mono ?_
      rintro x w5 ⟨rfl, b5⟩
      rw [TE.out]
      have R5 := hd (HR.out.fr (S := fun _ => False) (Fr.of_below b5) (fun h => h))
      have B5 := hd (HB.out.trans (b5.mono HB.out.size))
      obtain ⟨⟨a0, d0⟩, ⟨a1, d1⟩, ⟨a2, d2⟩⟩ := R5.out.cells j (by omega)
      have f0 := R5.out.frozen (j * 3)
      have f1 := R5.out.frozen (j * 3 + 1)
      have f2 := R5.out.frozen (j * 3 + 2)
      have TS : Hid (∀ v, v = T[j] → (ys.set j v).take (j + 1) = T.take (j + 1)) := by
        rintro v rfl
        rw [take_set_succ ys j _ (by rw [R5.out.isE.1]; exact jT), HT2.out, List.take_succ_eq_append_getElem jT]
      generalize T[j] = X at *
      obtain ⟨x0, x1, x2⟩ := X
      simp only [elv]
      clear b5 HR HB c0 c1 c2 c3 c4
      go_wp2
      refine ⟨⟨j + 1, by omega, by go_num, ⟨_, R5.out.set3 j x0 x1 x2 jT, TS.out _ rfl, ?_⟩⟩, by simp [intOf]; omega⟩
      exact ((B5.out.setCell HG.out _).setCell HG.out _).setCell HG.out _
    · obtain rfl : j = N := by omega
      obtain ⟨ys, hR, hT2, hB⟩ := hr.out
      have R : Hid (OwnE wr w.heap.size (.slice (some ⟨g, 0, none⟩) j j) T ∧ Below w.heap.size w wr) := by
        have hl := hR.isE.1
        rw [List.take_of_length_le (by rw [hl, ← HN.out]; exact Nat.le_refl _), List.take_of_length_le (by rw [← HN.out]; exact Nat.le_refl _)] at hT2
        subst hT2
        exact ⟨⟨g, Nat.le_trans (by simp) HG.out, ys.length, by rw [HN.out], hR⟩, B0.out.trans (hB.mono B0.out.size)⟩
      clear hr hR hT2 hB
      go_wp2
      go_ret2
      exact ⟨_, rfl, R.out⟩

end Go.Proofs.Ytlmgogonghafeab
