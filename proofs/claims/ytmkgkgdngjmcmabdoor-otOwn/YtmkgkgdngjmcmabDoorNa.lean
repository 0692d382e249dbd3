/-
  Lines copied; two lines held against one another.
-/
import Derived.Test.YtmkgkgdngjmcmabDoorMb
namespace Go.Proofs.YtmkgkgdngjmcmabDoor
open Go.RowKit
set_option linter.unusedVariables false

set_option maxRecDepth 100000 in
set_option maxHeartbeats 4000000 in
theorem copied_any (a : Option Addr) (n c : Nat) (xs : List OpE) (w : World) (hE : IsO w a n c xs) (hn : n * 40 ≤ 281474976710656) :
    Calls Tryd.prog 26 #[.slice a n c] w fun e w' => ∃ v, e = .returned v ∧ OwnO w' w.heap.size v xs ∧ Below w.heap.size w w' := by
  obtain ⟨i0, hi0, hz0, hz1, hz2⟩ := info_parts Tryd.infoO
  have HE := hd hE
  have HN : Hid (xs.length = n) := hE.1
  have n63 : n ≤ 9223372036854775807 := by omega
  clear hE
  go_enter Tryd.func26, Tryd.ntmps26
  go_wp2_with (first | (at_make; refine wpList_make_k _ rfl _ _ 24 rfl 23 i0 _ Tryd.underlying24 hi0 hz0 _ _ _ _ n n rfl rfl rfl rfl (Nat.le_refl _) (by rw [hz2]; omega) (by omega) ?_; intro w3 cur hg3 hcur hb3) | fail)
  have hl3 : cur.length = n * 5 := by
    have := hcur.out
    rw [hz1] at this
    rw [this, show (Value.agg #[.int .i64 0, .int .i64 0, .int .u8 0, .int .i64 0, .int .i64 0]).cells = #[.int .i64 0, .int .i64 0, .int .u8 0, .int .i64 0, .int .i64 0] from rfl, made_zero, cO_len]
    simp
  obtain ⟨w4, hr4, hR4, hF4⟩ := run_copyO w3 a n c n w.heap.size xs cur (HE.out.below hb3.out) hg3.out hl3 (Nat.le_refl _) n63
  have R : Hid (OwnO w4 w.heap.size (.slice (some ⟨w.heap.size, 0, none⟩) n n) xs ∧ Below w.heap.size w w4) := by
    refine ⟨⟨_, n, Nat.le_refl _, by rw [HN.out], by rw [HN.out]; exact hR4⟩, hb3.out.trans (hF4.below hb3.out.size (fun k h => by rw [h]; exact Nat.le_refl _))⟩
  clear hg3 hcur hb3 hi0 hz0 hz1 hz2 hl3 hR4 hF4
  rw [hr4]
  go_wp2
  go_ret
  exact ⟨_, rfl, R.out⟩

/-- A row, of which the first j are those of T. -/
def ARel (w wr : World) (g : Nat) (T : List OpE) (j : Nat) : Prop := ∃ ys, RowO wr g T.length T.length ys ∧ ys.take j = T.take j ∧ Below w.heap.size w wr

set_option maxRecDepth 100000 in
set_option maxHeartbeats 4000000 in
theorem lcopied_any (a : Option Addr) (n cc : Nat) (T : List OpE) (w : World) (hE : IsO w a n cc T) (hn : n * 40 ≤ 281474976710656) :
    Calls Tryd.prog 8 #[.slice a n cc] w fun x w' => ∃ v, x = .returned v ∧ OwnO w' w.heap.size v T ∧ Below w.heap.size w w' := by
  obtain ⟨i0, hi0, hz0, hz1, hz2⟩ := info_parts Tryd.infoO
  have HE := hd hE
  have HN : Hid (n = T.length) := hE.1.symm
  have n63 : n ≤ 9223372036854775807 := by omega
  clear hE
  go_enter Tryd.func8, Tryd.ntmps8
  go_wp2_with (at_make; refine wpList_make_k _ rfl _ _ 24 rfl 23 i0 _ Tryd.underlying24 hi0 hz0 _ _ _ _ n n rfl rfl rfl rfl (Nat.le_refl _) (by rw [hz2]; omega) (by omega) ?_; intro w3 cur hg3 hcur hb3)
  have R3 : Hid (ARel w w3 w.heap.size T 0) := by
    refine ⟨List.replicate n zop, ?_, by simp, hb3.out⟩
    rw [← HN.out]
    exact (row_made hg3.out (by have := hcur.out; rw [hz1] at this; exact this) (by omega)).1
  clear hg3 hcur hb3 hi0 hz0 hz1 hz2
  go_wp2
  go_loopw [4] (fun i wr => ∃ j : Nat, j ≤ n ∧ i = .int .i64 j ∧ Hid (ARel w wr w.heap.size T j)) (fun i _ => n - (intOf i).toNat)
  case atStart => exact ⟨0, Nat.zero_le _, rfl, R3⟩
  case round =>
    obtain ⟨j, hj, rfl, hr⟩ := hrel
    clear R3
    by_cases hlt : j < n
    · have jT : j < T.length := by have := HN.out; omega
      obtain ⟨ys, hR, hT2, hB⟩ := hr.out
      have i1 : (j : Int) < (n : Int) := by omega
      have E1 := HE.out.below hB
      obtain ⟨b, off, rfl, hb⟩ := E1.addr (by omega)
      obtain ⟨k0, k1, k2, k3, k4⟩ := E1.at j hlt jT
      have jy : j < ys.length := by rw [hR.isO.1]; exact jT
      obtain ⟨a0, a1, a2, a3, a4⟩ := hR.at j jT jy
      have f0 := hR.frozen (j * 5)
      have f1 := hR.frozen (j * 5 + 1)
      have f2 := hR.frozen (j * 5 + 2)
      have f3 := hR.frozen (j * 5 + 3)
      have f4 := hR.frozen (j * 5 + 4)
      have TS : Hid (∀ v, v = T[j] → (ys.set j v).take (j + 1) = T.take (j + 1)) := by
        rintro v rfl
        rw [take_set_succ ys j _ jy, hT2, List.take_succ_eq_append_getElem jT]
      have HR := hd hR
      have HB := hd hB
      clear hr hR hT2 hB E1
      generalize T[j] = X at *
      obtain ⟨x0, x1, x2, x3, x4⟩ := X
      simp only [] at k0 k1 k2 k3 k4
      generalize ys[j] = Y at *
      go_wp2
      refine ⟨⟨j + 1, by omega, by go_num, ⟨_, HR.out.set5 j x0 x1 x2 x3 x4 jT, TS.out _ rfl, ?_⟩⟩, by simp [intOf]; omega⟩
      exact ((((HB.out.setCell (Nat.le_refl _) _).setCell (Nat.le_refl _) _).setCell (Nat.le_refl _) _).setCell (Nat.le_refl _) _).setCell (Nat.le_refl _) _
    · obtain rfl : j = n := by omega
      obtain ⟨ys, hR, hT2, hB⟩ := hr.out
      have R : Hid (OwnO wr w.heap.size (.slice (some ⟨w.heap.size, 0, none⟩) j j) T ∧ Below w.heap.size w wr) := by
        have hl := hR.isO.1
        rw [List.take_of_length_le (by rw [hl, ← HN.out]; exact Nat.le_refl _), List.take_of_length_le (by rw [← HN.out]; exact Nat.le_refl _)] at hT2
        subst hT2
        exact ⟨⟨_, ys.length, Nat.le_refl _, by rw [HN.out], hR⟩, hB⟩
      clear hr hR hT2 hB
      go_wp2
      go_ret
      exact ⟨_, rfl, R.out⟩

theorem eq_more {xs ys : List OpE} {k : Nat} (hk : k < xs.length) (hl : xs.length = ys.length) (h : xs.take k = ys.take k) (e : xs[k] = ys[k]'(by omega)) : xs.take (k + 1) = ys.take (k + 1) := by
  rw [List.take_succ_eq_append_getElem hk, List.take_succ_eq_append_getElem (by omega : k < ys.length), h, e]

theorem IsO.drewN {w : World} {a : Option Addr} {n c : Nat} {xs : List OpE} (h : IsO w a n c xs) (m : Nat) : IsO (w.drewN m) a n c xs := h.fr (Fr.drewN (fun _ => False) w m) (fun _ _ _ _ h => h)

set_option maxRecDepth 100000 in
set_option maxHeartbeats 4000000 in
/-- Two lines that are the same. -/
theorem same_true (a b : Option Addr) (n n' c d : Nat) (xs ys : List OpE) (w : World) (hx : IsO w a n c xs) (hy : IsO w b n' d ys) (he : xs = ys) :
    Calls Tryd.prog 12 #[.slice a n c, .slice b n' d] w fun e w' => e = .returned (.bool true) ∧ ∃ m, w' = w.drewN m := by
  subst he
  obtain rfl : n = n' := hx.1.symm.trans hy.1
  have hc := hx.2.1
  have hc' := hx.2.2.1
  have LX := hd hx.1
  have HX := hd hx
  have HY := hd hy
  clear hx hy
  go_enter Tryd.func12, Tryd.ntmps12
  go_wp2
  go_loopw [5] (fun i wr => ∃ k m : Nat, k ≤ n ∧ i = .int .i64 k ∧ wr = w.drewN m) (fun i _ => n - (intOf i).toNat)
  case atStart => exact ⟨0, 0, Nat.zero_le _, rfl, rfl⟩
  case round =>
    obtain ⟨k, m, hk, rfl, rfl⟩ := hrel
    by_cases hlt : k < n
    · obtain ⟨b1, o1, rfl, -⟩ := HX.out.addr (by omega)
      obtain ⟨b2, o2, rfl, -⟩ := HY.out.addr (by omega)
      have kx : k < xs.length := by have := LX.out; omega
      obtain ⟨x0, x1, x2, x3, x4⟩ := HX.out.at k hlt kx
      obtain ⟨y0, y1, y2, y3, y4⟩ := HY.out.at k hlt kx
      have i1 : (k : Int) < (n : Int) := by omega
      generalize xs[k] = x at *
      obtain ⟨xa, xb, xc, xd, xe⟩ := x
      simp only [] at x0 x1 x2 x3 x4 y0 y1 y2 y3 y4
      go_wp2
      go_quiet (fail)
      go_wp2
      exact ⟨⟨k + 1, _, by omega, by go_num, rfl⟩, by simp [intOf]; omega⟩
    · obtain rfl : k = n := by omega
      go_wp2
      go_ret
      exact ⟨rfl, _, rfl⟩

end Go.Proofs.YtmkgkgdngjmcmabDoor
