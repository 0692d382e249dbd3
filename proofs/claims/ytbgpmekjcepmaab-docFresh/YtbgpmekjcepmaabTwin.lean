/-
  twin.
-/
import Derived.Test.YtbgpmekjcepmaabRApp
namespace Go.Proofs.Ytbgpmekjcepmaab
open Go.RowKit
set_option linter.unusedVariables false

set_option maxRecDepth 100000 in
set_option maxHeartbeats 4000000 in
theorem twin_any (a : Option Addr) (n cc : Nat) (T : List El) (w : World) (hE : IsE w a n cc T) (hn : n * 24 ≤ 140737488351232) :
    Calls Try.prog 7 #[.slice a n cc] w fun x w' => ∃ v, x = .returned v ∧ OwnE w' w.heap.size v T ∧ Below w.heap.size w w' := by
  obtain ⟨i0, hi0, hz0, hz1, hz2⟩ := info_parts Try.infoE
  have HE := hd hE
  have HN : Hid (n = T.length) := hE.1.symm
  clear hE
  go_enter Try.func7, Try.ntmps7
  go_wp2_with (at_make; refine wpList_make_k _ rfl _ _ 22 rfl 46 i0 _ Try.underlying22 hi0 hz0 _ _ _ _ n n rfl rfl rfl rfl (Nat.le_refl _) (by rw [hz2]; omega) (by omega) ?_; intro w3 cur hg3 hcur hb3)
  have R3 : Hid (ARel w w3 w.heap.size T 0) := by
    refine ⟨List.replicate n (0, 0, 0), ?_, by simp, hb3.out⟩
    rw [← HN.out]
    exact row_made hg3.out (by have := hcur.out; rw [hz1] at this; exact this) (by omega)
  clear hg3 hcur hb3 hi0 hz0 hz1 hz2
  go_wp2
  go_loopw [4] (fun i wr => ∃ j : Nat, j ≤ n ∧ i = .int .i64 j ∧ Hid (ARel w wr w.heap.size T j)) (fun i _ => n - (intOf i).toNat)
  case atStart => exact ⟨0, Nat.zero_le _, rfl, R3⟩
  case round =>
    obtain ⟨j, hj, rfl, hr⟩ := hrel
    clear R3
    by_cases hlt : j < n
    · have jT : j < T.length := by have := HN.out; omega
      obtain ⟨ys, hR, hT2, hB⟩ := hr.out
      have i1 : (j : Int) < (n : Int) := by omega
      have E1 := HE.out.below hB
      obtain ⟨b, off, rfl, hb⟩ := E1.addr (by omega)
      obtain ⟨k0, k1, k2⟩ := E1.at j hlt jT
      obtain ⟨⟨a0, d0⟩, ⟨a1, d1⟩, ⟨a2, d2⟩⟩ := hR.cells j (by omega)
      have f0 := hR.frozen (j * 3)
      have f1 := hR.frozen (j * 3 + 1)
      have f2 := hR.frozen (j * 3 + 2)
      have TS : Hid (∀ v, v = T[j] → (ys.set j v).take (j + 1) = T.take (j + 1)) := by
        rintro v rfl
        rw [take_set_succ ys j _ (by rw [hR.isE.1]; exact jT), hT2, List.take_succ_eq_append_getElem jT]
      have HR := hd hR
      have HB := hd hB
      clear hr hR hT2 hB E1
      generalize T[j] = X at *
      obtain ⟨x0, x1, x2⟩ := X
      simp only [] at k0 k1 k2
      go_wp2
      refine ⟨⟨j + 1, by omega, by go_num, ⟨_, HR.out.set3 j x0 x1 x2 jT, TS.out _ rfl, ?_⟩⟩, by simp [intOf]; omega⟩
      exact ((HB.out.setCell (Nat.le_refl _) _).setCell (Nat.le_refl _) _).setCell (Nat.le_refl _) _
    · obtain rfl : j = n := by omega
      obtain ⟨ys, hR, hT2, hB⟩ := hr.out
      have R : Hid (OwnE wr w.heap.size (.slice (some ⟨w.heap.size, 0, none⟩) j j) T ∧ Below w.heap.size w wr) := by
        have hl := hR.isE.1
        rw [List.take_of_length_le (by rw [hl, ← HN.out]; exact Nat.le_refl _), List.take_of_length_le (by rw [← HN.out]; exact Nat.le_refl _)] at hT2
        subst hT2
        exact ⟨⟨_, Nat.le_refl _, ys.length, by rw [HN.out], hR⟩, hB⟩
      clear hr hR hT2 hB
      go_wp2
      go_ret
      exact ⟨_, rfl, R.out⟩

end Go.Proofs.Ytbgpmekjcepmaab
