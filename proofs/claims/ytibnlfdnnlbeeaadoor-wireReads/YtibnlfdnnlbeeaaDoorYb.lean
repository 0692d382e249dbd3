/-
  Of the laws: room.
-/
import Derived.Test.YtibnlfdnnlbeeaaDoorYa
namespace Go.Proofs.YtibnlfdnnlbeeaaDoor
open Go.RowKit
set_option linter.unusedVariables false

def roomP (j : Nat) : List Int := List.replicate j 165 ++ List.replicate (3 - j) 0
theorem room_set (xs : List Int) (n j : Nat) (hl : xs.length = n) (hj : j < 3) : (ints (xs ++ roomP j)).set (n + j) (.int .u8 165) = ints (xs ++ roomP (j + 1)) := by
  unfold ints
  rw [List.map_append, List.set_append_right _ _ (by simp; omega)]
  have e : n + j - (List.map (Value.int .u8) xs).length = j := by simp; omega
  rw [e, List.map_append]
  congr 1
  have : j = 0 ∨ j = 1 ∨ j = 2 := by omega
  rcases this with rfl | rfl | rfl <;> rfl

set_option maxHeartbeats 2000000 in
theorem room_any (a : Option Addr) (n c : Nat) (xs : List Int) (w : World) (h : IsB w a n c xs) (hn : n ≤ 140737488351232) :
    Calls Tryd.prog 14 #[.slice a n c] w fun e w' => ∃ g, e = .returned (.slice (some ⟨g, 0, none⟩) (n + 3) (n + 3)) ∧ OwnB w' w.heap.size (.slice (some ⟨g, 0, none⟩) (n + 3) (n + 3)) (n + 3) (xs ++ [165, 165, 165]) ∧ Below w.heap.size w w' := by
  have H := h
  obtain ⟨h1, h2, h3, h4⟩ := h
  clear h4
  obtain ⟨i0, hi, hz0, hz1, hz2⟩ := info_parts Tryd.info5
  have HH : Hid (IsB w a n c xs) := H
  clear H
  go_enter Tryd.func14, Tryd.ntmps14
  go_wp2_with (first | (at_make; refine wpList_make_cap _ rfl _ _ 22 rfl 5 i0 (.int .u8 0) Tryd.underlying22 hi hz0 hz1 rfl _ _ _ _ (n + 3) (n + 3) rfl rfl (by omega) (by omega) (by omega) (by rw [hz2]; omega) (by omega) ?_; intro w1 hown hgrow hsz) | (refine wpList_copy_splice rfl (.tmp 9) (.tmp 10) 22 22 rfl 5 Tryd.underlying22 (by kernel_rfl) _ _ (n + 3) (n + 3) n c rfl rfl w.heap.size 0 (List.replicate (n + 3) (.int .u8 0)) 5 hown.out (ints xs) (by simp [ints, h1]) ?k1 (by simp [ints, h1]) (ints_one _) w.heap.size w ?k2 (Nat.le_refl _) ?_) | go_in)
  case k2 => exact (Below.refl _ _).grown hgrow (Nat.le_refl _) (by simp)
  case k1 => exact fun hp => cells_of_isB (HH.out.below ((Below.refl _ _).grown hgrow (Nat.le_refl _) (by simp))) hp
  intro w2 hown2 hbel
  clear hown hgrow
  have S0 : Hid (OwnB w2 w.heap.size (.slice (some ⟨w.heap.size, 0, none⟩) (n + 3) (n + 3)) (n + 3) (xs ++ roomP 0) ∧ Below w.heap.size w w2) := by
    refine ⟨?_, hbel⟩
    have e : splice (List.replicate (n + 3) (Value.int .u8 0)) 0 (ints xs) = ints (xs ++ roomP 0) := by
      simp [splice, ints, h1, roomP]
    have hh := hown2.out
    rw [e] at hh
    refine ⟨by simp [ints, h1, roomP], .inr ⟨_, _, _, rfl, Nat.le_refl _, hh, Nat.le_refl _, by unfold maxLen; omega, by simp [ints, h1, roomP], ?_⟩⟩
    exact List.take_of_length_le (by simp [ints, h1, roomP])
  clear hown2 hbel hi hz0 hz1 hz2
  go_wp2_with fail
  go_loopw [4] (fun i wr => ∃ j : Nat, j ≤ 3 ∧ i = .int .i64 ((n + j : Nat) : Int) ∧ Hid (OwnB wr w.heap.size (.slice (some ⟨w.heap.size, 0, none⟩) (n + 3) (n + 3)) (n + 3) (xs ++ roomP j) ∧ Below w.heap.size w wr)) (fun i _ => n + 3 - (intOf i).toNat)
  case atStart => exact ⟨0, Nat.zero_le _, rfl, S0⟩
  case round =>
    obtain ⟨j, hj, rfl, hr⟩ := hrel
    clear S0
    by_cases hlt : j < 3
    · obtain ⟨k, hk⟩ : ∃ k, n + j = k := ⟨_, rfl⟩
      have HKJ := hd hk
      have i1 : (k : Int) < (n : Int) + 3 := by omega
      have i0' : (0 : Int) ≤ k := by omega
      have kb : k < n + 3 := by omega
      have hfr : wr.frozen? ⟨w.heap.size, k, none⟩ = false := hr.out.1.frozenAt k
      have hcl : ∃ u, wr.cell? ⟨w.heap.size, k, none⟩ = some u := by
        rw [hr.out.1.cellAt k (by omega)]
        exact ⟨_, List.getElem?_eq_getElem (by rw [hr.out.1.1]; omega)⟩
      obtain ⟨u, hu⟩ := hcl
      have st := hr.out.1.stored k (.int .u8 165)
      rw [← hk, room_set xs n j h1 hlt, hk] at st
      have ST := hd st
      have HB := hd hr.out.2
      rw [hk]
      clear st hr hk
      go_wp2
      exact ⟨⟨j + 1, by omega, by have := HKJ.out; go_num, ⟨ST.out.1, HB.out.grown ST.out.2 HB.out.size (by simp)⟩⟩, by have := HKJ.out; simp [intOf]; omega⟩
    · obtain rfl : j = 3 := by omega
      have R := hd hr.out
      clear hr
      go_wp2
      go_ret
      exact ⟨_, rfl, R.out⟩

end Go.Proofs.YtibnlfdnnlbeeaaDoor
