/-
  twin, copied.
-/
import Derived.Test.YtkidhfednipdcaaParts
namespace Go.Proofs.Ytkidhfednipdcaa
open Go.RowKit

set_option maxHeartbeats 400000 in
theorem twin_any (a : Option Addr) (n c : Nat) (xs : List Int) (w : World) (h : IsB w a n c xs) (hn : n ≤ 1000000) :
    Calls Try.prog 5 #[.slice a n c] w fun e w' => ∃ v, e = .returned v ∧ OwnB w' w.heap.size v n xs ∧ Below w.heap.size w w' := by
  obtain ⟨h1, h2, h3, h4⟩ := h
  obtain ⟨i0, hi, hz0, hz1, hz2⟩ := info_parts Try.info5
  go_enter Try.func5, Try.ntmps5
  go_wp2_with (first | (at_make; refine wpList_make_full _ rfl _ _ 22 rfl w.heap.size 5 i0 (.int .u8 0) 1 Try.underlying22 hi hz0 hz1 _ _ _ _ n rfl rfl rfl rfl (by rw [hz2]; omega) (by unfold maxLen; omega) (Nat.le_refl _) ?_; intro w1 hown hgrow) | go_in)
  have hbel : Below w.heap.size w w1 := (Below.refl _ _).grown hgrow (Nat.le_refl _) (by simp)
  have hown0 : w1.ownsRow w.heap.size 5 1 (.slice (some ⟨w.heap.size, 0, none⟩) n n) n (ints (xs.take 0 ++ List.replicate (n - 0) 0)) := by
    have e : (madeCells (Value.int .u8 0).cells (n * 1)).toList = ints (xs.take 0 ++ List.replicate (n - 0) 0) := by
      rw [show (Value.int .u8 0).cells = #[Value.int .u8 0] from rfl, toList_madeCells_one]
      simp [ints]
    rw [← e]
    exact hown
  clear hown hgrow hi hz0 hz1 hz2
  go_loopw [4] (fun i wr => ∃ k : Nat, k ≤ n ∧ i = .int .i64 k ∧ wr.ownsRow w.heap.size 5 1 (.slice (some ⟨w.heap.size, 0, none⟩) n n) n (ints (xs.take k ++ List.replicate (n - k) 0)) ∧ Below w.heap.size w wr) (fun i _ => n - (intOf i).toNat)
  case atStart => exact ⟨0, Nat.zero_le _, rfl, hown0, hbel⟩
  case round =>
    obtain ⟨k, hk, rfl, hown, hbl⟩ := hrel
    clear hown0 hbel
    by_cases hlt : k < n
    · obtain ⟨b, off, rfl, hb, hc⟩ := h4 (by omega)
      have e1 : wr.cell? ⟨b, off + k, none⟩ = some (.int .u8 (xs.getD k 0)) := (hbl.cell (p := ⟨b, off + k, none⟩) hb).trans (hc k hlt)
      have hi : (k : Int) < (n : Int) := by omega
      have hfr : wr.frozen? ⟨w.heap.size, k, none⟩ = false := hown.frozenAt k
      have hcl : ∃ u, wr.cell? ⟨w.heap.size, k, none⟩ = some u := by
        rw [hown.cellAt k (by omega)]
        exact ⟨_, List.getElem?_eq_getElem (by rw [hown.1]; omega)⟩
      obtain ⟨u, hu⟩ := hcl
      have st := hown.stored k (.int .u8 (xs.getD k 0))
      rw [fill_step xs n k h1 hlt] at st
      generalize xs.getD k 0 = x at e1 st
      have ST : Hid _ := st
      have HB : Hid _ := hbl
      clear hc h4 st hown hbl
      go_wp2
      go_roundw
      case rel => exact ⟨k + 1, by omega, by go_num, ST.out.1, HB.out.grown ST.out.2 HB.out.size (by simp)⟩
      case measure => simp [intOf]; omega
    · have e : xs.take k ++ List.replicate (n - k) 0 = xs := by
        rw [show n - k = 0 from by omega, List.take_of_length_le (by omega), List.replicate_zero, List.append_nil]
      have R : Hid (OwnB wr w.heap.size (.slice (some ⟨w.heap.size, 0, none⟩) n n) n xs ∧ Below w.heap.size w wr) := by
        rw [e] at hown
        exact ⟨hown, hbl⟩
      clear h4 hown hbl e
      go_wp2
      go_ret
      exact ⟨_, rfl, R.out⟩

set_option maxHeartbeats 400000 in
theorem copied_any (a : Option Addr) (n c : Nat) (xs : List Int) (w : World) (h : IsB w a n c xs) (hn : n ≤ 1000000) :
    Calls Try.prog 16 #[.slice a n c] w fun e w' => ∃ v, e = .returned v ∧ OwnB w' w.heap.size v n xs ∧ Below w.heap.size w w' := by
  obtain ⟨h1, h2, h3, h4⟩ := h
  obtain ⟨i0, hi, hz0, hz1, hz2⟩ := info_parts Try.info5
  go_enter Try.func16, Try.ntmps16
  go_wp2_with (first | (at_make; refine wpList_make_full _ rfl _ _ 22 rfl w.heap.size 5 i0 (.int .u8 0) 1 Try.underlying22 hi hz0 hz1 _ _ _ _ n rfl rfl rfl rfl (by rw [hz2]; omega) (by unfold maxLen; omega) (Nat.le_refl _) ?_; intro w1 hown hgrow) | go_in)
  have hbel : Below w.heap.size w w1 := (Below.refl _ _).grown hgrow (Nat.le_refl _) (by simp)
  have hown0 : w1.ownsRow w.heap.size 5 1 (.slice (some ⟨w.heap.size, 0, none⟩) n n) n (ints (xs.take 0 ++ List.replicate (n - 0) 0)) := by
    have e : (madeCells (Value.int .u8 0).cells (n * 1)).toList = ints (xs.take 0 ++ List.replicate (n - 0) 0) := by
      rw [show (Value.int .u8 0).cells = #[Value.int .u8 0] from rfl, toList_madeCells_one]
      simp [ints]
    rw [← e]
    exact hown
  clear hown hgrow hi hz0 hz1 hz2
  go_loopw [4] (fun i wr => ∃ k : Nat, k ≤ n ∧ i = .int .i64 k ∧ wr.ownsRow w.heap.size 5 1 (.slice (some ⟨w.heap.size, 0, none⟩) n n) n (ints (xs.take k ++ List.replicate (n - k) 0)) ∧ Below w.heap.size w wr) (fun i _ => n - (intOf i).toNat)
  case atStart => exact ⟨0, Nat.zero_le _, rfl, hown0, hbel⟩
  case round =>
    obtain ⟨k, hk, rfl, hown, hbl⟩ := hrel
    clear hown0 hbel
    by_cases hlt : k < n
    · obtain ⟨b, off, rfl, hb, hc⟩ := h4 (by omega)
      have e1 : wr.cell? ⟨b, off + k, none⟩ = some (.int .u8 (xs.getD k 0)) := (hbl.cell (p := ⟨b, off + k, none⟩) hb).trans (hc k hlt)
      have hi : (k : Int) < (n : Int) := by omega
      have hfr : wr.frozen? ⟨w.heap.size, k, none⟩ = false := hown.frozenAt k
      have hcl : ∃ u, wr.cell? ⟨w.heap.size, k, none⟩ = some u := by
        rw [hown.cellAt k (by omega)]
        exact ⟨_, List.getElem?_eq_getElem (by rw [hown.1]; omega)⟩
      obtain ⟨u, hu⟩ := hcl
      have st := hown.stored k (.int .u8 (xs.getD k 0))
      rw [fill_step xs n k h1 hlt] at st
      generalize xs.getD k 0 = x at e1 st
      have ST : Hid _ := st
      have HB : Hid _ := hbl
      clear hc h4 st hown hbl
      go_wp2
      go_roundw
      case rel => exact ⟨k + 1, by omega, by go_num, ST.out.1, HB.out.grown ST.out.2 HB.out.size (by simp)⟩
      case measure => simp [intOf]; omega
    · have e : xs.take k ++ List.replicate (n - k) 0 = xs := by
        rw [show n - k = 0 from by omega, List.take_of_length_le (by omega), List.replicate_zero, List.append_nil]
      have R : Hid (OwnB wr w.heap.size (.slice (some ⟨w.heap.size, 0, none⟩) n n) n xs ∧ Below w.heap.size w wr) := by
        rw [e] at hown
        exact ⟨hown, hbl⟩
      clear h4 hown hbl e
      go_wp2
      go_ret
      exact ⟨_, rfl, R.out⟩

end Go.Proofs.Ytkidhfednipdcaa
