/-
  copied, same, filled, begins.
-/
import Derived.Test.YtdlelbdhcpjdfabDc
namespace Go.Proofs.Ytdlelbdhcpjdfab
open Go.RowKit
set_option linter.unusedVariables false

/-- What holds at the head of a round of a loop that fills block g: k bytes are laid. -/
def Fill (w wr : World) (g n : Nat) (xs : List Int) (k : Nat) : Prop :=
  wr.heap[g]? = some (.cells (ints (xs.take k ++ List.replicate (n - k) 0)).toArray 5 (0, 0)) ∧ Below w.heap.size w wr ∧ w.heap.size ≤ g

theorem Fill.step {w wr : World} {g n k : Nat} {xs : List Int} (h : Fill w wr g n xs k) (hl : xs.length = n) (hk : k < n) : Fill w (wr.setCell ⟨g, k, none⟩ (.int .u8 (xs.getD k 0))) g n xs (k + 1) := by
  obtain ⟨h1, h2, h3⟩ := h
  refine ⟨?_, h2.setCell (p := ⟨g, k, none⟩) h3 _, h3⟩
  rw [set_row h1 k _, ← fill_step xs n k hl hk]
  simp

theorem Fill.cell {w wr : World} {g n k : Nat} {xs : List Int} (h : Fill w wr g n xs k) (hl : xs.length = n) (hk : k < n) : wr.cell? ⟨g, k, none⟩ = some (.int .u8 0) := by
  rw [cell_row h.1]
  simp only [List.getElem?_toArray]
  rw [ints_get _ _ (by simp; omega)]
  congr 2
  have e : (xs.take k).length = k := by simp; omega
  simp [List.getD, List.getElem?_append, e]
  rw [List.getElem?_replicate]
  split <;> rfl

theorem Fill.newB {w wr : World} {g n : Nat} {xs : List Int} (h : Fill w wr g n xs n) (hl : xs.length = n) : NewB wr w.heap.size (.slice (some ⟨g, 0, none⟩) n n) n xs := by
  obtain ⟨h1, h2, h3⟩ := h
  refine ⟨g, rfl, h3, ?_, hl⟩
  rw [h1, Nat.sub_self, ← hl]
  simp

set_option maxHeartbeats 2000000 in
theorem copied_any (a : Option Addr) (n c : Nat) (xs : List Int) (w : World) (h : IsB w a n c xs) (hn : n ≤ 140737488355328) :
    Calls Try.prog 12 #[.slice a n c] w fun e w' => ∃ v, e = .returned v ∧ NewB w' w.heap.size v n xs ∧ Below w.heap.size w w' := by
  obtain ⟨i0, hi, hz0, hz1, hz2⟩ := info_parts Try.info5
  obtain ⟨h1, h2, h3, h4⟩ := h
  have H4 := hd h4
  clear h4
  go_enter Try.func12, Try.ntmps12
  go_wp2_with (first | (at_make; refine wpList_make_b _ rfl _ _ 22 rfl 5 i0 Try.underlying22 hi hz0 hz1 hz2 _ _ _ _ n rfl rfl rfl rfl (by omega) ?_; intro w1 G1 B1 hsz) | fail)
  have S0 : Hid (Fill w w1 w.heap.size n xs 0) := ⟨by simpa using G1.out, B1.out, Nat.le_refl _⟩
  clear G1
  go_wp2
  go_loopw [4] (fun i wr => ∃ k : Nat, k ≤ n ∧ i = .int .i64 k ∧ Hid (Fill w wr w.heap.size n xs k)) (fun i _ => n - (intOf i).toNat)
  case atStart => exact ⟨0, Nat.zero_le _, rfl, S0⟩
  case round =>
    obtain ⟨k, hk, rfl, hr⟩ := hrel
    by_cases hlt : k < n
    · obtain ⟨b, off, rfl, hb, hc⟩ := H4.out (by omega)
      have e1 := (hr.out.2.1.cell (p := ⟨b, off + k, none⟩) hb).trans (hc k hlt)
      have e2 := hr.out.cell h1 hlt
      have e3 := frozen_row hr.out.1 k
      have i1 : (k : Int) < (n : Int) := by omega
      have S1 := hd (hr.out.step h1 hlt)
      clear hc hr S0 B1
      generalize xs.getD k 0 = y at *
      go_wp2
      exact ⟨⟨k + 1, by omega, by go_num, S1⟩, by simp [intOf]; omega⟩
    · obtain rfl : k = n := by omega
      clear S0 B1
      go_wp2
      go_ret
      exact ⟨_, rfl, hr.out.newB h1, hr.out.2.1⟩

set_option maxHeartbeats 400000 in
theorem same_true (a a' : Option Addr) (n c c' : Nat) (xs : List Int) (w : World) (h : IsB w a n c xs) (h' : IsB w a' n c' xs) :
    Calls Try.prog 9 #[.slice a n c, .slice a' n c'] w fun e w' => e = .returned (.bool true) ∧ ∃ m, w' = w.drewN m := by
  obtain ⟨h1, h2, h3, h4⟩ := h
  obtain ⟨-, h2', h3', h4'⟩ := h'
  go_enter Try.func9, Try.ntmps9
  go_wp2
  go_loopw [5] (fun i wr => ∃ k m : Nat, k ≤ n ∧ i = .int .i64 k ∧ wr = w.drewN m) (fun i _ => n - (intOf i).toNat)
  case atStart => exact ⟨0, 0, Nat.zero_le _, rfl, rfl⟩
  case round =>
    obtain ⟨k, m, hk, rfl, rfl⟩ := hrel
    by_cases hlt : k < n
    · obtain ⟨b, off, rfl, hb, hc⟩ := h4 (by omega)
      obtain ⟨b', off', rfl, hb', hc'⟩ := h4' (by omega)
      have e1 := hc k hlt
      have e2 := hc' k hlt
      have hi : (k : Int) < (n : Int) := by omega
      clear hc hc' h4 h4'
      go_wp2
      go_quiet (fail)
      go_wp2
      exact ⟨⟨k + 1, m + nq, by omega, by go_num, rfl⟩, by simp [intOf]; omega⟩
    · clear h4 h4'
      go_wp2
      go_ret
      exact ⟨rfl, m, rfl⟩

/-- How many bytes filled makes of n. -/
def fillN (n : Int) : Nat := if n < 0 then 0 else if 262145 < n then 262145 else n.toNat

theorem fillN_le (n : Int) : fillN n ≤ 262145 := by
  unfold fillN
  split
  · omega
  · split <;> omega

theorem rep_len (n : Nat) (y : Int) : (List.replicate n y).length = n := by simp
theorem rep_get (n k : Nat) (y : Int) (h : k < n) : (List.replicate n y).getD k 0 = y := by simp [List.getD, h]

set_option maxRecDepth 100000 in
set_option maxHeartbeats 2000000 in
theorem filled_nat (n : Nat) (y : Int) (w : World) (hn : n ≤ 262145) :
    Calls Try.prog 23 #[.int .i64 n, .int .u8 y] w fun e w' => ∃ v, e = .returned v ∧ NewB w' w.heap.size v n (List.replicate n y) ∧ Below w.heap.size w w' := by
  obtain ⟨i0, hi, hz0, hz1, hz2⟩ := info_parts Try.info5
  have j1 : ¬ (262145 : Int) < (n : Int) := by omega
  obtain ⟨xs, hxs⟩ : ∃ xs, xs = List.replicate n y := ⟨_, rfl⟩
  rw [← hxs]
  have hl : Hid (xs.length = n) := by rw [hxs]; exact rep_len n y
  have hgk : Hid (∀ k, k < n → xs.getD k 0 = y) := by rw [hxs]; exact fun k => rep_get n k y
  clear hxs
  go_enter Try.func23, Try.ntmps23
  go_wp2_with (first | (at_make; refine wpList_make_b _ rfl _ _ 22 rfl 5 i0 Try.underlying22 hi hz0 hz1 hz2 _ _ _ _ n rfl rfl rfl rfl (by omega) ?_; intro w1 G1 B1 hsz) | fail)
  have S0 : Hid (Fill w w1 w.heap.size n xs 0) := ⟨by simpa using G1.out, B1.out, Nat.le_refl _⟩
  clear G1
  go_wp2
  go_loopw [6] (fun i wr => ∃ k : Nat, k ≤ n ∧ i = .int .i64 k ∧ Hid (Fill w wr w.heap.size n xs k)) (fun i _ => n - (intOf i).toNat)
  case atStart => exact ⟨0, Nat.zero_le _, rfl, S0⟩
  case round =>
    obtain ⟨k, hk, rfl, hr⟩ := hrel
    by_cases hlt : k < n
    · have e2 := hr.out.cell hl.out hlt
      have e3 := frozen_row hr.out.1 k
      have i1 : (k : Int) < (n : Int) := by omega
      have i2 : (k : Int) < (n : Int) := by omega
      have S1 := hd (hr.out.step hl.out hlt)
      rw [hgk.out k hlt] at S1
      clear hr S0 B1
      go_wp2
      exact ⟨⟨k + 1, by omega, by go_num, S1⟩, by simp [intOf]; omega⟩
    · obtain rfl : k = n := by omega
      clear S0 B1
      go_wp2
      go_ret
      exact ⟨_, rfl, hr.out.newB hl.out, hr.out.2.1⟩

set_option maxRecDepth 100000 in
set_option maxHeartbeats 2000000 in
theorem filled_big (m : Int) (n : Nat) (y : Int) (w : World) (hm : 262145 < m) (hn : (262145 : Int) = (n : Int)) :
    Calls Try.prog 23 #[.int .i64 m, .int .u8 y] w fun e w' => ∃ v, e = .returned v ∧ NewB w' w.heap.size v n (List.replicate n y) ∧ Below w.heap.size w w' := by
  obtain ⟨i0, hi, hz0, hz1, hz2⟩ := info_parts Try.info5
  have j1 : ¬ m < 0 := by omega
  have hN := hd hn
  have hnl : Hid (n = 262145) := by
    show _ = _
    omega
  clear hn
  obtain ⟨xs, hxs⟩ : ∃ xs, xs = List.replicate n y := ⟨_, rfl⟩
  rw [← hxs]
  have hl : Hid (xs.length = n) := by rw [hxs]; exact rep_len n y
  have hgk : Hid (∀ k, k < n → xs.getD k 0 = y) := by rw [hxs]; exact fun k => rep_get n k y
  clear hxs
  go_enter Try.func23, Try.ntmps23
  go_wp2_with (first | (at_make; refine wpList_make_b _ rfl _ _ 22 rfl 5 i0 Try.underlying22 hi hz0 hz1 hz2 _ _ _ _ n rfl rfl hN.out hN.out (by have := hnl.out; omega) ?_; intro w1 G1 B1 hsz) | fail)
  have S0 : Hid (Fill w w1 w.heap.size n xs 0) := ⟨by simpa using G1.out, B1.out, Nat.le_refl _⟩
  clear G1
  go_wp2
  go_loopw [6] (fun i wr => ∃ k : Nat, k ≤ n ∧ i = .int .i64 k ∧ Hid (Fill w wr w.heap.size n xs k)) (fun i _ => n - (intOf i).toNat)
  case atStart => exact ⟨0, Nat.zero_le _, rfl, S0⟩
  case round =>
    obtain ⟨k, hk, rfl, hr⟩ := hrel
    by_cases hlt : k < n
    · have e2 := hr.out.cell hl.out hlt
      have e3 := frozen_row hr.out.1 k
      have i1 : (k : Int) < (n : Int) := by omega
      have hnn := hnl.out
      have i2 : (k : Int) < (262145 : Int) := by omega
      have S1 := hd (hr.out.step hl.out hlt)
      rw [hgk.out k hlt] at S1
      clear hr S0 B1 hnn
      go_wp2
      have hnn := hnl.out
      exact ⟨⟨k + 1, by omega, by go_num, S1⟩, by simp [intOf]; omega⟩
    · obtain rfl : k = n := by omega
      have hnn := hnl.out
      have i2 : ¬ (k : Int) < (262145 : Int) := by omega
      clear S0 B1 hnn
      go_wp2
      go_ret
      exact ⟨_, rfl, hr.out.newB hl.out, hr.out.2.1⟩

set_option maxRecDepth 100000 in
set_option maxHeartbeats 2000000 in
theorem filled_neg (m : Int) (n : Nat) (y : Int) (w : World) (hm : m < 0) (hn : (0 : Int) = (n : Int)) :
    Calls Try.prog 23 #[.int .i64 m, .int .u8 y] w fun e w' => ∃ v, e = .returned v ∧ NewB w' w.heap.size v n (List.replicate n y) ∧ Below w.heap.size w w' := by
  obtain ⟨i0, hi, hz0, hz1, hz2⟩ := info_parts Try.info5
  have hN := hd hn
  have hnl : Hid (n = 0) := by
    show _ = _
    omega
  clear hn
  obtain ⟨xs, hxs⟩ : ∃ xs, xs = List.replicate n y := ⟨_, rfl⟩
  rw [← hxs]
  have hl : Hid (xs.length = n) := by rw [hxs]; exact rep_len n y
  have hgk : Hid (∀ k, k < n → xs.getD k 0 = y) := by rw [hxs]; exact fun k => rep_get n k y
  clear hxs
  go_enter Try.func23, Try.ntmps23
  go_wp2_with (first | (at_make; refine wpList_make_b _ rfl _ _ 22 rfl 5 i0 Try.underlying22 hi hz0 hz1 hz2 _ _ _ _ n rfl rfl hN.out hN.out (by have := hnl.out; omega) ?_; intro w1 G1 B1 hsz) | fail)
  have S0 : Hid (Fill w w1 w.heap.size n xs 0) := ⟨by simpa using G1.out, B1.out, Nat.le_refl _⟩
  clear G1
  go_wp2
  go_loopw [6] (fun i wr => ∃ k : Nat, k ≤ n ∧ i = .int .i64 k ∧ Hid (Fill w wr w.heap.size n xs k)) (fun i _ => n - (intOf i).toNat)
  case atStart => exact ⟨0, Nat.zero_le _, rfl, S0⟩
  case round =>
    obtain ⟨k, hk, rfl, hr⟩ := hrel
    by_cases hlt : k < n
    · exact absurd hlt (by have := hnl.out; omega)
    · obtain rfl : k = n := by omega
      have hnn := hnl.out
      have i2 : ¬ (k : Int) < (0 : Int) := by omega
      clear S0 B1 hnn
      go_wp2
      go_ret
      exact ⟨_, rfl, hr.out.newB hl.out, hr.out.2.1⟩

theorem filled_any (m y : Int) (w : World) :
    Calls Try.prog 23 #[.int .i64 m, .int .u8 y] w fun e w' => ∃ v, e = .returned v ∧ NewB w' w.heap.size v (fillN m) (List.replicate (fillN m) y) ∧ Below w.heap.size w w' := by
  unfold fillN
  by_cases h0 : m < 0
  · rw [if_pos h0]
    exact filled_neg m 0 y w h0 rfl
  · rw [if_neg h0]
    by_cases h1 : 262145 < m
    · rw [if_pos h1]
      exact filled_big m 262145 y w h1 rfl
    · rw [if_neg h1]
      obtain ⟨q, rfl⟩ := Int.eq_ofNat_of_zero_le (show 0 ≤ m by omega)
      exact filled_nat q y w (by omega)

end Go.Proofs.Ytdlelbdhcpjdfab
