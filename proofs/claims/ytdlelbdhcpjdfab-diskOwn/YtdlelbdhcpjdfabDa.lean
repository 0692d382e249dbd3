/-
  New, Size, Synced, tail, firm, num.
-/
import Derived.Test.YtdlelbdhcpjdfabDisk
import Derived.Deep.QuietTactic
import Derived.BigQuiet
namespace Go.Proofs.Ytdlelbdhcpjdfab
open Go.RowKit
set_option linter.unusedVariables false

theorem num_any (e : Int) (w : World) : Calls Try.prog 13 #[.int .i64 e] w fun x w' => x = .returned (.int .i64 e) ∧ w = w' := by
  go_enter Try.func13, Try.ntmps13
  go_wp2
  go_ret
  exact ⟨rfl, rfl⟩

set_option maxHeartbeats 400000 in
theorem new_any (w : World) : Calls Try.prog 21 #[] w fun x w' => ∃ r, x = .returned (.pointer (some ⟨r, 0, none⟩)) ∧ w.heap.size ≤ r ∧ DK w' r none [] 0 ∧ Below w.heap.size w w' := by
  have R : Hid (w.heap.size ≤ w.heap.size ∧ DK (w.alloc (.cells #[.slice none 0 0, .int .i64 0, .int .i64 0] 56)) w.heap.size none [] 0 ∧ Below w.heap.size w (w.alloc (.cells #[.slice none 0 0, .int .i64 0, .int .i64 0] 56))) :=
    ⟨Nat.le_refl _, ⟨[], heap_alloc_new _ _, rfl, rfl, Nat.le_refl _, Nat.le_refl _, by simp⟩, (Below.refl _ _).alloc (Nat.le_refl _) _⟩
  go_enter Try.func21, Try.ntmps21
  go_wp2
  go_ret
  exact ⟨_, rfl, R.out⟩

set_option maxHeartbeats 400000 in
theorem size_any (r : Nat) (ρ : Option Nat) (B : List Int) (s : Nat) (w : World) (h : DK w r ρ B s) :
    Calls Try.prog 16 #[.pointer (some ⟨r, 0, none⟩)] w fun x w' => x = .returned (.int .i64 B.length) ∧ w = w' := by
  obtain ⟨R, hh, hR, h1, h2, h3, h4⟩ := h
  have c1 := cell_row hh 1
  simp at c1
  clear hh hR h1
  go_enter Try.func16, Try.ntmps16
  go_wp2
  go_ret
  exact ⟨rfl, rfl⟩

set_option maxHeartbeats 400000 in
theorem synced_any (r : Nat) (ρ : Option Nat) (B : List Int) (s : Nat) (w : World) (h : DK w r ρ B s) :
    Calls Try.prog 11 #[.pointer (some ⟨r, 0, none⟩)] w fun x w' => x = .returned (.int .i64 s) ∧ w = w' := by
  obtain ⟨R, hh, hR, h1, h2, h3, h4⟩ := h
  have c1 := cell_row hh 2
  simp at c1
  clear hh hR h1
  go_enter Try.func11, Try.ntmps11
  go_wp2
  go_ret
  exact ⟨rfl, rfl⟩

set_option maxHeartbeats 800000 in
theorem tail_none (r : Nat) (w : World) (h : w.heap[r]? = some (.cells #[.slice none 0 0, .int .i64 0, .int .i64 0] 56 (0, 0))) :
    Calls Try.prog 37 #[.pointer (some ⟨r, 0, none⟩)] w fun x w' => x = .returned (.slice none 0 0) ∧ ∃ m, w' = w.drewN m := by
  have c0 := cell_row h 0
  have c1 := cell_row h 1
  have c2 := cell_row h 2
  simp at c0 c1 c2
  clear h
  go_enter Try.func37, Try.ntmps37
  go_wp2
  go_quiet (fail)
  go_wp2
  go_ret
  exact ⟨rfl, _, rfl⟩

set_option maxHeartbeats 800000 in
theorem tail_some (r p N L s : Nat) (w : World) (h : w.heap[r]? = some (.cells #[.slice (some ⟨p, 0, none⟩) N N, .int .i64 L, .int .i64 s] 56 (0, 0))) (hs : s < L) (hL : L ≤ N) (hN : N ≤ 262144) :
    Calls Try.prog 37 #[.pointer (some ⟨r, 0, none⟩)] w fun x w' => x = .returned (.slice (some ⟨p, s, none⟩) (L - s) (L - s)) ∧ ∃ m, w' = w.drewN m := by
  have c0 := cell_row h 0
  have c1 := cell_row h 1
  have c2 := cell_row h 2
  simp at c0 c1 c2
  clear h
  have e1 : (s : Int) ≤ (L : Int) := by omega
  have e2 : (L : Int) ≤ (N : Int) := by omega
  have e3 : ¬ L = s := by omega
  go_enter Try.func37, Try.ntmps37
  go_wp2
  go_quiet (fail)
  go_wp2
  go_ret
  exact ⟨rfl, _, rfl⟩

set_option maxHeartbeats 800000 in
theorem tail_full (r p N L : Nat) (w : World) (h : w.heap[r]? = some (.cells #[.slice (some ⟨p, 0, none⟩) N N, .int .i64 L, .int .i64 L] 56 (0, 0))) (hL : L ≤ N) (hN : N ≤ 262144) :
    Calls Try.prog 37 #[.pointer (some ⟨r, 0, none⟩)] w fun x w' => ∃ a, x = .returned (.slice a 0 0) ∧ ∃ m, w' = w.drewN m := by
  have c0 := cell_row h 0
  have c1 := cell_row h 1
  have c2 := cell_row h 2
  simp at c0 c1 c2
  clear h
  have e2 : (L : Int) ≤ (N : Int) := by omega
  go_enter Try.func37, Try.ntmps37
  go_wp2
  go_quiet (fail)
  go_wp2
  go_ret
  exact ⟨_, rfl, _, rfl⟩

theorem tail_any (r : Nat) (ρ : Option Nat) (B : List Int) (s : Nat) (w : World) (h : DK w r ρ B s) :
    Calls Try.prog 37 #[.pointer (some ⟨r, 0, none⟩)] w fun x w' => ∃ a, x = .returned (.slice a (B.length - s) (B.length - s)) ∧ (∃ m, w' = w.drewN m) ∧ IsB w a (B.length - s) (B.length - s) (B.drop s) ∧
      (0 < B.length - s → ∃ p, ρ = some p ∧ a = some ⟨p, s, none⟩) := by
  obtain ⟨R, hh, hR, h1, h2, h3, h4⟩ := h
  cases ρ with
  | none =>
    obtain rfl : R = [] := hR
    have hB : B = [] := by rw [h1]; simp
    subst hB
    obtain rfl : s = 0 := by simpa using h3
    refine (tail_none r w hh).mono ?_
    rintro x w' ⟨rfl, m, rfl⟩
    exact ⟨none, rfl, ⟨m, rfl⟩, ⟨rfl, by simp, by simp, fun h => by simp at h⟩, fun h => by simp at h⟩
  | some p =>
    obtain ⟨hp, hR⟩ := hR
    by_cases hs : s < B.length
    · refine (tail_some r p R.length B.length s w hh hs h2 h4).mono ?_
      rintro x w' ⟨rfl, m, rfl⟩
      refine ⟨_, rfl, ⟨m, rfl⟩, ?_, fun _ => ⟨p, rfl, rfl⟩⟩
      have := isB_of_block hR s (B.length - s) (B.length - s) (by omega) (Nat.le_refl _) (by omega)
      rw [h1]
      rw [show (R.take B.length).drop s = (R.drop s).take (B.length - s) from List.drop_take ..]
      rw [← h1]
      exact this
    · obtain rfl : s = B.length := by omega
      refine (tail_full r p R.length B.length w hh h2 h4).mono ?_
      rintro x w' ⟨a, rfl, m, rfl⟩
      rw [Nat.sub_self]
      exact ⟨a, rfl, ⟨m, rfl⟩, ⟨by simp, by simp, by simp, fun h => by simp at h⟩, fun h => by simp at h⟩

set_option maxHeartbeats 800000 in
theorem firm_none (r : Nat) (w : World) (h : w.heap[r]? = some (.cells #[.slice none 0 0, .int .i64 0, .int .i64 0] 56 (0, 0))) :
    Calls Try.prog 39 #[.pointer (some ⟨r, 0, none⟩)] w fun x w' => x = .returned (.slice none 0 0) ∧ ∃ m, w' = w.drewN m := by
  have c0 := cell_row h 0
  have c2 := cell_row h 2
  simp at c0 c2
  clear h
  go_enter Try.func39, Try.ntmps39
  go_wp2
  go_quiet (fail)
  go_wp2
  go_ret
  exact ⟨rfl, _, rfl⟩

set_option maxHeartbeats 800000 in
theorem firm_some (r p N L s : Nat) (w : World) (h : w.heap[r]? = some (.cells #[.slice (some ⟨p, 0, none⟩) N N, .int .i64 L, .int .i64 s] 56 (0, 0))) (hs : s ≤ L) (hL : L ≤ N) (hN : N ≤ 262144) :
    Calls Try.prog 39 #[.pointer (some ⟨r, 0, none⟩)] w fun x w' => x = .returned (.slice (some ⟨p, 0, none⟩) s s) ∧ ∃ m, w' = w.drewN m := by
  have c0 := cell_row h 0
  have c2 := cell_row h 2
  simp at c0 c2
  clear h
  have e1 : (s : Int) ≤ (N : Int) := by omega
  go_enter Try.func39, Try.ntmps39
  go_wp2
  go_quiet (fail)
  go_wp2
  go_ret
  exact ⟨rfl, _, rfl⟩

theorem firm_any (r : Nat) (ρ : Option Nat) (B : List Int) (s : Nat) (w : World) (h : DK w r ρ B s) :
    Calls Try.prog 39 #[.pointer (some ⟨r, 0, none⟩)] w fun x w' => ∃ a, x = .returned (.slice a s s) ∧ (∃ m, w' = w.drewN m) ∧ IsB w a s s (B.take s) := by
  obtain ⟨R, hh, hR, h1, h2, h3, h4⟩ := h
  cases ρ with
  | none =>
    obtain rfl : R = [] := hR
    have hB : B = [] := by rw [h1]; simp
    subst hB
    obtain rfl : s = 0 := by simpa using h3
    refine (firm_none r w hh).mono ?_
    rintro x w' ⟨rfl, m, rfl⟩
    exact ⟨none, rfl, ⟨m, rfl⟩, ⟨rfl, by simp, by simp, fun h => by simp at h⟩⟩
  | some p =>
    obtain ⟨hp, hR⟩ := hR
    refine (firm_some r p R.length B.length s w hh h3 h2 h4).mono ?_
    rintro x w' ⟨rfl, m, rfl⟩
    refine ⟨_, rfl, ⟨m, rfl⟩, ?_⟩
    have := isB_of_block hR 0 s s (by omega) (Nat.le_refl _) (by omega)
    rw [h1, List.take_take, Nat.min_eq_left h3]
    simpa using this

theorem garbles_any (keep at_ mask : Int) (w : World) :
    Calls Try.prog 38 #[.int .i64 keep, .int .i64 at_, .int .i64 mask] w fun x w' => x = .returned (.bool (decide (0 ≤ mask ∧ mask ≤ 255 ∧ 0 ≤ at_ ∧ at_ < keep))) ∧ w = w' := by
  by_cases a1 : 0 ≤ mask
  · by_cases a2 : mask ≤ 255
    · by_cases a3 : 0 ≤ at_
      · by_cases a4 : at_ < keep
        · have e : (decide (0 ≤ mask ∧ mask ≤ 255 ∧ 0 ≤ at_ ∧ at_ < keep)) = true := by simp [*]
          rw [e]
          clear e
          go_enter Try.func38, Try.ntmps38
          go_wp2
          go_ret
          exact ⟨rfl, rfl⟩
        · have e : (decide (0 ≤ mask ∧ mask ≤ 255 ∧ 0 ≤ at_ ∧ at_ < keep)) = false := by simp; omega
          rw [e]
          clear e
          go_enter Try.func38, Try.ntmps38
          go_wp2
          go_ret
          exact ⟨rfl, rfl⟩
      · have e : (decide (0 ≤ mask ∧ mask ≤ 255 ∧ 0 ≤ at_ ∧ at_ < keep)) = false := by simp; omega
        rw [e]
        clear e
        go_enter Try.func38, Try.ntmps38
        go_wp2
        go_ret
        exact ⟨rfl, rfl⟩
    · have e : (decide (0 ≤ mask ∧ mask ≤ 255 ∧ 0 ≤ at_ ∧ at_ < keep)) = false := by simp; omega
      rw [e]
      clear e
      go_enter Try.func38, Try.ntmps38
      go_wp2
      go_ret
      exact ⟨rfl, rfl⟩
  · have e : (decide (0 ≤ mask ∧ mask ≤ 255 ∧ 0 ≤ at_ ∧ at_ < keep)) = false := by simp; omega
    rw [e]
    clear e
    go_enter Try.func38, Try.ntmps38
    go_wp2
    go_ret
    exact ⟨rfl, rfl⟩

end Go.Proofs.Ytdlelbdhcpjdfab
