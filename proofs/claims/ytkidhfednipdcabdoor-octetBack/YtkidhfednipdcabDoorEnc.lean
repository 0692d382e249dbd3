/-
  What the operations put, and width, back.
-/
import Derived.Test.YtkidhfednipdcabDoorWalkF
import Derived.Test.YtkidhfednipdcabDoorWalkU
import Derived.Deep.RegionWith
namespace Go.Proofs.YtkidhfednipdcabDoor
open Go.RowKit

/-- The bytes that one operation puts. -/
def encL (kind num : Int) : List Int :=
  if kind = 1 then [num % 256] else if kind = 2 then [num / 256 % 256, num % 256] else if kind = 3 then [num / 65536 / 256 % 256, num / 65536 % 256, num / 256 % 256, num % 256] else []

theorem putL_enc (kind num : Int) (xs : List Int) : putL kind num xs = xs ++ encL kind num := by
  unfold putL encL
  split
  · rfl
  · split
    · simp
    · split <;> simp

theorem encL_rng (kind num : Int) : Rng (encL kind num) := by
  unfold encL
  intro x hx
  split at hx
  · simp at hx; omega
  · split at hx
    · simp at hx; omega
    · split at hx
      · simp at hx; omega
      · simp at hx

theorem encL_len (kind num : Int) : (encL kind num).length ≤ 4 := by
  unfold encL
  split
  · simp
  · split
    · simp
    · split <;> simp

/-- What the first j operations put. -/
def pre (K U : Nat → Int) (j : Nat) : List Int := (List.range j).flatMap fun i => encL (K i) (U i)
theorem pre_zero (K U : Nat → Int) : pre K U 0 = [] := rfl
theorem pre_succ (K U : Nat → Int) (j : Nat) : pre K U (j + 1) = pre K U j ++ encL (K j) (U j) := by simp [pre, List.range_succ]
theorem pre_rng (K U : Nat → Int) (j : Nat) : Rng (pre K U j) := by
  intro x hx
  simp only [pre, List.mem_flatMap] at hx
  obtain ⟨i, _, hi⟩ := hx
  exact encL_rng _ _ x hi
theorem pre_len (K U : Nat → Int) (j : Nat) : (pre K U j).length ≤ 4 * j := by
  induction j with
  | zero => simp [pre_zero]
  | succ j ih =>
    have := encL_len (K j) (U j)
    rw [pre_succ, List.length_append]
    omega
theorem pre_more (K U : Nat → Int) (j k : Nat) (h : j ≤ k) : ∃ t, pre K U k = pre K U j ++ t := by
  induction k with
  | zero => obtain rfl : j = 0 := by omega
            exact ⟨[], by simp⟩
  | succ k ih =>
    by_cases hj : j = k + 1
    · subst hj
      exact ⟨[], by simp⟩
    · obtain ⟨t, ht⟩ := ih (by omega)
      exact ⟨t ++ encL (K k) (U k), by rw [pre_succ, ht, List.append_assoc]⟩
/-- What stands where the operation j wrote. -/
theorem pre_mid (K U : Nat → Int) (j k : Nat) (h : j < k) (zs : List Int) :
    (pre K U j).length + (encL (K j) (U j)).length ≤ (pre K U k ++ zs).length ∧ ((pre K U k ++ zs).drop (pre K U j).length).take (encL (K j) (U j)).length = encL (K j) (U j) := by
  obtain ⟨t, ht⟩ := pre_more K U (j + 1) k h
  rw [ht, pre_succ]
  refine ⟨by simp, ?_⟩
  rw [List.append_assoc, List.append_assoc, List.drop_left, List.take_left]

set_option maxHeartbeats 400000 in
theorem width_any (kind N num : Int) (which : Bool) (w : World) :
    Calls Tryd.prog 18 #[.agg #[.int .i64 kind, .bool which, .int .i64 N, .int .u64 num]] w fun e w' => e = .returned (.int .i64 (encL kind num).length) ∧ Below w.heap.size w w' := by
  have hbel : Hid (Below w.heap.size w (w.alloc (.cells #[.int .i64 kind, .bool which, .int .i64 N, .int .u64 num] 38))) := (Below.refl _ _).alloc (Nat.le_refl _) _
  by_cases h1 : kind = 1
  · have e : (encL kind num).length = 1 := by simp [encL, h1]
    rw [e]
    subst h1
    clear e
    go_enter Tryd.func18, Tryd.ntmps18
    go_wp2
    go_ret
    exact ⟨rfl, hbel.out⟩
  by_cases h2 : kind = 2
  · have e : (encL kind num).length = 2 := by simp [encL, h2]
    rw [e]
    subst h2
    clear e
    go_enter Tryd.func18, Tryd.ntmps18
    go_wp2
    go_ret
    exact ⟨rfl, hbel.out⟩
  by_cases h3 : kind = 3
  · have e : (encL kind num).length = 4 := by simp [encL, h3]
    rw [e]
    subst h3
    clear e
    go_enter Tryd.func18, Tryd.ntmps18
    go_wp2
    go_ret
    exact ⟨rfl, hbel.out⟩
  have e : (encL kind num).length = 0 := by simp [encL, h1, h2, h3]
  rw [e]
  have b1 : (kind == 1) = false := by simpa using h1
  have b2 : (kind == 2) = false := by simpa using h2
  have b3 : (kind == 3) = false := by simpa using h3
  clear e h1 h2 h3
  go_enter Tryd.func18, Tryd.ntmps18
  go_wp2
  go_ret
  exact ⟨rfl, hbel.out⟩

end Go.Proofs.YtkidhfednipdcabDoor
