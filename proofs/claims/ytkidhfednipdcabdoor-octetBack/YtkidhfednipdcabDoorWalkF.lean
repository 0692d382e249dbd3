/-
  put and putRef of the law.
-/
import Derived.Test.YtkidhfednipdcabDoorWalkE
namespace Go.Proofs.YtkidhfednipdcabDoor
open Go.RowKit

def putL (kind num : Int) (xs : List Int) : List Int :=
  if kind = 1 then xs ++ [num % 256] else if kind = 2 then xs ++ [num / 256 % 256] ++ [num % 256] else if kind = 3 then xs ++ [num / 65536 / 256 % 256] ++ [num / 65536 % 256] ++ [num / 256 % 256] ++ [num % 256] else xs

/-- What a call of put comes to. -/
def Gave (w w' : World) (e : Ending) (n : Nat) (zs : List Int) : Prop :=
  ∃ a' n' c', e = .returned (.slice a' n' c') ∧ IsB w' a' n' c' zs ∧ n' ≤ n + 4 ∧ Below w.heap.size w w'

theorem gave_own {w w0 w' : World} {v : Value} {n m : Nat} {zs : List Int} (h0 : Below w.heap.size w w0) (hown : OwnB w' w0.heap.size v m zs) (hbel : Below w0.heap.size w0 w') (hm : m ≤ n + 4) : Gave w w' (.returned v) n zs := by
  obtain ⟨a, c, rfl, hb⟩ := hown.isB
  exact ⟨a, m, c, rfl, hb, hm, h0.trans (hbel.mono h0.size)⟩

set_option maxHeartbeats 1000000 in
theorem lawPut (a : Option Addr) (n c : Nat) (kind num N : Int) (which : Bool) (xs : List Int) (w : World) (h : IsB w a n c xs) (hn : n ≤ 700000) (hu : 0 ≤ num ∧ num < 18446744073709551616) :
    Calls Tryd.prog 17 #[.slice a n c, .agg #[.int .i64 kind, .bool which, .int .i64 N, .int .u64 num]] w fun e w' => Gave w w' e n (putL kind num xs) := by
  have HH : Hid (IsB w a n c xs) := h
  clear h
  by_cases h1 : kind = 1
  · have e : putL kind num xs = xs ++ bytesTo num 1 1 := by simp [putL, h1, bytes1]
    rw [e]
    clear e
    subst h1
    go_enter Tryd.func17, Tryd.ntmps17
    go_wp2_with fail
    refine (prog1 a n c num xs _ (HH.out.below ((Below.refl _ _).alloc (Nat.le_refl _) _)) (by omega) hu).mono ?_
    rintro e w1 ⟨v, rfl, hown, hbel⟩
    have R : Hid _ := gave_own (n := n) ((Below.refl _ _).alloc (Nat.le_refl _) _) hown hbel (by omega)
    clear hown hbel
    go_wp2
    go_ret
    exact R.out
  by_cases h2 : kind = 2
  · have e : putL kind num xs = xs ++ bytesTo num 2 2 := by simp [putL, h2, bytes2]
    rw [e]
    clear e
    subst h2
    go_enter Tryd.func17, Tryd.ntmps17
    go_wp2_with fail
    refine (prog2 a n c num xs _ (HH.out.below ((Below.refl _ _).alloc (Nat.le_refl _) _)) (by omega) hu).mono ?_
    rintro e w1 ⟨v, rfl, hown, hbel⟩
    have R : Hid _ := gave_own (n := n) ((Below.refl _ _).alloc (Nat.le_refl _) _) hown hbel (by omega)
    clear hown hbel
    go_wp2
    go_ret
    exact R.out
  by_cases h3 : kind = 3
  · have e : putL kind num xs = xs ++ bytesTo num 4 4 := by simp [putL, h3, bytes4]
    rw [e]
    clear e
    subst h3
    go_enter Tryd.func17, Tryd.ntmps17
    go_wp2_with fail
    refine (prog4 a n c num xs _ (HH.out.below ((Below.refl _ _).alloc (Nat.le_refl _) _)) (by omega) hu).mono ?_
    rintro e w1 ⟨v, rfl, hown, hbel⟩
    have R : Hid _ := gave_own (n := n) ((Below.refl _ _).alloc (Nat.le_refl _) _) hown hbel (by omega)
    clear hown hbel
    go_wp2
    go_ret
    exact R.out
  have e : putL kind num xs = xs := by simp [putL, h1, h2, h3]
  rw [e]
  clear e
  have b1 : (kind == 1) = false := by simpa using h1
  have b2 : (kind == 2) = false := by simpa using h2
  have b3 : (kind == 3) = false := by simpa using h3
  clear h1 h2 h3
  go_enter Tryd.func17, Tryd.ntmps17
  go_wp2
  go_ret
  exact ⟨_, _, _, rfl, HH.out.below ((Below.refl _ _).alloc (Nat.le_refl _) _), by omega, (Below.refl _ _).alloc (Nat.le_refl _) _⟩

end Go.Proofs.YtkidhfednipdcabDoor
