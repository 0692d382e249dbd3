/-
  put.
-/
import Derived.Test.YtibnlfdnnlbeeaaDoorWalkC
namespace Go.Proofs.YtibnlfdnnlbeeaaDoor
open Go.RowKit

def byteAt (num : Int) (s : Nat) : Int := num / 2 ^ s % 256
def bytesTo (num : Int) (width k : Nat) : List Int := (List.range k).map fun i => byteAt num (8 * (width - 1 - i))

theorem bytesTo_succ (num : Int) (width k : Nat) : bytesTo num width (k + 1) = bytesTo num width k ++ [byteAt num (8 * (width - 1 - k))] := by
  simp [bytesTo, List.range_succ]

set_option maxHeartbeats 400000 in
theorem put_any (a : Option Addr) (n c width : Nat) (num : Int) (xs : List Int) (w : World) (h : IsB w a n c xs) (hn : n ≤ 900000) (hm : width ≤ 8) (_hu : 0 ≤ num ∧ num < 18446744073709551616) :
    Calls Tryd.prog 63 #[.slice a n c, .int .u64 num, .int .i64 width] w fun e w' => ∃ v, e = .returned v ∧ OwnB w' w.heap.size v (n + width) (xs ++ bytesTo num width width) ∧ Below w.heap.size w w' := by
  obtain ⟨i0, hi, hz0, hz1, hz2⟩ := info_parts Tryd.info5
  have HH : Hid (IsB w a n c xs) := h
  clear h
  go_enter Tryd.func63, Tryd.ntmps63
  go_wp2_with (go_at_call 66; refine (grow_any a n c width xs _ HH.out (by omega) (by omega)).mono ?_; rintro e w1 ⟨v, rfl, hown, hbel⟩)
  go_loopw [7, 13] (fun v i wr => ∃ k : Nat, k ≤ width ∧ i = .int .i64 k ∧ OwnB wr w.heap.size v (n + k) (xs ++ bytesTo num width k) ∧ Below w.heap.size w wr) (fun _ i _ => width - (intOf i).toNat)
  case atStart => exact ⟨0, Nat.zero_le _, rfl, by simpa [bytesTo] using hown, hbel⟩
  case round =>
    obtain ⟨k, hk, rfl, hown2, hbl⟩ := hrel
    clear hown hbel
    have O : Hid _ := hown2
    have HB : Hid _ := hbl
    have hsz := hbl.size
    clear hown2 hbl
    by_cases hlt : k < width
    · go_wp2_with (at_builtin; refine wpList_append_own _ rfl (.tmp 16) (.tmp 25) 22 rfl w.heap.size 5 i0 (.int .u8 0) 1 1 Tryd.underlying22 hi hz0 hz1 hz2 rfl (by decide) u7 (n + k) (ints (xs ++ bytesTo num width k)) rfl (O.out.alloc _) ⟨wr.heap.size, 0, none⟩ 1 1 [.int .u8 (num / 2 ^ (8 * (width - 1 - k)) % 256)] rfl rfl (cell_one_new _ _ _) (one_of _) (by unfold maxLen; omega) (by omega) (by simp; omega) ?_; intro v' w' hown' hgrow _)
      have R : Hid (OwnB w' w.heap.size v' (n + (k + 1)) (xs ++ bytesTo num width (k + 1)) ∧ Below w.heap.size w w') := by
        rw [bytesTo_succ, ← List.append_assoc]
        exact app_step O.out HB.out (Nat.le_refl _) hown' hgrow
      clear hown' hgrow
      go_wp2
      go_roundw
      case rel => exact ⟨k + 1, by omega, by go_num, R.out.1, R.out.2⟩
      case measure => simp [intOf]; omega
    · have R : Hid (OwnB wr w.heap.size u7 (n + width) (xs ++ bytesTo num width width) ∧ Below w.heap.size w wr) := by
        obtain rfl : k = width := by omega
        exact ⟨O.out, HB.out⟩
      clear O HB
      go_wp2
      go_ret
      exact ⟨_, rfl, R.out⟩

end Go.Proofs.YtibnlfdnnlbeeaaDoor
