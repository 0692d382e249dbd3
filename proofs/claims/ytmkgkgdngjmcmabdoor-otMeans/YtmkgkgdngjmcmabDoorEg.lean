/-
  The first text.
-/
import Derived.Test.YtmkgkgdngjmcmabDoorEe
namespace Go.Proofs.YtmkgkgdngjmcmabDoor
open Go.RowKit
set_option linter.unusedVariables false

/-- The first text. -/
def textP (n : Nat) : List El := (List.range n).map fun (i : Nat) => (97 + (i : Int) % 26, 1, (i : Int) + 1)

theorem textP_len (n : Nat) : (textP n).length = n := by simp [textP]

theorem textP_succ (n : Nat) : textP (n + 1) = textP n ++ [(97 + (n : Int) % 26, 1, (n : Int) + 1)] := by
  unfold textP
  rw [List.range_succ, List.map_append]
  rfl

set_option maxRecDepth 100000 in
set_option maxHeartbeats 4000000 in
theorem text_any (n : Nat) (w : World) (hn : n ≤ 4096) :
    Calls Tryd.prog 17 #[.int .i64 n] w fun e w' => ∃ v, e = .returned v ∧ AtE w' v (textP n) ∧ Below w.heap.size w w' := by
  obtain ⟨i0, hi0, hz0, hz1, hz2⟩ := info_parts Tryd.infoE
  go_enter Tryd.func17, Tryd.ntmps17
  go_wp2_with (first | (at_make; refine wpList_make_k _ rfl _ _ 42 rfl 50 i0 _ Tryd.underlying42 hi0 hz0 _ _ _ _ 0 n rfl rfl (by go_num) (by go_num) (by omega) (by rw [hz2]; omega) (by omega) ?_; intro w3 cur hg3 hcur hb3) | fail)
  have S0 : Hid (RowE w3 w.heap.size 0 n (textP 0) ∧ Below w.heap.size w w3) := ⟨row_emptyE hg3.out (by have := hcur.out; rw [hz1] at this; exact this) (by omega), hb3.out⟩
  clear hg3 hcur hb3 hi0 hz0 hz1 hz2
  go_wp2
  go_loopw [3, 4] (fun v i wr => ∃ j : Nat, j ≤ n ∧ i = .int .i64 j ∧ v = .slice (some ⟨w.heap.size, 0, none⟩) j n ∧ Hid (RowE wr w.heap.size j n (textP j) ∧ Below w.heap.size w wr)) (fun _ i _ => n - (intOf i).toNat)
  case atStart => exact ⟨0, Nat.zero_le _, rfl, rfl, S0⟩
  case round =>
    obtain ⟨j, hj, rfl, rfl, hr⟩ := hrel
    clear S0
    obtain ⟨hR, hB⟩ := hr.out
    by_cases hlt : j < n
    · have i3 : (j : Int) < (n : Int) := by omega
      obtain ⟨w5, hap, hR5, hF5⟩ := run_app1E wr w.heap.size j n (textP j) hR (97 + (j : Int) % 26, 1, (j : Int) + 1) (by omega)
      rw [← textP_succ] at hR5
      have Z5 : Hid (RowE w5 w.heap.size (j + 1) n (textP (j + 1)) ∧ Below w.heap.size w w5) := ⟨hR5, hB.trans (hF5.below hB.size (fun k h => by omega))⟩
      simp only [elc] at hap
      have m1 : 0 ≤ 97 + (j : Int) % 26 := by omega
      have m2 : 97 + (j : Int) % 26 ≤ 255 := by omega
      have m3 : (0 : Int) ≤ (j : Int) := by omega
      clear hr hR hB hR5 hF5
      go_wp2_with (at_builtin; refine wpList_append_k _ rfl _ _ 42 42 rfl _ _ rfl rfl (hap _) ?_)
      exact ⟨⟨j + 1, by omega, by go_num, rfl, Z5⟩, by simp [intOf]; omega⟩
    · obtain rfl : j = n := by omega
      have G : Hid (AtE wr (.slice (some ⟨w.heap.size, 0, none⟩) j j) (textP j) ∧ Below w.heap.size w wr) := ⟨⟨w.heap.size, 0, j, by rw [textP_len], by rw [textP_len]; exact hR.isE⟩, hB⟩
      clear hr hR hB
      go_wp2
      go_ret
      exact ⟨_, rfl, G.out⟩

end Go.Proofs.YtmkgkgdngjmcmabDoor
