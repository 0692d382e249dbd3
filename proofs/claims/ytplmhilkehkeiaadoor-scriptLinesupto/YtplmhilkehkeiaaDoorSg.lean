/-
  The kind of a verb.
-/
import Derived.Test.YtplmhilkehkeiaaDoorSf
namespace Go.Proofs.YtplmhilkehkeiaaDoor
open Go.RowKit
set_option linter.unusedVariables false

set_option maxRecDepth 100000 in
theorem verb_index (i : Nat) (h : i < 14) : ∃ v : ByteArray, verbsL[i]? = some (tl v) ∧ ∀ w, (Instr.index 83 (.agg verbsA) (.int .i64 i)).run Tryd.prog w = .ok (.string v) w := by
  match i, h with
  | 0, _ => exact ⟨⟨#[]⟩, rfl, fun w => by kernel_rfl⟩
  | 1, _ => exact ⟨⟨#[105, 110, 115, 101, 114, 116]⟩, rfl, fun w => by kernel_rfl⟩
  | 2, _ => exact ⟨⟨#[100, 101, 108, 101, 116, 101]⟩, rfl, fun w => by kernel_rfl⟩
  | 3, _ => exact ⟨⟨#[116, 105, 99, 107]⟩, rfl, fun w => by kernel_rfl⟩
  | 4, _ => exact ⟨⟨#[100, 101, 108, 105, 118, 101, 114]⟩, rfl, fun w => by kernel_rfl⟩
  | 5, _ => exact ⟨⟨#[100, 114, 111, 112]⟩, rfl, fun w => by kernel_rfl⟩
  | 6, _ => exact ⟨⟨#[100, 111, 117, 98, 108, 101]⟩, rfl, fun w => by kernel_rfl⟩
  | 7, _ => exact ⟨⟨#[102, 108, 105, 112]⟩, rfl, fun w => by kernel_rfl⟩
  | 8, _ => exact ⟨⟨#[97, 108, 108]⟩, rfl, fun w => by kernel_rfl⟩
  | 9, _ => exact ⟨⟨#[114, 111, 117, 110, 100]⟩, rfl, fun w => by kernel_rfl⟩
  | 10, _ => exact ⟨⟨#[99, 114, 97, 115, 104]⟩, rfl, fun w => by kernel_rfl⟩
  | 11, _ => exact ⟨⟨#[98, 111, 111, 116]⟩, rfl, fun w => by kernel_rfl⟩
  | 12, _ => exact ⟨⟨#[115, 116, 117, 109, 98, 108, 101]⟩, rfl, fun w => by kernel_rfl⟩
  | 13, _ => exact ⟨⟨#[102, 111, 114, 103, 101]⟩, rfl, fun w => by kernel_rfl⟩
  | n + 14, h => omega

set_option maxRecDepth 100000 in
set_option maxHeartbeats 4000000 in
theorem kindOf_any (s : ByteArray) (w : World) (hV : Verbs w) : Calls Tryd.prog 21 #[.string s] w fun e w' => e = .returned (.int .i64 (kindP (tl s))) ∧ w' = w := by
  generalize hK : kindP (tl s) = V
  have HK := hd hK
  clear hK
  obtain ⟨t, fr, hh⟩ := hV
  have c0 : w.cell? ⟨0, 0, none⟩ = some (verbsA.getD 0 undef) := by simp [World.cell?, hh, verbsA]
  have c1 : w.cell? ⟨0, 1, none⟩ = some (verbsA.getD 1 undef) := by simp [World.cell?, hh, verbsA]
  have c2 : w.cell? ⟨0, 2, none⟩ = some (verbsA.getD 2 undef) := by simp [World.cell?, hh, verbsA]
  have c3 : w.cell? ⟨0, 3, none⟩ = some (verbsA.getD 3 undef) := by simp [World.cell?, hh, verbsA]
  have c4 : w.cell? ⟨0, 4, none⟩ = some (verbsA.getD 4 undef) := by simp [World.cell?, hh, verbsA]
  have c5 : w.cell? ⟨0, 5, none⟩ = some (verbsA.getD 5 undef) := by simp [World.cell?, hh, verbsA]
  have c6 : w.cell? ⟨0, 6, none⟩ = some (verbsA.getD 6 undef) := by simp [World.cell?, hh, verbsA]
  have c7 : w.cell? ⟨0, 7, none⟩ = some (verbsA.getD 7 undef) := by simp [World.cell?, hh, verbsA]
  have c8 : w.cell? ⟨0, 8, none⟩ = some (verbsA.getD 8 undef) := by simp [World.cell?, hh, verbsA]
  have c9 : w.cell? ⟨0, 9, none⟩ = some (verbsA.getD 9 undef) := by simp [World.cell?, hh, verbsA]
  have c10 : w.cell? ⟨0, 10, none⟩ = some (verbsA.getD 10 undef) := by simp [World.cell?, hh, verbsA]
  have c11 : w.cell? ⟨0, 11, none⟩ = some (verbsA.getD 11 undef) := by simp [World.cell?, hh, verbsA]
  have c12 : w.cell? ⟨0, 12, none⟩ = some (verbsA.getD 12 undef) := by simp [World.cell?, hh, verbsA]
  have c13 : w.cell? ⟨0, 13, none⟩ = some (verbsA.getD 13 undef) := by simp [World.cell?, hh, verbsA]
  simp only [verbsA, Array.getD, List.size_toArray, List.length_cons, List.length_nil] at c0 c1 c2 c3 c4 c5 c6 c7 c8 c9 c10 c11 c12 c13
  simp at c0 c1 c2 c3 c4 c5 c6 c7 c8 c9 c10 c11 c12 c13
  clear hh
  go_enter Tryd.func21, Tryd.ntmps21
  go_wp2
  clear c0 c1 c2 c3 c4 c5 c6 c7 c8 c9 c10 c11 c12 c13
  go_loopw [6] (fun b wr => ∃ i : Nat, i ≤ 14 ∧ b = .int .i64 i ∧ wr = w ∧ Hid (∀ j : Nat, j < i → verbsL[j]? ≠ some (tl s))) (fun b _ => 14 - (intOf b).toNat)
  case atStart => exact ⟨0, Nat.zero_le _, rfl, rfl, fun j hj => by omega⟩
  case round =>
    obtain ⟨i, hi, rfl, rfl, HD⟩ := hrel
    by_cases hlt : i < 14
    · have i1 : (i : Int) < 14 := by omega
      obtain ⟨v, hv, hix⟩ := verb_index i hlt
      unfold verbsA at hix
      have HVI := hd hv
      clear hv
      by_cases hq : tl v = tl s
      · have hs : v = s := by
          apply ByteArray.ext
          apply Array.toList_inj.1
          exact hq
        subst hs
        go_wp2
        go_ret
        refine ⟨?_, rfl⟩
        rw [← HK.out, kind_at i _ HVI.out HD.out]
        rfl
      · have e1 : (v.toList == s.toList) = false := by rw [toL, toL]; simpa using hq
        have HQ := hd hq
        clear hq
        go_wp2
        refine ⟨⟨i + 1, by omega, rfl, trivial, ?_⟩, by simp [intOf]; omega⟩
        intro j hj
        rcases Nat.lt_or_ge j i with h | h
        · exact HD.out j h
        · obtain rfl : j = i := by omega
          rw [HVI.out]
          simpa using HQ.out
    · have i1 : ¬ (i : Int) < 14 := by omega
      go_wp2
      go_ret
      refine ⟨?_, rfl⟩
      obtain rfl : i = 14 := by omega
      rw [← HK.out, kind_none _ HD.out]
      rfl

end Go.Proofs.YtplmhilkehkeiaaDoor
