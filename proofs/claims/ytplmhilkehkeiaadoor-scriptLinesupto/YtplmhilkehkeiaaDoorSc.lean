/-
  Bytes in signs: how many, and which.
-/
import Derived.Test.YtplmhilkehkeiaaDoorSb
namespace Go.Proofs.YtplmhilkehkeiaaDoor
open Go.RowKit
set_option linter.unusedVariables false

def hexE (s : Bs) : Int × Int := match hexP s with | some t => (t.length, 0) | none => (0, 156)

theorem toL (s : ByteArray) : s.toList = tl s := Lib.toList_data s

theorem hexE_bad {s : Bs} (h1 : s ≠ [45]) (h2 : s.length % 2 = 1 ∨ ∃ b ∈ s, hexI b < 0) : hexE s = (0, 156) := by
  have hn : hexP s = none := by
    unfold hexP
    rw [if_neg h1]
    by_cases hs : s = []
    · rw [if_pos hs]
    · rw [if_neg hs]
      by_cases ho : s.length % 2 = 1
      · exact pairs_odd s ho
      · rcases h2 with h2 | ⟨b, hb, h2⟩
        · exact absurd h2 ho
        · cases hp : pairs s with
          | none => rfl
          | some t =>
            have := (pairs_some s (by omega)).1 ⟨t, hp⟩ b hb
            omega
  unfold hexE
  rw [hn]
theorem hexE_good {s : Bs} (h1 : s ≠ [45]) (h0 : s ≠ []) (h2 : s.length % 2 = 0) (h3 : ∀ b ∈ s, 0 ≤ hexI b) : hexE s = ((s.length : Int) / 2, 0) := by
  obtain ⟨t, ht⟩ := (pairs_some s h2).2 h3
  have := pairs_len ht
  unfold hexE hexP
  rw [if_neg h1, if_neg h0, ht]
  simp only [Prod.mk.injEq, and_true]
  omega

set_option maxRecDepth 100000 in
set_option maxHeartbeats 4000000 in
theorem hexSize_any (s : ByteArray) (w : World) (hz : s.size ≤ 2000000) :
    Calls Tryd.prog 61 #[.string s] w fun e w' => e = .returned (.tuple #[.int .i64 (hexE (tl s)).1, .int .i64 (hexE (tl s)).2]) ∧ w' = w := by
  have hl := tl_size s
  by_cases h45 : tl s = [45]
  · have hv : hexE (tl s) = (0, 0) := by unfold hexE hexP; rw [if_pos h45]; rfl
    rw [hv]
    have i1 : (s.toList == [45]) = true := by rw [toL, h45]; rfl
    clear hv hl h45
    go_enter Tryd.func61, Tryd.ntmps61
    go_wp2
    go_ret2
    exact ⟨rfl, rfl⟩
  · have i1 : (s.toList == [45]) = false := by rw [toL]; simpa using h45
    by_cases h0 : tl s = []
    · have hv : hexE (tl s) = (0, 156) := by
        unfold hexE hexP; rw [if_neg h45, if_pos h0]
      rw [hv]
      have i2 : s.toList.isEmpty = true := by rw [toL, h0]; rfl
      clear hv hl h45 h0
      go_enter Tryd.func61, Tryd.ntmps61
      go_wp2
      go_ret2
      exact ⟨rfl, rfl⟩
    have i2 : s.toList.isEmpty = false := by
      rw [toL]
      cases h : tl s with
      | nil => exact absurd h h0
      | cons _ _ => rfl
    by_cases hodd : s.size % 2 = 1
    · rw [hexE_bad h45 (.inl (by omega))]
      have i3 : (s.size : Int).tmod 2 = 1 := by rw [Int.tmod_eq_emod_of_nonneg (by omega)]; omega
      clear hl h45 h0 hodd hz
      go_enter Tryd.func61, Tryd.ntmps61
      go_wp2
      go_ret2
      exact ⟨rfl, rfl⟩
    have i3 : (s.size : Int).tmod 2 = 0 := by rw [Int.tmod_eq_emod_of_nonneg (by omega)]; omega
    have H45 := hd h45
    have H0 := hd h0
    have HL := hd hl
    have HO := hd hodd
    have HZ := hd hz
    clear hl h45 h0 hodd hz
    generalize hV : hexE (tl s) = V
    have HV := hd hV
    clear hV
    go_enter Tryd.func61, Tryd.ntmps61
    go_wp2
    clear i1 i2 i3
    go_loopw [17] (fun b wr => ∃ i : Nat, i ≤ s.size ∧ b = .int .i64 i ∧ wr = w ∧ Hid (∀ b ∈ (tl s).take i, 0 ≤ hexI b)) (fun b _ => s.size - (intOf b).toNat)
    case atStart => exact ⟨0, Nat.zero_le _, rfl, rfl, by simp [Hid]⟩
    case round =>
      obtain ⟨i, hi, rfl, rfl, HD⟩ := hrel
      by_cases hlt : i < s.size
      · have i1 : (i : Int) < (s.size : Int) := by omega
        have hat := at_tl s i hlt
        have HA := hd hat
        clear hat
        by_cases hneg : hexI s[i] < 0
        · go_wp2_with (go_at_call 62; refine (sign_any s[i] _).mono ?_; rintro e w' ⟨rfl, rfl⟩)
          go_ret2
          refine ⟨?_, rfl⟩
          rw [← HV.out, hexE_bad H45.out (.inr ⟨s[i], List.mem_of_getElem? HA.out, hneg⟩)]
          rfl
        · go_wp2_with (go_at_call 62; refine (sign_any s[i] _).mono ?_; rintro e w' ⟨rfl, rfl⟩)
          have e3 : wrap64 ((i : Int) + 1) = ((i + 1 : Nat) : Int) := by have := HZ.out; rw [wrap64]; omega
          rw [e3]
          refine ⟨⟨i + 1, by omega, rfl, trivial, ?_⟩, by simp [intOf]; omega⟩
          intro b hb
          rw [List.take_add_one, HA.out] at hb
          simp only [Option.toList_some, List.mem_append, List.mem_singleton] at hb
          rcases hb with hb | rfl
          · exact HD.out b hb
          · omega
      · have i1 : ¬ (i : Int) < (s.size : Int) := by omega
        go_wp2
        go_ret2
        refine ⟨?_, rfl⟩
        have h1 := HL.out
        have h2 := HO.out
        have h3 := HD.out
        rw [List.take_of_length_le (by omega)] at h3
        have h4 := hexE_good H45.out H0.out (by omega) h3
        rw [← HV.out, h4]
        rw [← h1]
        have e4 : wrap64 ((s.size : Int) / 2) = (s.size : Int) / 2 := by have := HZ.out; rw [wrap64]; omega
        rw [e4]
        rfl

end Go.Proofs.YtplmhilkehkeiaaDoor
