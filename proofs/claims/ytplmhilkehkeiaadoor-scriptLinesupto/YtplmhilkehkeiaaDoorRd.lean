/-
  The document's table of forms; a word's form, value and place.
-/
import Derived.Test.YtplmhilkehkeiaaDoorSq
import Derived.Test.YtplmhilkehkeiaaDoorRb
import Derived.Test.YtplmhilkehkeiaaDoorRc
namespace Go.Proofs.YtplmhilkehkeiaaDoor
open Go.RowKit
set_option linter.unusedVariables false

set_option maxRecDepth 100000 in
set_option maxHeartbeats 4000000 in
theorem verb_any (k : Nat) (w : World) (hk : k < 14) : Calls Tryd.prog 47 #[.int .i64 k] w fun e w' => ∃ v, e = .returned (.string v) ∧ verbsL[k]? = some (tl v) ∧ Below w.heap.size w w' := by
  have hc : ∃ v : ByteArray, verbsL[k]? = some (tl v) ∧ verbsA[k]? = some (.string v) := by
    match k, hk with
    | 0, _ => exact ⟨⟨#[]⟩, rfl, rfl⟩
    | 1, _ => exact ⟨⟨#[105, 110, 115, 101, 114, 116]⟩, rfl, rfl⟩
    | 2, _ => exact ⟨⟨#[100, 101, 108, 101, 116, 101]⟩, rfl, rfl⟩
    | 3, _ => exact ⟨⟨#[116, 105, 99, 107]⟩, rfl, rfl⟩
    | 4, _ => exact ⟨⟨#[100, 101, 108, 105, 118, 101, 114]⟩, rfl, rfl⟩
    | 5, _ => exact ⟨⟨#[100, 114, 111, 112]⟩, rfl, rfl⟩
    | 6, _ => exact ⟨⟨#[100, 111, 117, 98, 108, 101]⟩, rfl, rfl⟩
    | 7, _ => exact ⟨⟨#[102, 108, 105, 112]⟩, rfl, rfl⟩
    | 8, _ => exact ⟨⟨#[97, 108, 108]⟩, rfl, rfl⟩
    | 9, _ => exact ⟨⟨#[114, 111, 117, 110, 100]⟩, rfl, rfl⟩
    | 10, _ => exact ⟨⟨#[99, 114, 97, 115, 104]⟩, rfl, rfl⟩
    | 11, _ => exact ⟨⟨#[98, 111, 111, 116]⟩, rfl, rfl⟩
    | 12, _ => exact ⟨⟨#[115, 116, 117, 109, 98, 108, 101]⟩, rfl, rfl⟩
    | 13, _ => exact ⟨⟨#[102, 111, 114, 103, 101]⟩, rfl, rfl⟩
    | n + 14, h => omega
  obtain ⟨v, h1, h2⟩ := hc
  have H1 := hd h1
  have cz : (w.alloc (.cells verbsA 9)).cell? ⟨w.heap.size, k, none⟩ = some (.string v) := by rw [cell_row (heap_alloc_new _ _)]; exact h2
  have BZ := hd ((Below.refl _ w).alloc (Nat.le_refl _) (.cells verbsA 9))
  clear h1 h2
  unfold verbsA at cz BZ
  have i1 : ¬ (k : Int) < 0 := by omega
  have i2 : ¬ (14 : Int) ≤ (k : Int) := by omega
  have i3 : (k : Int) < 14 := by omega
  go_enter Tryd.func47, Tryd.ntmps47
  go_wp2
  go_ret
  exact ⟨v, rfl, H1.out, BZ.out⟩

theorem verbs_ne (k : Nat) (h : 1 ≤ k) : verbsL[k]? ≠ some [] := by
  by_cases hk : k < 14
  · have : ∀ k : Fin 14, 1 ≤ k.val → verbsL[k.val]? ≠ some [] := by decide
    exact this ⟨k, hk⟩ h
  · rw [List.getElem?_eq_none (by show 14 ≤ k; omega)]
    simp

set_option maxRecDepth 100000 in
set_option maxHeartbeats 4000000 in
theorem rkindOf_any (s : ByteArray) (w : World) : Calls Tryd.prog 28 #[.string s] w fun e w' => e = .returned (.int .i64 (kindP (tl s))) ∧ Below w.heap.size w w' := by
  generalize hK : kindP (tl s) = V
  have HK := hd hK
  clear hK
  go_enter Tryd.func28, Tryd.ntmps28
  go_wp2
  go_loopw [3] (fun b wr => ∃ k : Nat, 1 ≤ k ∧ k ≤ 14 ∧ b = .int .i64 k ∧ Hid (Below w.heap.size w wr ∧ ∀ j : Nat, 1 ≤ j → j < k → verbsL[j]? ≠ some (tl s))) (fun b _ => 14 - (intOf b).toNat)
  case atStart => exact ⟨1, by omega, by omega, rfl, Below.refl _ _, fun j h1 h2 => by omega⟩
  case round =>
    obtain ⟨k, hk1, hk, rfl, HD⟩ := hrel
    by_cases hlt : k < 14
    · have i1 : (k : Int) ≤ 13 := by omega
      have hv : ∃ v : ByteArray, verbsL[k]? = some (tl v) := by
        match k, hlt with
        | 0, _ => exact ⟨⟨#[]⟩, rfl⟩
        | 1, _ => exact ⟨⟨#[105, 110, 115, 101, 114, 116]⟩, rfl⟩
        | 2, _ => exact ⟨⟨#[100, 101, 108, 101, 116, 101]⟩, rfl⟩
        | 3, _ => exact ⟨⟨#[116, 105, 99, 107]⟩, rfl⟩
        | 4, _ => exact ⟨⟨#[100, 101, 108, 105, 118, 101, 114]⟩, rfl⟩
        | 5, _ => exact ⟨⟨#[100, 114, 111, 112]⟩, rfl⟩
        | 6, _ => exact ⟨⟨#[100, 111, 117, 98, 108, 101]⟩, rfl⟩
        | 7, _ => exact ⟨⟨#[102, 108, 105, 112]⟩, rfl⟩
        | 8, _ => exact ⟨⟨#[97, 108, 108]⟩, rfl⟩
        | 9, _ => exact ⟨⟨#[114, 111, 117, 110, 100]⟩, rfl⟩
        | 10, _ => exact ⟨⟨#[99, 114, 97, 115, 104]⟩, rfl⟩
        | 11, _ => exact ⟨⟨#[98, 111, 111, 116]⟩, rfl⟩
        | 12, _ => exact ⟨⟨#[115, 116, 117, 109, 98, 108, 101]⟩, rfl⟩
        | 13, _ => exact ⟨⟨#[102, 111, 114, 103, 101]⟩, rfl⟩
        | n + 14, h => omega
      obtain ⟨v, hv⟩ := hv
      have HVI := hd hv
      have CV : Hid (∀ U : World, Calls Tryd.prog 47 #[.int .i64 k] U fun e w' => e = .returned (.string v) ∧ Below U.heap.size U w') := fun U => (verb_any k U hlt).mono (fun e w' ⟨v', h1, h2, h3⟩ => by
        have hvv : v' = v := by
          rw [HVI.out] at h2
          simp only [Option.some.injEq] at h2
          apply ByteArray.ext
          apply Array.toList_inj.1
          exact h2.symm
        subst hvv
        exact ⟨h1, h3⟩)
      clear hv
      by_cases hq : tl v = tl s
      · have hs : v = s := by
          apply ByteArray.ext
          apply Array.toList_inj.1
          exact hq
        subst hs
        go_wp2_with (go_at_call 47; refine (CV.out _).mono ?_; rintro e w1 ⟨rfl, hB⟩)
        go_ret
        refine ⟨?_, HD.out.1.trans (hB.mono HD.out.1.size)⟩
        rw [← HK.out, kind_at k _ HVI.out (fun j hj h => ?_)]
        · rfl
        · cases j with
          | zero =>
            have h0 : tl v = [] := by simpa [verbsL] using h.symm
            exact verbs_ne k hk1 (by rw [HVI.out, h0])
          | succ j => exact HD.out.2 (j + 1) (by omega) hj h
      · have e1 : (v.toList == s.toList) = false := by rw [toL, toL]; simpa using hq
        have HQ := hd hq
        clear hq
        go_wp2_with (go_at_call 47; refine (CV.out _).mono ?_; rintro e w1 ⟨rfl, hB⟩)
        refine ⟨⟨k + 1, by omega, by omega, by go_num, HD.out.1.trans (hB.mono HD.out.1.size), ?_⟩, by simp [intOf]; omega⟩
        intro j h1 hj
        rcases Nat.lt_or_ge j k with h | h
        · exact HD.out.2 j h1 h
        · obtain rfl : j = k := by omega
          rw [HVI.out]
          simpa using HQ.out
    · have i1 : ¬ (k : Int) ≤ 13 := by omega
      go_wp2
      go_ret
      refine ⟨?_, HD.out.1⟩
      obtain rfl : k = 14 := by omega
      rw [← HK.out]
      by_cases h0 : tl s = []
      · rw [kind_at 0 _ (by rw [h0]; rfl) (fun j hj => by omega)]
        rfl
      · rw [kind_none _ (fun j hj h => ?_)]
        · rfl
        · cases j with
          | zero => exact h0 (by simpa [verbsL] using h.symm)
          | succ j => exact HD.out.2 (j + 1) (by omega) hj h

end Go.Proofs.YtplmhilkehkeiaaDoor
