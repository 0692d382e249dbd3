/-
  The document's: the value of a word; an entry with it.
-/
import Derived.Test.YtplmhilkehkeiaaDoorRe
namespace Go.Proofs.YtplmhilkehkeiaaDoor
open Go.RowKit
set_option linter.unusedVariables false

set_option maxRecDepth 100000 in
set_option maxHeartbeats 4000000 in
theorem rvalue_any (p lo hi n : Int) (s : ByteArray) (w : World) (hz : s.size ≤ 2000000) (h0 : 0 ≤ p) (h5 : p ≤ 5) (hv : valP p (tl s) = .ok n) : Calls Tryd.prog 31 #[.agg #[.int .u8 (letP p), .int .i64 lo, .int .i64 hi], .string s] w fun e w' => e = .returned (.int .i64 n) ∧ Below w.heap.size w w' := by
  have hc : p = 0 ∨ p = 1 ∨ p = 2 ∨ p = 3 ∨ p = 4 ∨ p = 5 := by omega
  clear h0 h5
  have num : ∀ (l : Int), p ≠ 4 → p ≠ 5 → l ≠ 99 → l ≠ 104 → Calls Tryd.prog 31 #[.agg #[.int .u8 l, .int .i64 lo, .int .i64 hi], .string s] w fun e w' => e = .returned (.int .i64 n) ∧ Below w.heap.size w w' := by
    intro l h4 h5 l1 l2
    have hR : numR (tl s) = n := by
      unfold valP at hv
      rw [if_neg h4, if_neg h5] at hv
      unfold numR
      cases hn : numP (tl s) with
      | none => rw [hn] at hv; cases hv
      | some v => rw [hn] at hv; injection hv
    have HB1 := hd ((Below.refl _ w).alloc (Nat.le_refl _) (.cells #[.int .u8 l, .int .i64 lo, .int .i64 hi] 67))
    clear h4 h5 hc hv
    go_enter Tryd.func31, Tryd.ntmps31
    go_wp2_with (go_at_call 49; refine (rnumber_any s _).mono ?_; rintro e w' ⟨rfl, rfl⟩; rw [hR])
    go_ret
    exact ⟨rfl, HB1.out⟩
  rcases hc with rfl | rfl | rfl | rfl | rfl | rfl
  · exact num 83 (by decide) (by decide) (by decide) (by decide)
  · exact num 65 (by decide) (by decide) (by decide) (by decide)
  · exact num 66 (by decide) (by decide) (by decide) (by decide)
  · exact num 67 (by decide) (by decide) (by decide) (by decide)
  · clear num
    have hl := tl_size s
    have HB1 := hd ((Below.refl _ w).alloc (Nat.le_refl _) (.cells #[.int .u8 99, .int .i64 lo, .int .i64 hi] 67))
    show Calls Tryd.prog 31 #[.agg #[.int .u8 99, .int .i64 lo, .int .i64 hi], .string s] w _
    have hs : s.size = 1 ∧ ∀ h : 0 < s.size, (s[0].toNat : Int) = n := by
      unfold valP at hv
      rw [if_pos rfl] at hv
      split at hv
      · rename_i h1
        refine ⟨by omega, fun h => ?_⟩
        injection hv with hv
        have ha := at_tl s 0 h
        rw [← hv]
        cases ht : tl s with
        | nil => rw [ht] at ha; simp at ha
        | cons b r => rw [ht] at ha; simp at ha; simp [ha]
      · cases hv
    have j0 : 0 < s.size := by omega
    have hb := hs.2 j0
    have hw : wrap64 (s[0].toNat : Int) = n := by rw [wrap_byte]; exact hb
    clear hl hs hz hv hb
    go_enter Tryd.func31, Tryd.ntmps31
    go_wp2
    go_ret
    rw [hw]
    exact ⟨rfl, HB1.out⟩
  · clear num
    have HB1 := hd ((Below.refl _ w).alloc (Nat.le_refl _) (.cells #[.int .u8 104, .int .i64 lo, .int .i64 hi] 67))
    show Calls Tryd.prog 31 #[.agg #[.int .u8 104, .int .i64 lo, .int .i64 hi], .string s] w _
    obtain ⟨t, ht, hn⟩ : ∃ t, hexP (tl s) = some t ∧ (t.length : Int) = n := by
      unfold valP at hv
      rw [if_neg (by decide), if_pos rfl] at hv
      cases hh : hexP (tl s) with
      | none => rw [hh] at hv; cases hv
      | some t => rw [hh] at hv; injection hv with hv; exact ⟨t, rfl, hv⟩
    subst hn
    have HX := hd ht
    clear ht hv
    obtain ⟨m, hm⟩ : ∃ m, t.length = m := ⟨_, rfl⟩
    rw [hm]
    have HM := hd hm
    clear hm
    go_enter Tryd.func31, Tryd.ntmps31
    go_wp2_with (go_at_call 48; refine (bytesOf_any s _ hz).mono ?_; rw [HX.out]; rintro e w' ⟨v, f, rfl, -, hN, hB⟩; obtain ⟨va, vc, hvf⟩ := hN.form; rw [Option.getD_some, bI_len, HM.out] at hvf; subst hvf; have HB := hd (HB1.out.trans (hB.mono (by simp))); clear hB hN)
    go_ret
    exact ⟨rfl, HB.out⟩

end Go.Proofs.YtplmhilkehkeiaaDoor
