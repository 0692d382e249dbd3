/-
  The document's words of a form; a word's form and value.
-/
import Derived.Test.YtplmhilkehkeiaaDoorRd
namespace Go.Proofs.YtplmhilkehkeiaaDoor
open Go.RowKit
set_option linter.unusedVariables false

/-- The document's letter of a place. -/
def letP (p : Int) : Int := if p = 0 then 83 else if p = 1 then 65 else if p = 2 then 66 else if p = 3 then 67 else if p = 4 then 99 else 104
def cW (f : Fl) : List Value := [.int .u8 (letP f.place), .int .i64 f.lo, .int .i64 f.hi]
theorem sz_cW : Sz cW 3 := fun x => ⟨rfl, fun v hv => by simp [cW] at hv; rcases hv with rfl | rfl | rfl <;> rfl⟩
theorem fl_place (k : Int) : ∀ f ∈ fl k, 0 ≤ f.place ∧ f.place ≤ 5 := by
  unfold fl
  repeat' split
  all_goals simp

set_option maxRecDepth 100000 in
set_option maxHeartbeats 4000000 in
theorem formed_any (p lo hi : Int) (s : ByteArray) (w : World) (hz : s.size ≤ 2000000) (h0 : 0 ≤ p) (h5 : p ≤ 5) : Calls Tryd.prog 30 #[.agg #[.int .u8 (letP p), .int .i64 lo, .int .i64 hi], .string s] w fun e w' => e = .returned (.int .i64 (valE p (tl s)).2) ∧ Below w.heap.size w w' := by
  have hc : p = 0 ∨ p = 1 ∨ p = 2 ∨ p = 3 ∨ p = 4 ∨ p = 5 := by omega
  clear h0 h5
  have num : ∀ (l : Int), p ≠ 4 → p ≠ 5 → letP p = l → l ≠ 99 → l ≠ 104 → Calls Tryd.prog 30 #[.agg #[.int .u8 l, .int .i64 lo, .int .i64 hi], .string s] w fun e w' => e = .returned (.int .i64 (valE p (tl s)).2) ∧ Below w.heap.size w w' := by
    intro l h4 h5 hl l1 l2
    rw [valE_n p _ h4 h5]
    have B1 : Below w.heap.size w (w.alloc (.cells #[.int .u8 l, .int .i64 lo, .int .i64 hi] 67)) := (Below.refl _ _).alloc (Nat.le_refl _) _
    have HB1 := hd B1
    clear B1 hl h4 h5 hc
    cases hn : numP (tl s) with
    | none =>
      have hE : (numE (tl s)).2 = 154 := by unfold numE; rw [hn]
      have hR : numR (tl s) = -1 := by unfold numR; rw [hn]
      rw [hE]
      clear hE hn
      go_enter Tryd.func30, Tryd.ntmps30
      go_wp2_with (go_at_call 49; refine (rnumber_any s _).mono ?_; rintro e w' ⟨rfl, rfl⟩; rw [hR])
      go_ret
      exact ⟨rfl, HB1.out⟩
    | some v =>
      have hE : (numE (tl s)).2 = 0 := by unfold numE; rw [hn]
      have hR : numR (tl s) = v := by unfold numR; rw [hn]
      have hv := (num_bound hn).1
      rw [hE]
      clear hE hn
      go_enter Tryd.func30, Tryd.ntmps30
      go_wp2_with (go_at_call 49; refine (rnumber_any s _).mono ?_; rintro e w' ⟨rfl, rfl⟩; rw [hR])
      go_ret
      exact ⟨rfl, HB1.out⟩
  rcases hc with rfl | rfl | rfl | rfl | rfl | rfl
  · exact num 83 (by decide) (by decide) rfl (by decide) (by decide)
  · exact num 65 (by decide) (by decide) rfl (by decide) (by decide)
  · exact num 66 (by decide) (by decide) rfl (by decide) (by decide)
  · exact num 67 (by decide) (by decide) rfl (by decide) (by decide)
  · clear num
    rw [valE_4]
    have hl := tl_size s
    have HB1 := hd ((Below.refl _ w).alloc (Nat.le_refl _) (.cells #[.int .u8 99, .int .i64 lo, .int .i64 hi] 67))
    show Calls Tryd.prog 30 #[.agg #[.int .u8 99, .int .i64 lo, .int .i64 hi], .string s] w _
    by_cases h1 : s.size = 1
    · have hE : (singleE (tl s)).2 = 0 := by unfold singleE; rw [if_pos (by omega)]
      rw [hE]
      have i1 : (s.size : Int) = 1 := by omega
      clear hl h1 hE hz
      go_enter Tryd.func30, Tryd.ntmps30
      go_wp2
      go_ret
      exact ⟨rfl, HB1.out⟩
    · have hE : (singleE (tl s)).2 = 154 := by unfold singleE; rw [if_neg (by omega)]
      rw [hE]
      have i1 : ¬ (s.size : Int) = 1 := by omega
      clear hl h1 hE hz
      go_enter Tryd.func30, Tryd.ntmps30
      go_wp2
      go_ret
      exact ⟨rfl, HB1.out⟩
  · clear num
    rw [valE_5]
    have HB1 := hd ((Below.refl _ w).alloc (Nat.le_refl _) (.cells #[.int .u8 104, .int .i64 lo, .int .i64 hi] 67))
    show Calls Tryd.prog 30 #[.agg #[.int .u8 104, .int .i64 lo, .int .i64 hi], .string s] w _
    cases hx : hexP (tl s) with
    | none =>
      have hE : (hexE (tl s)).2 = 156 := by unfold hexE; rw [hx]
      rw [hE]
      have HX := hd hx
      clear hx hE
      go_enter Tryd.func30, Tryd.ntmps30
      go_wp2_with (go_at_call 48; refine (bytesOf_any s _ hz).mono ?_; rw [HX.out]; rintro e w' ⟨v, f, rfl, hf, -, hB⟩; simp only [Option.isSome_none] at hf; subst hf; have HB := hd (HB1.out.trans (hB.mono (by simp))); clear hB)
      go_ret
      exact ⟨rfl, HB.out⟩
    | some t =>
      have hE : (hexE (tl s)).2 = 0 := by unfold hexE; rw [hx]
      rw [hE]
      have HX := hd hx
      clear hx hE
      go_enter Tryd.func30, Tryd.ntmps30
      go_wp2_with (go_at_call 48; refine (bytesOf_any s _ hz).mono ?_; rw [HX.out]; rintro e w' ⟨v, f, rfl, hf, -, hB⟩; simp only [Option.isSome_some] at hf; subst hf; have HB := hd (HB1.out.trans (hB.mono (by simp))); clear hB)
      go_ret
      exact ⟨rfl, HB.out⟩

end Go.Proofs.YtplmhilkehkeiaaDoor
