/-
  Lines copied; two lines held against one another.
-/
import Derived.Test.YtmbnimlibnheeaaDoorMb
namespace Go.Proofs.YtmbnimlibnheeaaDoor
open Go.RowKit
set_option linter.unusedVariables false

set_option maxRecDepth 100000 in
set_option maxHeartbeats 4000000 in
theorem copied_any (a : Option Addr) (n c : Nat) (xs : List OpE) (w : World) (hE : IsO w a n c xs) (hn : n * 40 ≤ 281474976710656) :
    Calls Tryd.prog 34 #[.slice a n c] w fun e w' => ∃ v, e = .returned v ∧ OwnO w' w.heap.size v xs ∧ Below w.heap.size w w' := by
  obtain ⟨i0, hi0, hz0, hz1, hz2⟩ := info_parts Tryd.infoO
  have HE := hd hE
  have HN : Hid (xs.length = n) := hE.1
  have n63 : n ≤ 9223372036854775807 := by omega
  clear hE
  go_enter Tryd.func34, Tryd.ntmps34
  go_wp2_with (first | (at_make; refine wpList_make_k _ rfl _ _ 23 rfl 29 i0 _ Tryd.underlying23 hi0 hz0 _ _ _ _ n n rfl rfl rfl rfl (Nat.le_refl _) (by rw [hz2]; omega) (by omega) ?_; intro w3 cur hg3 hcur hb3) | fail)
  have hl3 : cur.length = n * 5 := by
    have := hcur.out
    rw [hz1] at this
    rw [this, show (Value.agg #[.int .i64 0, .int .i64 0, .int .u8 0, .int .i64 0, .int .i64 0]).cells = #[.int .i64 0, .int .i64 0, .int .u8 0, .int .i64 0, .int .i64 0] from rfl, made_zero, cO_len]
    simp
  obtain ⟨w4, hr4, hR4, hF4⟩ := run_copyO w3 a n c n w.heap.size xs cur (HE.out.below hb3.out) hg3.out hl3 (Nat.le_refl _) n63
  have R : Hid (OwnO w4 w.heap.size (.slice (some ⟨w.heap.size, 0, none⟩) n n) xs ∧ Below w.heap.size w w4) := by
    refine ⟨⟨_, n, Nat.le_refl _, by rw [HN.out], by rw [HN.out]; exact hR4⟩, hb3.out.trans (hF4.below hb3.out.size (fun k h => by rw [h]; exact Nat.le_refl _))⟩
  clear hg3 hcur hb3 hi0 hz0 hz1 hz2 hl3 hR4 hF4
  rw [hr4]
  go_wp2
  go_ret
  exact ⟨_, rfl, R.out⟩

end Go.Proofs.YtmbnimlibnheeaaDoor
