/-
  The reader of the document: Take, where it can.
-/
import Derived.Test.YtkidhfednipdcabDoorRRef
namespace Go.Proofs.YtkidhfednipdcabDoor
open Go.RowKit
variable {D : Nat → Prop}

set_option maxHeartbeats 1000000 in
theorem refTake_good (r : Nat) (xs : List Int) (p k : Nat) (w : World) (h : RF D w r xs p false) (hx : p + k ≤ xs.length) :
    Calls Tryd.prog 37 #[.pointer (some ⟨r, 0, none⟩), .int .i64 k] w fun e w' => ∃ v, e = .returned v ∧ OwnB w' w.heap.size v k ((xs.drop p).take k) ∧ FGood D w w' r xs p k := by
  have H := hd h
  obtain ⟨a, n, c, hh, hB, hr, h1, h2⟩ := h
  have c0 := cell_row hh 0
  have c1 := cell_row hh 1
  have c2 := cell_row hh 2
  simp [codeOf] at c2
  simp at c0 c1
  have hl := hB.1
  have hnc := hB.2.1
  have hc3 := hB.2.2.1
  have hx1 : ¬ (n : Int) - p < k := by omega
  have hn0 : decide ((k : Int) < 0) = false := by simp
  have hw : IntKind.i64.wrap ((p : Int) + k) = (p : Int) + k := by
    rw [IntKind.wrap_i64]
    omega
  have b1 : (0 : Int) ≤ p := by omega
  have b2 : (p : Int) ≤ p + k := by omega
  have b3 : (p : Int) + k ≤ c := by omega
  have HB := hd (hB.sub p k (by omega))
  clear hh hB hr
  go_enter Tryd.func37, Tryd.ntmps37
  go_wp2
  go_quiet (fail)
  go_wp2
  by_cases hcp : c = p
  · have HK : Hid (k = 0) := by
      show k = 0
      omega
    go_region_with (go_at_call 33; refine (copied_any a 0 0 [] _ ?_ (by omega)).mono ?_; exact ⟨rfl, Nat.le_refl _, by omega, fun h => by omega⟩; rintro e w1 ⟨v, rfl, hown, hbel⟩; have W1 := hd hown; have W2 := hd hbel; clear hown hbel)
    all_goals
      have H1 := (H.out.drewN (nq + 1)).below W2.out
      have RM := hd (And.intro (H1.move (p + k) hx) (((But.drewN r w (nq + 1)).trans (But.of_below W2.out)).trans (But.setCell r _ 1 (.int .i64 (p + k : Nat)))))
      have OW : Hid (OwnB (w1.setCell ⟨r, 1, none⟩ (.int .i64 (p + k : Nat))) w.heap.size v k ((xs.drop p).take k)) := by
        have h0 : OwnB w1 w.heap.size v 0 [] := W1.out
        have h1 := h0.but (But.setCell r w1 1 (.int .i64 (p + k : Nat))) H.out.lt
        show OwnB _ _ _ _ _
        rw [HK.out] at h1 ⊢
        simpa using h1
      obtain ⟨a', n', c', hh, _⟩ := H1
      have e1 := cell_row hh 1
      have g1 := frozen_row hh 1
      simp at e1 g1
      clear hh W1 W2 H HB
      simp only [Int.natCast_add] at RM OW
      go_wp2
      go_ret
      exact ⟨_, rfl, OW.out, RM.out⟩
  · have hkk : ((p : Int) + k).toNat - p = k := by omega
    rw [if_neg hcp] at HB
    go_region_with (go_at_call 33; refine (copied_any _ k (c - p) _ _ (HB.out.below ?_) (by omega)).mono ?_; exact below_drewN (Below.refl _ _) _; rintro e w1 ⟨v, rfl, hown, hbel⟩; have W1 := hd hown; have W2 := hd hbel; clear hown hbel)
    all_goals
      have H1 := (H.out.drewN (nq + 1)).below W2.out
      have RM := hd (And.intro (H1.move (p + k) hx) (((But.drewN r w (nq + 1)).trans (But.of_below W2.out)).trans (But.setCell r _ 1 (.int .i64 (p + k : Nat)))))
      have OW : Hid (OwnB (w1.setCell ⟨r, 1, none⟩ (.int .i64 (p + k : Nat))) w.heap.size v k ((xs.drop p).take k)) := by
        have h0 : OwnB w1 w.heap.size v k ((xs.drop p).take k) := W1.out
        exact h0.but (But.setCell r w1 1 (.int .i64 (p + k : Nat))) H.out.lt
      obtain ⟨a', n', c', hh, _⟩ := H1
      have e1 := cell_row hh 1
      have g1 := frozen_row hh 1
      simp at e1 g1
      clear hh W1 W2 H HB
      simp only [Int.natCast_add] at RM OW
      go_wp2
      go_ret
      exact ⟨_, rfl, OW.out, RM.out⟩

end Go.Proofs.YtkidhfednipdcabDoor
