/-
  The document's change.
-/
import Derived.Test.YtfhghijefjhehaaGreatDoorHd
import Derived.Test.YtfhghijefjhehaaGreatDoorVc
namespace Go.Proofs.YtfhghijefjhehaaGreatDoor
open Go.RowKit
set_option linter.unusedVariables false

theorem chP_doc (o : OpE) : chP o = (decide (o.kind = 1 ∨ o.kind = 2) && decide (validP o = 0)) := by
  unfold chP
  by_cases hv : validP o = 0
  · have := (validP_zero hv).1
    simp only [hv, decide_true, Bool.and_true, decide_eq_decide]
    omega
  · simp [hv]

set_option maxRecDepth 100000 in
set_option maxHeartbeats 2000000 in
theorem change_any (k p c l s : Int) (w : World) :
    Calls Tryz.prog 90 #[.agg #[.int .i64 k, .int .i64 p, .int .u8 c, .int .i64 l, .int .i64 s]] w fun e w' => e = .returned (.bool (chP ⟨k, p, c, l, s⟩)) ∧ Below w.heap.size w w' := by
  have CV := hd (fun W => rvalid_any k p c l s W)
  have hP : Hid (chP ⟨k, p, c, l, s⟩ = (decide (k = 1 ∨ k = 2) && decide (validP ⟨k, p, c, l, s⟩ = 0))) := chP_doc _
  generalize chP ⟨k, p, c, l, s⟩ = b at *
  generalize validP ⟨k, p, c, l, s⟩ = r at *
  have B1 := hd ((Below.refl w.heap.size w).alloc (Nat.le_refl _) (.cells #[.int .i64 k, .int .i64 p, .int .u8 c, .int .i64 l, .int .i64 s] 69))
  by_cases hk : k = 1 ∨ k = 2
  · by_cases hr : r = 0
    · have hb : b = true := by rw [hP.out]; simp [hk, hr]
      subst hb hr
      rcases hk with rfl | rfl
      all_goals
        go_enter Tryz.func90, Tryz.ntmps90
        go_wp2_with fail
        refine (CV.out _).mono ?_
        rintro e w1 ⟨rfl, b1⟩
        have Z := hd (B1.out.trans (b1.mono B1.out.size))
        clear b1
        go_wp2
        go_ret
        exact ⟨rfl, Z.out⟩
    · have hb : b = false := by rw [hP.out]; simp [hr]
      have r1 : (r == 0) = false := by simpa using hr
      subst hb
      rcases hk with rfl | rfl
      all_goals
        go_enter Tryz.func90, Tryz.ntmps90
        go_wp2_with fail
        refine (CV.out _).mono ?_
        rintro e w1 ⟨rfl, b1⟩
        have Z := hd (B1.out.trans (b1.mono B1.out.size))
        clear b1
        go_wp2
        go_ret
        exact ⟨rfl, Z.out⟩
  · have hb : b = false := by rw [hP.out]; simp [hk]
    subst hb
    have k1 : (k == 1) = false := by simp; omega
    have k2 : (k == 2) = false := by simp; omega
    clear hk
    go_enter Tryz.func90, Tryz.ntmps90
    go_wp2_with fail
    go_ret
    exact ⟨rfl, B1.out⟩

end Go.Proofs.YtfhghijefjhehaaGreatDoor
