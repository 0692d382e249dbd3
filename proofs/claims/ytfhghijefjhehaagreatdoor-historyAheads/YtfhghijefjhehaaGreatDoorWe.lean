/-
  Shift, of the document, whole; Cross, both.
-/
import Derived.Test.YtfhghijefjhehaaGreatDoorWd
namespace Go.Proofs.YtfhghijefjhehaaGreatDoor
open Go.RowKit
set_option linter.unusedVariables false

theorem rshift_any (a b : OpE) (f : Bool) (w : World) : Calls Tryz.prog 94 #[a.val, b.val, .bool f] w fun e w' =>
    e = .returned (shiftP a b f).val ∧ Below w.heap.size w w' := by
  obtain ⟨k, p, c, q, s⟩ := a
  obtain ⟨k', p', c', q', s'⟩ := b
  rcases rowP_cases k with rfl | rfl | hk
  · rcases rowP_cases k' with rfl | rfl | hk'
    · cases hA : aheadP 1 p' 1 p f
      · rw [show shiftP ⟨1, p, c, q, s⟩ ⟨1, p', c', q', s'⟩ f = ⟨1, p, c, q, s⟩ from by
          unfold aheadP at hA; unfold shiftP; simp at hA ⊢; split at hA <;> simp_all <;> omega]
        exact rs_11f _ _ _ _ _ _ _ _ _ w hA
      · rw [show shiftP ⟨1, p, c, q, s⟩ ⟨1, p', c', q', s'⟩ f = ⟨1, wrap64 (p + 1), c, q, s⟩ from by
          unfold aheadP at hA; unfold shiftP; simp at hA ⊢; split at hA <;> simp_all <;> omega]
        exact rs_11t _ _ _ _ _ _ _ _ _ w hA
    · cases hA : aheadP 2 p' 1 p f
      · rw [show shiftP ⟨1, p, c, q, s⟩ ⟨2, p', c', q', s'⟩ f = ⟨1, p, c, q, s⟩ from by
          unfold aheadP at hA; unfold shiftP; simp at hA ⊢; omega]
        exact rs_12f _ _ _ _ _ _ _ _ _ w hA
      · rw [show shiftP ⟨1, p, c, q, s⟩ ⟨2, p', c', q', s'⟩ f = ⟨1, wrap64 (p - 1), c, q, s⟩ from by
          unfold aheadP at hA; unfold shiftP; simp at hA ⊢; omega]
        exact rs_12t _ _ _ _ _ _ _ _ _ w hA
    · rw [shiftP_none (by have := rowP_zero hk'; simp only; omega)]
      exact rs_1n k' _ _ _ _ _ _ _ _ _ w hk'
  · rcases rowP_cases k' with rfl | rfl | hk'
    · cases hA : aheadP 1 p' 2 p f
      · rw [show shiftP ⟨2, p, c, q, s⟩ ⟨1, p', c', q', s'⟩ f = ⟨2, p, c, q, s⟩ from by
          unfold aheadP at hA; unfold shiftP; simp at hA ⊢; omega]
        exact rs_21f _ _ _ _ _ _ _ _ _ w hA
      · rw [show shiftP ⟨2, p, c, q, s⟩ ⟨1, p', c', q', s'⟩ f = ⟨2, wrap64 (p + 1), c, q, s⟩ from by
          unfold aheadP at hA; unfold shiftP; simp at hA ⊢; omega]
        exact rs_21t _ _ _ _ _ _ _ _ _ w hA
    · by_cases he : p = p'
      · subst he
        rw [show shiftP ⟨2, p, c, q, s⟩ ⟨2, p, c', q', s'⟩ f = ⟨0, 0, 0, q, s⟩ from by simp [shiftP]]
        exact rs_22e _ _ _ _ _ _ _ _ w
      · have he' : ¬ p' = p := fun h => he h.symm
        cases hA : aheadP 2 p' 2 p f
        · rw [show shiftP ⟨2, p, c, q, s⟩ ⟨2, p', c', q', s'⟩ f = ⟨2, p, c, q, s⟩ from by
            unfold aheadP at hA; unfold shiftP; simp [he, he'] at hA ⊢; omega]
          exact rs_22f _ _ _ _ _ _ _ _ _ w (by simpa using he) hA
        · rw [show shiftP ⟨2, p, c, q, s⟩ ⟨2, p', c', q', s'⟩ f = ⟨2, wrap64 (p - 1), c, q, s⟩ from by
            unfold aheadP at hA; unfold shiftP; simp [he, he'] at hA ⊢; omega]
          exact rs_22t _ _ _ _ _ _ _ _ _ w (by simpa using he) hA
    · rw [shiftP_none (by have := rowP_zero hk'; simp only; omega)]
      exact rs_2n k' _ _ _ _ _ _ _ _ _ w hk'
  · rw [shiftP_none (by have := rowP_zero hk; simp only; omega)]
    exact rs_n k _ _ _ _ _ _ _ _ _ _ w hk

end Go.Proofs.YtfhghijefjhehaaGreatDoor
