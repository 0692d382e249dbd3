/-
  Texts put together: Hga Hj.
-/
import Derived.Test.YtfhghijefjhehaaGreatDoorMHza
import Derived.Laws.StructEq
/-! Hga -/
namespace Go.Proofs.YtfhghijefjhehaaGreatDoor
open Go.RowKit
set_option linter.unusedVariables false

theorem opFields : Tryz.prog.underlying 69 = some (.struct (Tryz.prog.fieldsOf 69)) := by kernel_rfl
theorem opHeld : Tryz.prog.stoodInHeld 69 = false := by kernel_rfl

theorem opEq (k p c l s k' p' c' l' s' : Int) (W : World) : (Op.equalIn 10000 69 (.agg #[.int .i64 k, .int .i64 p, .int .u8 c, .int .i64 l, .int .i64 s]) (.agg #[.int .i64 k', .int .i64 p', .int .u8 c', .int .i64 l', .int .i64 s'])).run Tryz.prog W =
    .ok (decide (k = k' ∧ p = p' ∧ c = c' ∧ l = l' ∧ s = s')) W := by
  rw [show (10000 : Nat) = 9999 + 1 from rfl, run_equalIn_struct W _ _ _ _ opFields opHeld]
  simp only [Program.fieldsOf, Tryz.underlying69]
  by_cases h0 : k = k' <;> by_cases h1 : p = p' <;> by_cases h2 : c = c' <;> by_cases h3 : l = l' <;> by_cases h4 : s = s' <;>
    simp [Op.eqFields, part, go_sem, h0, h1, h2, h3, h4]
theorem opNe {k p c l s k' p' c' l' s' : Int} (h : (⟨k, p, c, l, s⟩ : OpE) ≠ ⟨k', p', c', l', s'⟩) (W : World) : (Op.equalIn 10000 69 (.agg #[.int .i64 k, .int .i64 p, .int .u8 c, .int .i64 l, .int .i64 s]) (.agg #[.int .i64 k', .int .i64 p', .int .u8 c', .int .i64 l', .int .i64 s'])).run Tryz.prog W = .ok false W := by
  rw [opEq]
  congr 1
  simp only [ne_eq, OpE.mk.injEq] at h
  simpa using h
theorem opSame (k p c l s : Int) (W : World) : (Op.equalIn 10000 69 (.agg #[.int .i64 k, .int .i64 p, .int .u8 c, .int .i64 l, .int .i64 s]) (.agg #[.int .i64 k, .int .i64 p, .int .u8 c, .int .i64 l, .int .i64 s])).run Tryz.prog W = .ok true W := by
  rw [opEq]
  simp
end Go.Proofs.YtfhghijefjhehaaGreatDoor

/-! Hj -/
namespace Go.Proofs.YtfhghijefjhehaaGreatDoor
open Go.RowKit
set_option linter.unusedVariables false

theorem edFields : Tryz.prog.underlying 74 = some (.struct (Tryz.prog.fieldsOf 74)) := by kernel_rfl
theorem edHeld : Tryz.prog.stoodInHeld 74 = false := by kernel_rfl

theorem edEq (t k p c l s t' k' p' c' l' s' : Int) (W : World) : (Op.equalIn 10000 74 (.agg #[.int .i64 t, .int .i64 k, .int .i64 p, .int .u8 c, .int .i64 l, .int .i64 s]) (.agg #[.int .i64 t', .int .i64 k', .int .i64 p', .int .u8 c', .int .i64 l', .int .i64 s'])).run Tryz.prog W =
    .ok (decide (t = t' ∧ k = k' ∧ p = p' ∧ c = c' ∧ l = l' ∧ s = s')) W := by
  rw [show (10000 : Nat) = 9999 + 1 from rfl, run_equalIn_struct W _ _ _ _ edFields edHeld]
  simp only [Program.fieldsOf, Tryz.underlying74]
  by_cases h0 : t = t'
  · simp [Op.eqFields, part, go_sem, h0]
    (repeat' split) <;> simp_all
  · simp [Op.eqFields, part, go_sem, h0]
theorem edNe {k p c l s k' p' c' l' s' t t' : Int} (h : (⟨t, ⟨k, p, c, l, s⟩⟩ : Ed) ≠ ⟨t', ⟨k', p', c', l', s'⟩⟩) (W : World) : (Op.equalIn 10000 74 (.agg #[.int .i64 t, .int .i64 k, .int .i64 p, .int .u8 c, .int .i64 l, .int .i64 s]) (.agg #[.int .i64 t', .int .i64 k', .int .i64 p', .int .u8 c', .int .i64 l', .int .i64 s'])).run Tryz.prog W = .ok false W := by
  rw [edEq]
  congr 1
  simp only [ne_eq, Ed.mk.injEq, OpE.mk.injEq] at h
  simpa using h
theorem edSame (t k p c l s : Int) (W : World) : (Op.equalIn 10000 74 (.agg #[.int .i64 t, .int .i64 k, .int .i64 p, .int .u8 c, .int .i64 l, .int .i64 s]) (.agg #[.int .i64 t, .int .i64 k, .int .i64 p, .int .u8 c, .int .i64 l, .int .i64 s])).run Tryz.prog W = .ok true W := by
  rw [edEq]
  simp
end Go.Proofs.YtfhghijefjhehaaGreatDoor
