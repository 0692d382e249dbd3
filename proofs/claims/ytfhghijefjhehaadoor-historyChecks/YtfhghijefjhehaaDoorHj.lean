/-
  Two edits compared.
-/
import Derived.Test.YtfhghijefjhehaaDoorHga
namespace Go.Proofs.YtfhghijefjhehaaDoor
open Go.RowKit
set_option linter.unusedVariables false

theorem edFields : Tryd.prog.underlying 48 = some (.struct (Tryd.prog.fieldsOf 48)) := by kernel_rfl
theorem edHeld : Tryd.prog.stoodInHeld 48 = false := by kernel_rfl

theorem edEq (t k p c l s t' k' p' c' l' s' : Int) (W : World) : (Op.equalIn 10000 48 (.agg #[.int .i64 t, .int .i64 k, .int .i64 p, .int .u8 c, .int .i64 l, .int .i64 s]) (.agg #[.int .i64 t', .int .i64 k', .int .i64 p', .int .u8 c', .int .i64 l', .int .i64 s'])).run Tryd.prog W =
    .ok (decide (t = t' ∧ k = k' ∧ p = p' ∧ c = c' ∧ l = l' ∧ s = s')) W := by
  rw [show (10000 : Nat) = 9999 + 1 from rfl, run_equalIn_struct W _ _ _ _ edFields edHeld]
  simp only [Program.fieldsOf, Tryd.underlying48]
  by_cases h0 : t = t'
  · simp [Op.eqFields, part, go_sem, h0]
    (repeat' split) <;> simp_all
  · simp [Op.eqFields, part, go_sem, h0]
theorem edNe {k p c l s k' p' c' l' s' t t' : Int} (h : (⟨t, ⟨k, p, c, l, s⟩⟩ : Ed) ≠ ⟨t', ⟨k', p', c', l', s'⟩⟩) (W : World) : (Op.equalIn 10000 48 (.agg #[.int .i64 t, .int .i64 k, .int .i64 p, .int .u8 c, .int .i64 l, .int .i64 s]) (.agg #[.int .i64 t', .int .i64 k', .int .i64 p', .int .u8 c', .int .i64 l', .int .i64 s'])).run Tryd.prog W = .ok false W := by
  rw [edEq]
  congr 1
  simp only [ne_eq, Ed.mk.injEq, OpE.mk.injEq] at h
  simpa using h
theorem edSame (t k p c l s : Int) (W : World) : (Op.equalIn 10000 48 (.agg #[.int .i64 t, .int .i64 k, .int .i64 p, .int .u8 c, .int .i64 l, .int .i64 s]) (.agg #[.int .i64 t, .int .i64 k, .int .i64 p, .int .u8 c, .int .i64 l, .int .i64 s])).run Tryd.prog W = .ok true W := by
  rw [edEq]
  simp
end Go.Proofs.YtfhghijefjhehaaDoor
