/-
  Two operations compared.
-/
import Derived.Test.YtfhghijefjhehaaDoorHf
import Derived.Laws.StructEq
namespace Go.Proofs.YtfhghijefjhehaaDoor
open Go.RowKit
set_option linter.unusedVariables false

theorem opFields : Tryd.prog.underlying 46 = some (.struct (Tryd.prog.fieldsOf 46)) := by kernel_rfl
theorem opHeld : Tryd.prog.stoodInHeld 46 = false := by kernel_rfl

theorem opEq (k p c l s k' p' c' l' s' : Int) (W : World) : (Op.equalIn 10000 46 (.agg #[.int .i64 k, .int .i64 p, .int .u8 c, .int .i64 l, .int .i64 s]) (.agg #[.int .i64 k', .int .i64 p', .int .u8 c', .int .i64 l', .int .i64 s'])).run Tryd.prog W =
    .ok (decide (k = k' ∧ p = p' ∧ c = c' ∧ l = l' ∧ s = s')) W := by
  rw [show (10000 : Nat) = 9999 + 1 from rfl, run_equalIn_struct W _ _ _ _ opFields opHeld]
  simp only [Program.fieldsOf, Tryd.underlying46]
  by_cases h0 : k = k' <;> by_cases h1 : p = p' <;> by_cases h2 : c = c' <;> by_cases h3 : l = l' <;> by_cases h4 : s = s' <;>
    simp [Op.eqFields, part, go_sem, h0, h1, h2, h3, h4]
theorem opNe {k p c l s k' p' c' l' s' : Int} (h : (⟨k, p, c, l, s⟩ : OpE) ≠ ⟨k', p', c', l', s'⟩) (W : World) : (Op.equalIn 10000 46 (.agg #[.int .i64 k, .int .i64 p, .int .u8 c, .int .i64 l, .int .i64 s]) (.agg #[.int .i64 k', .int .i64 p', .int .u8 c', .int .i64 l', .int .i64 s'])).run Tryd.prog W = .ok false W := by
  rw [opEq]
  congr 1
  simp only [ne_eq, OpE.mk.injEq] at h
  simpa using h
theorem opSame (k p c l s : Int) (W : World) : (Op.equalIn 10000 46 (.agg #[.int .i64 k, .int .i64 p, .int .u8 c, .int .i64 l, .int .i64 s]) (.agg #[.int .i64 k, .int .i64 p, .int .u8 c, .int .i64 l, .int .i64 s])).run Tryd.prog W = .ok true W := by
  rw [opEq]
  simp
end Go.Proofs.YtfhghijefjhehaaDoor
