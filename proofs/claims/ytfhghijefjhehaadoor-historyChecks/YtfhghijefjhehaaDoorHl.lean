/-
  ownAmong counts what Hc asks.
-/
import Derived.Test.YtfhghijefjhehaaDoorHf
namespace Go.Proofs.YtfhghijefjhehaaDoor
set_option linter.unusedVariables false

theorem lgAt_filter (log : List Ed) (c : Int) (m : Nat) : ∀ n, m ≤ n → (lgAt log n c).filter (fun j => decide (j < m)) = lgAt log m c
  | 0, h => by
    obtain rfl : m = 0 := by omega
    rfl
  | n + 1, h => by
    by_cases e : m = n + 1
    · subst e
      exact List.filter_eq_self.2 fun j hj => decide_eq_true (lgAt_lt hj).1
    · have ih := lgAt_filter log c m n (by omega)
      simp only [lgAt, List.filter_append, ih]
      cases log[n]? with
      | none => simp
      | some x =>
        by_cases hc : x.o.cl = c
        · have : ¬ n < m := by omega
          simp [hc, this]
        · simp [hc]
theorem ownN_eq (log : List Ed) (c : Int) (m : Nat) (h : m ≤ log.length) : ownN (log := log) m c = (lgAt log m c).length := by
  unfold ownN
  rw [lgAt_filter log c m log.length h]
end Go.Proofs.YtfhghijefjhehaaDoor
