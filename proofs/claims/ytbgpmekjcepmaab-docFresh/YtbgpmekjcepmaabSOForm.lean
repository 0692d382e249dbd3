/-
  Rows of operations, by their number.
-/
import Derived.Test.YtbgpmekjcepmaabRowsO
namespace Go.Proofs.Ytbgpmekjcepmaab
open Go.RowKit
set_option linter.unusedVariables false

theorem SO.formN {w : World} {β : Option Nat} {v : Value} {os : List OpE} {n : Nat} (h : SO w β v os) (hn : os.length = n) : ∃ a c, v = .slice a n c ∧ IsO w a n c os := by
  subst hn
  exact h.form

end Go.Proofs.Ytbgpmekjcepmaab
