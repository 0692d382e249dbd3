/-
  DocLine: both ways.
-/
import Derived.Test.YtbgpmekjcepmaaaLine2
namespace Go.Proofs.Ytbgpmekjcepmaaa
open Go.RowKit
set_option linter.unusedVariables false

theorem docLine_any (sa : Option Addr) (n c : Nat) (S : Nat → Bool × Int × Int) (w : World) (hE : IsS w sa n c S) (hk : OkS S) :
    Calls Try.prog 8 #[.slice sa n c] w fun e w' => e = .returned (.bool true) ∧ Below w.heap.size w w' := by
  by_cases h : n ≤ 60
  · exact line_in sa n c S w hE hk h
  · exact line_cut sa n c S w hE hk (by omega)

end Go.Proofs.Ytbgpmekjcepmaaa
