/-
  DocParts: both ways.
-/
import Derived.Test.YtbgpmekjcepmaaaDParts2
namespace Go.Proofs.Ytbgpmekjcepmaaa
open Go.RowKit
set_option linter.unusedVariables false

theorem docParts_any (sa : Option Addr) (n c : Nat) (ao : Option Addr) (no co : Nat) (S : Nat → Bool × Int × Int) (os0 : List OpE) (w : World) (hE : IsS w sa n c S) (hk : OkS S) (hO : IsO w ao no co os0) (hK : OkO os0) :
    Calls Try.prog 7 #[.slice sa n c, .slice ao no co] w fun e w' => e = .returned (.bool true) ∧ Below w.heap.size w w' := by
  by_cases h : n ≤ 60
  · exact parts_in sa n c ao no co S os0 w hE hk hO hK h
  · exact parts_cut sa n c ao no co S os0 w hE hk hO hK (by omega)

end Go.Proofs.Ytbgpmekjcepmaaa
