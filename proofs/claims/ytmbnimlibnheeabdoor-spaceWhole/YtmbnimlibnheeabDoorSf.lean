/-
  The law filled.
-/
import Derived.Test.YtmbnimlibnheeabDoorSe
namespace Go.Proofs.YtmbnimlibnheeabDoor
open Go.RowKit
set_option linter.unusedVariables false

theorem setO_twice (F : Nat → Thg) (i : Nat) (G H : Thg) : setO (setO F i G) i H = setO F i H := by
  funext j
  unfold setO
  split <;> rfl

end Go.Proofs.YtmbnimlibnheeabDoor
