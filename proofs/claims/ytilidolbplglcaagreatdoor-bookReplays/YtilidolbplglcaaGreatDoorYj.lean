/-
  BookReplays: the card.
-/
import Derived.Test.YtilidolbplglcaaGreatDoorYi
namespace Go.Proofs.YtilidolbplglcaaGreatDoor
open Go.ChangeShapes Go.WideShapes Go.ChangeAt Go.RowKit Go.Deep Go.Joins
set_option linter.unusedVariables false

theorem bookReplays_sixth (r : OpenClaim) : Claim7.isSixth { stood := { row := r, standIns := [], harness := Rows.bookReplaysCard.stood.harness, looks := true }, kinds := [] } = false := rfl

theorem bookReplays_new : Claim7.holdsNew Tryz.pinned (.plain (OpenSpec.ofChange Rows.bookReplaysSpec)) Rows.bookReplaysCard :=
  Claim7.tied_new_at .later [.handle, .data] true (Claim7.new_of_sixth bookReplays_row Rows.bookReplaysCard.stood.harness true rfl ⟨rfl, rfl⟩ (by kernel_rfl) (bookReplays_sixth _) bookReplays_plain) (by kernel_rfl)

theorem bookReplays_holds : Rows.BookReplaysCardSaid :=
  ⟨bookReplays_new, fun _ h => (by cases h), bookReplays_row_tie, (fun h => by cases h), (by kernel_rfl)⟩
#print axioms bookReplays_holds
end Go.Proofs.YtilidolbplglcaaGreatDoor
