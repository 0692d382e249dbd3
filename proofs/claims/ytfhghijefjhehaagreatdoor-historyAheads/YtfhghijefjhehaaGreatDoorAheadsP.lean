/-
  HistoryAheads: the card.
-/
import Derived.Test.YtfhghijefjhehaaGreatDoorAheadsR
namespace Go.Proofs.YtfhghijefjhehaaGreatDoor
open Go.ChangeShapes Go.WideShapes Go.ChangeAt Go.RowKit Go.Deep Go.Joins
set_option linter.unusedVariables false

/-- A tied card whose program has functions that start goroutines: what is asked besides is that the card says so. -/
theorem tied_goes {p : Pinned} {s : OpenSpec} {k : StoodClaim8} {kinds : List LaidKind} {tests : Bool} (h : Claim7.holdsNew p (.plain s) { stood := k, kinds := [], laidByText := true, laidKinds := kinds, laidTests := tests, laidLooks := .later }) :
    Claim7.holdsNew p (.plain s) { stood := k, kinds := [], alts := [], goes := true, laidByText := true, laidKinds := kinds, laidTests := tests, laidLooks := .later } := h

theorem historyAheads_sixth (r : OpenClaim) : Claim7.isSixth { stood := { row := r, standIns := [], harness := Rows.historyAheadsCard.stood.harness, looks := true }, kinds := [] } = false := rfl

theorem historyAheads_new : Claim7.holdsNew Tryz.pinned (.plain (OpenSpec.ofChange Rows.historyAheadsSpec)) Rows.historyAheadsCard :=
  tied_goes (Claim7.tied_new_at .later [.handle, .data] true (Claim7.new_of_sixth historyAheads_row Rows.historyAheadsCard.stood.harness true rfl ⟨rfl, rfl⟩ (by kernel_rfl) (historyAheads_sixth _) historyAheads_plain) (by kernel_rfl))

theorem historyAheads_holds : Rows.HistoryAheadsCardSaid :=
  ⟨historyAheads_new, fun _ h => (by cases h), historyAheads_row_tie, (fun h => by cases h), (by kernel_rfl)⟩
#print axioms historyAheads_holds
end Go.Proofs.YtfhghijefjhehaaGreatDoor
