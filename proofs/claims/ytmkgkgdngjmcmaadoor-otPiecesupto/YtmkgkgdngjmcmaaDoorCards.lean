/-
  DERIVED. GIVEN WITH THE SEED: THE CARDS: each row of YtmkgkgdngjmcmaaDoorRows.lean that lists a variable, with what it lists TIED to the program's text (the seventh form; the later family's looks); each row that meets fmt, with fmt's text TOLD by the authors' own Lean function (tested against real Go, not proved from fmt's source: count such statements apart). THE CARD IS WHAT COUNTS. Prove the row's statement (the work); the ties are given (YtmkgkgdngjmcmaaDoorTie.lean); close each card by the builder's one call (the guide's Derived/Test/ToyasCard.lean, 'card_holds'). Laid BY PROGRAM, IN A SANDBOX (cutbox-door.mjs). By AI agents, Wed Nov 11 2026. No macro, syntax, notation, axiom, sorry.
-/
import Derived.Test.YtmkgkgdngjmcmaaDoorRows
import GoSem.ClaimSeven
namespace Go.Proofs.YtmkgkgdngjmcmaaDoor
namespace Rows

/-- THE TIED CARD OF 'jotterlaw05.OtTags'. -/
def otTagsCard : Claim7 := { stood := { row := otTagsRow, standIns := [], harness := (true, "eff8364ee243fcd37431ea06cd11ef71390770826aece7bc0cbc818069727ec7"), looks := false }, kinds := [], alts := [], laidByText := true, laidKinds := [.data], laidTests := true, laidLooks := .later }
def OtTagsCardSaid : Prop := Claim7.holds Tryd.pinned (.plain (OpenSpec.ofChange otTagsSpec)) otTagsCard

/-- THE TIED CARD OF 'jotterlaw05.OtShifts'. -/
def otShiftsCard : Claim7 := { stood := { row := otShiftsRow, standIns := [], harness := (true, "eff8364ee243fcd37431ea06cd11ef71390770826aece7bc0cbc818069727ec7"), looks := false }, kinds := [], alts := [], laidByText := true, laidKinds := [.data], laidTests := true, laidLooks := .later }
def OtShiftsCardSaid : Prop := Claim7.holds Tryd.pinned (.plain (OpenSpec.ofChange otShiftsSpec)) otShiftsCard

/-- THE TIED CARD OF 'jotterlaw05.OtLimit'. -/
def otLimitCard : Claim7 := { stood := { row := otLimitRow, standIns := [], harness := (true, "eff8364ee243fcd37431ea06cd11ef71390770826aece7bc0cbc818069727ec7"), looks := false }, kinds := [], alts := [], laidByText := true, laidKinds := [.data], laidTests := true, laidLooks := .later }
def OtLimitCardSaid : Prop := Claim7.holds Tryd.pinned (.plain (OpenSpec.ofChange otLimitSpec)) otLimitCard

/-- THE TIED CARD OF 'jotterlaw05.OtPieces'. -/
def otPiecesCard : Claim7 := { stood := { row := otPiecesRow, standIns := [], harness := (true, "eff8364ee243fcd37431ea06cd11ef71390770826aece7bc0cbc818069727ec7"), looks := false }, kinds := [], alts := [], laidByText := true, laidKinds := [.data], laidTests := true, laidLooks := .later }
def OtPiecesCardSaid : Prop := Claim7.holds Tryd.pinned (.plain (OpenSpec.ofChange otPiecesSpec)) otPiecesCard

/-- THE TIED CARD OF 'jotterlaw05.OtNops'. -/
def otNopsCard : Claim7 := { stood := { row := otNopsRow, standIns := [], harness := (true, "eff8364ee243fcd37431ea06cd11ef71390770826aece7bc0cbc818069727ec7"), looks := false }, kinds := [], alts := [], laidByText := true, laidKinds := [.data], laidTests := true, laidLooks := .later }
def OtNopsCardSaid : Prop := Claim7.holds Tryd.pinned (.plain (OpenSpec.ofChange otNopsSpec)) otNopsCard

/-- THE TIED CARD OF 'jotterlaw05.OtCrosses'. -/
def otCrossesCard : Claim7 := { stood := { row := otCrossesRow, standIns := [], harness := (true, "eff8364ee243fcd37431ea06cd11ef71390770826aece7bc0cbc818069727ec7"), looks := false }, kinds := [], alts := [], laidByText := true, laidKinds := [.data], laidTests := true, laidLooks := .later }
def OtCrossesCardSaid : Prop := Claim7.holds Tryd.pinned (.plain (OpenSpec.ofChange otCrossesSpec)) otCrossesCard

/-- THE SECOND FORM's CARD OF 'jotterlaw05.OtTags'. -/
def otTagsUptoCard : Claim7 := { stood := { row := otTagsUptoRow, standIns := [], harness := (true, "eff8364ee243fcd37431ea06cd11ef71390770826aece7bc0cbc818069727ec7"), looks := false }, kinds := [], alts := [], laidByText := true, laidKinds := [.data], laidTests := true, laidLooks := .later }
def OtTagsUptoCardSaid : Prop := Claim7.holds Tryd.pinned (.plain (OpenSpec.upto otTagsSpec)) otTagsUptoCard

/-- THE SECOND FORM's CARD OF 'jotterlaw05.OtShifts'. -/
def otShiftsUptoCard : Claim7 := { stood := { row := otShiftsUptoRow, standIns := [], harness := (true, "eff8364ee243fcd37431ea06cd11ef71390770826aece7bc0cbc818069727ec7"), looks := false }, kinds := [], alts := [], laidByText := true, laidKinds := [.data], laidTests := true, laidLooks := .later }
def OtShiftsUptoCardSaid : Prop := Claim7.holds Tryd.pinned (.plain (OpenSpec.upto otShiftsSpec)) otShiftsUptoCard

/-- THE SECOND FORM's CARD OF 'jotterlaw05.OtLimit'. -/
def otLimitUptoCard : Claim7 := { stood := { row := otLimitUptoRow, standIns := [], harness := (true, "eff8364ee243fcd37431ea06cd11ef71390770826aece7bc0cbc818069727ec7"), looks := false }, kinds := [], alts := [], laidByText := true, laidKinds := [.data], laidTests := true, laidLooks := .later }
def OtLimitUptoCardSaid : Prop := Claim7.holds Tryd.pinned (.plain (OpenSpec.upto otLimitSpec)) otLimitUptoCard

/-- THE SECOND FORM's CARD OF 'jotterlaw05.OtPieces'. -/
def otPiecesUptoCard : Claim7 := { stood := { row := otPiecesUptoRow, standIns := [], harness := (true, "eff8364ee243fcd37431ea06cd11ef71390770826aece7bc0cbc818069727ec7"), looks := false }, kinds := [], alts := [], laidByText := true, laidKinds := [.data], laidTests := true, laidLooks := .later }
def OtPiecesUptoCardSaid : Prop := Claim7.holds Tryd.pinned (.plain (OpenSpec.upto otPiecesSpec)) otPiecesUptoCard

/-- THE SECOND FORM's CARD OF 'jotterlaw05.OtNops'. -/
def otNopsUptoCard : Claim7 := { stood := { row := otNopsUptoRow, standIns := [], harness := (true, "eff8364ee243fcd37431ea06cd11ef71390770826aece7bc0cbc818069727ec7"), looks := false }, kinds := [], alts := [], laidByText := true, laidKinds := [.data], laidTests := true, laidLooks := .later }
def OtNopsUptoCardSaid : Prop := Claim7.holds Tryd.pinned (.plain (OpenSpec.upto otNopsSpec)) otNopsUptoCard

/-- THE SECOND FORM's CARD OF 'jotterlaw05.OtCrosses'. -/
def otCrossesUptoCard : Claim7 := { stood := { row := otCrossesUptoRow, standIns := [], harness := (true, "eff8364ee243fcd37431ea06cd11ef71390770826aece7bc0cbc818069727ec7"), looks := false }, kinds := [], alts := [], laidByText := true, laidKinds := [.data], laidTests := true, laidLooks := .later }
def OtCrossesUptoCardSaid : Prop := Claim7.holds Tryd.pinned (.plain (OpenSpec.upto otCrossesSpec)) otCrossesUptoCard
end Rows
end Go.Proofs.YtmkgkgdngjmcmaaDoor
