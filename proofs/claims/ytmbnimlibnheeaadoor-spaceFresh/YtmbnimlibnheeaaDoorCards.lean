/-
  DERIVED. GIVEN WITH THE SEED: THE CARDS: each row of YtmbnimlibnheeaaDoorRows.lean that lists a variable, with what it lists TIED to the program's text (the seventh form; the later family's looks); each row that meets fmt, with fmt's text TOLD by the authors' own Lean function (tested against real Go, not proved from fmt's source: count such statements apart). THE CARD IS WHAT COUNTS. Prove the row's statement (the work); the ties are given (YtmbnimlibnheeaaDoorTie.lean); close each card by the builder's one call (the guide's Derived/Test/ToyasCard.lean, 'card_holds'). Laid BY PROGRAM, IN A SANDBOX (cutbox-door.mjs). By AI agents, Wed Nov 11 2026. No macro, syntax, notation, axiom, sorry.
-/
import Derived.Test.YtmbnimlibnheeaaDoorRows
import GoSem.ClaimSeven
namespace Go.Proofs.YtmbnimlibnheeaaDoor
namespace Rows

/-- THE TIED CARD OF 'jotterlaw10.SpaceRebuilt'. -/
def spaceRebuiltCard : Claim7 := { stood := { row := spaceRebuiltRow, standIns := [], harness := (true, "104fcb581c1fafd02fce9833097079343ae3b0ef4084540237a54fd4881dab81"), looks := false }, kinds := [], alts := [], laidByText := true, laidKinds := [.data], laidTests := true, laidLooks := .later }
def SpaceRebuiltCardSaid : Prop := Claim7.holds Tryd.pinned (.plain (OpenSpec.ofChange spaceRebuiltSpec)) spaceRebuiltCard

/-- THE TIED CARD OF 'jotterlaw10.SpaceLines'. -/
def spaceLinesCard : Claim7 := { stood := { row := spaceLinesRow, standIns := [], harness := (true, "104fcb581c1fafd02fce9833097079343ae3b0ef4084540237a54fd4881dab81"), looks := false }, kinds := [], alts := [], laidByText := true, laidKinds := [.data], laidTests := true, laidLooks := .later }
def SpaceLinesCardSaid : Prop := Claim7.holds Tryd.pinned (.plain (OpenSpec.ofChange spaceLinesSpec)) spaceLinesCard

/-- THE TIED CARD OF 'jotterlaw10.SpaceLooks'. -/
def spaceLooksCard : Claim7 := { stood := { row := spaceLooksRow, standIns := [], harness := (true, "104fcb581c1fafd02fce9833097079343ae3b0ef4084540237a54fd4881dab81"), looks := false }, kinds := [], alts := [], laidByText := true, laidKinds := [.data], laidTests := true, laidLooks := .later }
def SpaceLooksCardSaid : Prop := Claim7.holds Tryd.pinned (.plain (OpenSpec.ofChange spaceLooksSpec)) spaceLooksCard

/-- THE TIED CARD OF 'jotterlaw10.SpaceFresh'. -/
def spaceFreshCard : Claim7 := { stood := { row := spaceFreshRow, standIns := [], harness := (true, "104fcb581c1fafd02fce9833097079343ae3b0ef4084540237a54fd4881dab81"), looks := false }, kinds := [], alts := [], laidByText := true, laidKinds := [.data], laidTests := true, laidLooks := .later }
def SpaceFreshCardSaid : Prop := Claim7.holds Tryd.pinned (.plain (OpenSpec.ofChange spaceFreshSpec)) spaceFreshCard

/-- THE TIED CARD OF 'jotterlaw10.SpaceMeets'. -/
def spaceMeetsCard : Claim7 := { stood := { row := spaceMeetsRow, standIns := [], harness := (true, "104fcb581c1fafd02fce9833097079343ae3b0ef4084540237a54fd4881dab81"), looks := false }, kinds := [], alts := [], laidByText := true, laidKinds := [.data], laidTests := true, laidLooks := .later }
def SpaceMeetsCardSaid : Prop := Claim7.holds Tryd.pinned (.plain (OpenSpec.ofChange spaceMeetsSpec)) spaceMeetsCard

/-- THE SECOND FORM's CARD OF 'jotterlaw10.SpaceRebuilt'. -/
def spaceRebuiltUptoCard : Claim7 := { stood := { row := spaceRebuiltUptoRow, standIns := [], harness := (true, "104fcb581c1fafd02fce9833097079343ae3b0ef4084540237a54fd4881dab81"), looks := false }, kinds := [], alts := [], laidByText := true, laidKinds := [.data], laidTests := true, laidLooks := .later }
def SpaceRebuiltUptoCardSaid : Prop := Claim7.holds Tryd.pinned (.plain (OpenSpec.upto spaceRebuiltSpec)) spaceRebuiltUptoCard

/-- THE SECOND FORM's CARD OF 'jotterlaw10.SpaceLines'. -/
def spaceLinesUptoCard : Claim7 := { stood := { row := spaceLinesUptoRow, standIns := [], harness := (true, "104fcb581c1fafd02fce9833097079343ae3b0ef4084540237a54fd4881dab81"), looks := false }, kinds := [], alts := [], laidByText := true, laidKinds := [.data], laidTests := true, laidLooks := .later }
def SpaceLinesUptoCardSaid : Prop := Claim7.holds Tryd.pinned (.plain (OpenSpec.upto spaceLinesSpec)) spaceLinesUptoCard

/-- THE SECOND FORM's CARD OF 'jotterlaw10.SpaceLooks'. -/
def spaceLooksUptoCard : Claim7 := { stood := { row := spaceLooksUptoRow, standIns := [], harness := (true, "104fcb581c1fafd02fce9833097079343ae3b0ef4084540237a54fd4881dab81"), looks := false }, kinds := [], alts := [], laidByText := true, laidKinds := [.data], laidTests := true, laidLooks := .later }
def SpaceLooksUptoCardSaid : Prop := Claim7.holds Tryd.pinned (.plain (OpenSpec.upto spaceLooksSpec)) spaceLooksUptoCard

/-- THE SECOND FORM's CARD OF 'jotterlaw10.SpaceFresh'. -/
def spaceFreshUptoCard : Claim7 := { stood := { row := spaceFreshUptoRow, standIns := [], harness := (true, "104fcb581c1fafd02fce9833097079343ae3b0ef4084540237a54fd4881dab81"), looks := false }, kinds := [], alts := [], laidByText := true, laidKinds := [.data], laidTests := true, laidLooks := .later }
def SpaceFreshUptoCardSaid : Prop := Claim7.holds Tryd.pinned (.plain (OpenSpec.upto spaceFreshSpec)) spaceFreshUptoCard

/-- THE SECOND FORM's CARD OF 'jotterlaw10.SpaceMeets'. -/
def spaceMeetsUptoCard : Claim7 := { stood := { row := spaceMeetsUptoRow, standIns := [], harness := (true, "104fcb581c1fafd02fce9833097079343ae3b0ef4084540237a54fd4881dab81"), looks := false }, kinds := [], alts := [], laidByText := true, laidKinds := [.data], laidTests := true, laidLooks := .later }
def SpaceMeetsUptoCardSaid : Prop := Claim7.holds Tryd.pinned (.plain (OpenSpec.upto spaceMeetsSpec)) spaceMeetsUptoCard
end Rows
end Go.Proofs.YtmbnimlibnheeaaDoor
