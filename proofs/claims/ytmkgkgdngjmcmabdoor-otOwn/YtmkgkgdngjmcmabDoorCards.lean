/-
  DERIVED. GIVEN WITH THE SEED: THE CARDS: each row of YtmkgkgdngjmcmabDoorRows.lean that lists a variable, with what it lists TIED to the program's text (the seventh form; the later family's looks); each row that meets fmt, with fmt's text TOLD by the authors' own Lean function (tested against real Go, not proved from fmt's source: count such statements apart). THE CARD IS WHAT COUNTS. Prove the row's statement (the work); the ties are given (YtmkgkgdngjmcmabDoorTie.lean); close each card by the builder's one call (the guide's Derived/Test/ToyasCard.lean, 'card_holds'). Laid BY PROGRAM, IN A SANDBOX (cutbox-door.mjs). By AI agents, Wed Nov 11 2026. No macro, syntax, notation, axiom, sorry.
-/
import Derived.Test.YtmkgkgdngjmcmabDoorRows
import GoSem.ClaimSeven
namespace Go.Proofs.YtmkgkgdngjmcmabDoor
namespace Rows

/-- THE TIED CARD OF 'jotterlaw05.OtOwn'. -/
def otOwnCard : Claim7 := { stood := { row := otOwnRow, standIns := [], harness := (true, "70cc172c0eb9dd4186c2150242bc3b5ed076ab71fede52efe6a25a51d8251757"), looks := false }, kinds := [], alts := [], laidByText := true, laidKinds := [.data], laidTests := true, laidLooks := .later }
def OtOwnCardSaid : Prop := Claim7.holds Tryd.pinned (.plain (OpenSpec.ofChange otOwnSpec)) otOwnCard

/-- THE TIED CARD OF 'jotterlaw05.OtThroughs'. -/
def otThroughsCard : Claim7 := { stood := { row := otThroughsRow, standIns := [], harness := (true, "70cc172c0eb9dd4186c2150242bc3b5ed076ab71fede52efe6a25a51d8251757"), looks := false }, kinds := [], alts := [], laidByText := true, laidKinds := [.data], laidTests := true, laidLooks := .later }
def OtThroughsCardSaid : Prop := Claim7.holds Tryd.pinned (.plain (OpenSpec.ofChange otThroughsSpec)) otThroughsCard

/-- THE TIED CARD OF 'jotterlaw05.OtWeaves'. -/
def otWeavesCard : Claim7 := { stood := { row := otWeavesRow, standIns := [], harness := (true, "70cc172c0eb9dd4186c2150242bc3b5ed076ab71fede52efe6a25a51d8251757"), looks := false }, kinds := [], alts := [], laidByText := true, laidKinds := [.data], laidTests := true, laidLooks := .later }
def OtWeavesCardSaid : Prop := Claim7.holds Tryd.pinned (.plain (OpenSpec.ofChange otWeavesSpec)) otWeavesCard

/-- THE TIED CARD OF 'jotterlaw05.OtSquare'. -/
def otSquareCard : Claim7 := { stood := { row := otSquareRow, standIns := [], harness := (true, "70cc172c0eb9dd4186c2150242bc3b5ed076ab71fede52efe6a25a51d8251757"), looks := false }, kinds := [], alts := [], laidByText := true, laidKinds := [.data], laidTests := true, laidLooks := .later }
def OtSquareCardSaid : Prop := Claim7.holds Tryd.pinned (.plain (OpenSpec.ofChange otSquareSpec)) otSquareCard

/-- THE TIED CARD OF 'jotterlaw05.OtMeans'. -/
def otMeansCard : Claim7 := { stood := { row := otMeansRow, standIns := [], harness := (true, "70cc172c0eb9dd4186c2150242bc3b5ed076ab71fede52efe6a25a51d8251757"), looks := false }, kinds := [], alts := [], laidByText := true, laidKinds := [.data], laidTests := true, laidLooks := .later }
def OtMeansCardSaid : Prop := Claim7.holds Tryd.pinned (.plain (OpenSpec.ofChange otMeansSpec)) otMeansCard

/-- THE SECOND FORM's CARD OF 'jotterlaw05.OtOwn'. -/
def otOwnUptoCard : Claim7 := { stood := { row := otOwnUptoRow, standIns := [], harness := (true, "70cc172c0eb9dd4186c2150242bc3b5ed076ab71fede52efe6a25a51d8251757"), looks := false }, kinds := [], alts := [], laidByText := true, laidKinds := [.data], laidTests := true, laidLooks := .later }
def OtOwnUptoCardSaid : Prop := Claim7.holds Tryd.pinned (.plain (OpenSpec.upto otOwnSpec)) otOwnUptoCard

/-- THE SECOND FORM's CARD OF 'jotterlaw05.OtThroughs'. -/
def otThroughsUptoCard : Claim7 := { stood := { row := otThroughsUptoRow, standIns := [], harness := (true, "70cc172c0eb9dd4186c2150242bc3b5ed076ab71fede52efe6a25a51d8251757"), looks := false }, kinds := [], alts := [], laidByText := true, laidKinds := [.data], laidTests := true, laidLooks := .later }
def OtThroughsUptoCardSaid : Prop := Claim7.holds Tryd.pinned (.plain (OpenSpec.upto otThroughsSpec)) otThroughsUptoCard

/-- THE SECOND FORM's CARD OF 'jotterlaw05.OtWeaves'. -/
def otWeavesUptoCard : Claim7 := { stood := { row := otWeavesUptoRow, standIns := [], harness := (true, "70cc172c0eb9dd4186c2150242bc3b5ed076ab71fede52efe6a25a51d8251757"), looks := false }, kinds := [], alts := [], laidByText := true, laidKinds := [.data], laidTests := true, laidLooks := .later }
def OtWeavesUptoCardSaid : Prop := Claim7.holds Tryd.pinned (.plain (OpenSpec.upto otWeavesSpec)) otWeavesUptoCard

/-- THE SECOND FORM's CARD OF 'jotterlaw05.OtSquare'. -/
def otSquareUptoCard : Claim7 := { stood := { row := otSquareUptoRow, standIns := [], harness := (true, "70cc172c0eb9dd4186c2150242bc3b5ed076ab71fede52efe6a25a51d8251757"), looks := false }, kinds := [], alts := [], laidByText := true, laidKinds := [.data], laidTests := true, laidLooks := .later }
def OtSquareUptoCardSaid : Prop := Claim7.holds Tryd.pinned (.plain (OpenSpec.upto otSquareSpec)) otSquareUptoCard

/-- THE SECOND FORM's CARD OF 'jotterlaw05.OtMeans'. -/
def otMeansUptoCard : Claim7 := { stood := { row := otMeansUptoRow, standIns := [], harness := (true, "70cc172c0eb9dd4186c2150242bc3b5ed076ab71fede52efe6a25a51d8251757"), looks := false }, kinds := [], alts := [], laidByText := true, laidKinds := [.data], laidTests := true, laidLooks := .later }
def OtMeansUptoCardSaid : Prop := Claim7.holds Tryd.pinned (.plain (OpenSpec.upto otMeansSpec)) otMeansUptoCard
end Rows
end Go.Proofs.YtmkgkgdngjmcmabDoor
