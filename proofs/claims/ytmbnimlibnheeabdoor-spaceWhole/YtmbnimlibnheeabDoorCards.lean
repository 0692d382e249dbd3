/-
  DERIVED. GIVEN WITH THE SEED: THE CARDS: each row of YtmbnimlibnheeabDoorRows.lean that lists a variable, with what it lists TIED to the program's text (the seventh form; the later family's looks); each row that meets fmt, with fmt's text TOLD by the authors' own Lean function (tested against real Go, not proved from fmt's source: count such statements apart). THE CARD IS WHAT COUNTS. Prove the row's statement (the work); the ties are given (YtmbnimlibnheeabDoorTie.lean); close each card by the builder's one call (the guide's Derived/Test/ToyasCard.lean, 'card_holds'). Laid BY PROGRAM, IN A SANDBOX (cutbox-door.mjs). By AI agents, Wed Nov 11 2026. No macro, syntax, notation, axiom, sorry.
-/
import Derived.Test.YtmbnimlibnheeabDoorRows
import GoSem.ClaimSeven
namespace Go.Proofs.YtmbnimlibnheeabDoor
namespace Rows

/-- THE TIED CARD OF 'jotterlaw10.SpaceWhole'. -/
def spaceWholeCard : Claim7 := { stood := { row := spaceWholeRow, standIns := [], harness := (true, "cca0fff5fba45f4e94375a0164898f0bcca8de00a670eed7a708659c34f01a13"), looks := false }, kinds := [], alts := [], laidByText := true, laidKinds := [.data], laidTests := true, laidLooks := .later }
def SpaceWholeCardSaid : Prop := Claim7.holds Tryd.pinned (.plain (OpenSpec.ofChange spaceWholeSpec)) spaceWholeCard

/-- THE TIED CARD OF 'jotterlaw10.SpacePlays'. -/
def spacePlaysCard : Claim7 := { stood := { row := spacePlaysRow, standIns := [], harness := (true, "cca0fff5fba45f4e94375a0164898f0bcca8de00a670eed7a708659c34f01a13"), looks := false }, kinds := [], alts := [], laidByText := true, laidKinds := [.data], laidTests := true, laidLooks := .later }
def SpacePlaysCardSaid : Prop := Claim7.holds Tryd.pinned (.plain (OpenSpec.ofChange spacePlaysSpec)) spacePlaysCard

/-- THE SECOND FORM's CARD OF 'jotterlaw10.SpaceWhole'. -/
def spaceWholeUptoCard : Claim7 := { stood := { row := spaceWholeUptoRow, standIns := [], harness := (true, "cca0fff5fba45f4e94375a0164898f0bcca8de00a670eed7a708659c34f01a13"), looks := false }, kinds := [], alts := [], laidByText := true, laidKinds := [.data], laidTests := true, laidLooks := .later }
def SpaceWholeUptoCardSaid : Prop := Claim7.holds Tryd.pinned (.plain (OpenSpec.upto spaceWholeSpec)) spaceWholeUptoCard

/-- THE SECOND FORM's CARD OF 'jotterlaw10.SpacePlays'. -/
def spacePlaysUptoCard : Claim7 := { stood := { row := spacePlaysUptoRow, standIns := [], harness := (true, "cca0fff5fba45f4e94375a0164898f0bcca8de00a670eed7a708659c34f01a13"), looks := false }, kinds := [], alts := [], laidByText := true, laidKinds := [.data], laidTests := true, laidLooks := .later }
def SpacePlaysUptoCardSaid : Prop := Claim7.holds Tryd.pinned (.plain (OpenSpec.upto spacePlaysSpec)) spacePlaysUptoCard
end Rows
end Go.Proofs.YtmbnimlibnheeabDoor
