/-
  DERIVED. GIVEN WITH THE SEED: THE CARDS: each row of YtkidhfednipdcabDoorRows.lean that lists a variable, with what it lists TIED to the program's text (the seventh form; the later family's looks); each row that meets fmt, with fmt's text TOLD by the authors' own Lean function (tested against real Go, not proved from fmt's source: count such statements apart). THE CARD IS WHAT COUNTS. Prove the row's statement (the work); the ties are given (YtkidhfednipdcabDoorTie.lean); close each card by the builder's one call (the guide's Derived/Test/ToyasCard.lean, 'card_holds'). Laid BY PROGRAM, IN A SANDBOX (cutbox-door.mjs). By AI agents, Wed Nov 11 2026. No macro, syntax, notation, axiom, sorry.
-/
import Derived.Test.YtkidhfednipdcabDoorRows
import GoSem.ClaimSeven
namespace Go.Proofs.YtkidhfednipdcabDoor
namespace Rows

/-- THE TIED CARD OF 'jotterlaw01.OctetStays'. -/
def octetStaysCard : Claim7 := { stood := { row := octetStaysRow, standIns := [], harness := (true, "d289d7259f448ee29a4d3eba344a548abe16eff855bcabbbb5aea8bf90dc42de"), looks := true }, kinds := [], alts := [], laidByText := true, laidKinds := [.handle], laidTests := true, laidLooks := .later }
def OctetStaysCardSaid : Prop := Claim7.holds Tryd.pinned (.plain (OpenSpec.ofChange octetStaysSpec)) octetStaysCard

/-- THE TIED CARD OF 'jotterlaw01.OctetBack'. -/
def octetBackCard : Claim7 := { stood := { row := octetBackRow, standIns := [], harness := (true, "d289d7259f448ee29a4d3eba344a548abe16eff855bcabbbb5aea8bf90dc42de"), looks := true }, kinds := [], alts := [], laidByText := true, laidKinds := [.handle], laidTests := true, laidLooks := .later }
def OctetBackCardSaid : Prop := Claim7.holds Tryd.pinned (.plain (OpenSpec.ofChange octetBackSpec)) octetBackCard

/-- THE TIED CARD OF 'jotterlaw01.OctetReads'. -/
def octetReadsCard : Claim7 := { stood := { row := octetReadsRow, standIns := [], harness := (true, "d289d7259f448ee29a4d3eba344a548abe16eff855bcabbbb5aea8bf90dc42de"), looks := true }, kinds := [], alts := [], laidByText := true, laidKinds := [.handle], laidTests := true, laidLooks := .later }
def OctetReadsCardSaid : Prop := Claim7.holds Tryd.pinned (.plain (OpenSpec.ofChange octetReadsSpec)) octetReadsCard

/-- THE SECOND FORM's CARD OF 'jotterlaw01.OctetStays'. -/
def octetStaysUptoCard : Claim7 := { stood := { row := octetStaysUptoRow, standIns := [], harness := (true, "d289d7259f448ee29a4d3eba344a548abe16eff855bcabbbb5aea8bf90dc42de"), looks := true }, kinds := [], alts := [], laidByText := true, laidKinds := [.handle], laidTests := true, laidLooks := .later }
def OctetStaysUptoCardSaid : Prop := Claim7.holds Tryd.pinned (.plain (OpenSpec.upto octetStaysSpec)) octetStaysUptoCard

/-- THE SECOND FORM's CARD OF 'jotterlaw01.OctetBack'. -/
def octetBackUptoCard : Claim7 := { stood := { row := octetBackUptoRow, standIns := [], harness := (true, "d289d7259f448ee29a4d3eba344a548abe16eff855bcabbbb5aea8bf90dc42de"), looks := true }, kinds := [], alts := [], laidByText := true, laidKinds := [.handle], laidTests := true, laidLooks := .later }
def OctetBackUptoCardSaid : Prop := Claim7.holds Tryd.pinned (.plain (OpenSpec.upto octetBackSpec)) octetBackUptoCard

/-- THE SECOND FORM's CARD OF 'jotterlaw01.OctetReads'. -/
def octetReadsUptoCard : Claim7 := { stood := { row := octetReadsUptoRow, standIns := [], harness := (true, "d289d7259f448ee29a4d3eba344a548abe16eff855bcabbbb5aea8bf90dc42de"), looks := true }, kinds := [], alts := [], laidByText := true, laidKinds := [.handle], laidTests := true, laidLooks := .later }
def OctetReadsUptoCardSaid : Prop := Claim7.holds Tryd.pinned (.plain (OpenSpec.upto octetReadsSpec)) octetReadsUptoCard
end Rows
end Go.Proofs.YtkidhfednipdcabDoor
