/-
  DERIVED. GIVEN WITH THE SEED: THE CARDS: each row of YtibnlfdnnlbeeaaDoorRows.lean that lists a variable, with what it lists TIED to the program's text (the seventh form; the later family's looks); each row that meets fmt, with fmt's text TOLD by the authors' own Lean function (tested against real Go, not proved from fmt's source: count such statements apart). THE CARD IS WHAT COUNTS. Prove the row's statement (the work); the ties are given (YtibnlfdnnlbeeaaDoorTie.lean); close each card by the builder's one call (the guide's Derived/Test/ToyasCard.lean, 'card_holds'). Laid BY PROGRAM, IN A SANDBOX (cutbox-door.mjs). By AI agents, Wed Nov 11 2026. No macro, syntax, notation, axiom, sorry.
-/
import Derived.Test.YtibnlfdnnlbeeaaDoorRows
import GoSem.ClaimSeven
namespace Go.Proofs.YtibnlfdnnlbeeaaDoor
namespace Rows

/-- THE TIED CARD OF 'jotterlaw06.WireItems'. -/
def wireItemsCard : Claim7 := { stood := { row := wireItemsRow, standIns := [], harness := (true, "f06a51e72c3132322bbe87d73114f88431f811cf4f317bc6f79fca5f3834b8d6"), looks := true }, kinds := [], alts := [], laidByText := true, laidKinds := [.handle, .data], laidTests := true, laidLooks := .later }
def WireItemsCardSaid : Prop := Claim7.holds Tryd.pinned (.plain (OpenSpec.ofChange wireItemsSpec)) wireItemsCard

/-- THE TIED CARD OF 'jotterlaw06.WireWrites'. -/
def wireWritesCard : Claim7 := { stood := { row := wireWritesRow, standIns := [], harness := (true, "f06a51e72c3132322bbe87d73114f88431f811cf4f317bc6f79fca5f3834b8d6"), looks := true }, kinds := [], alts := [], laidByText := true, laidKinds := [.handle, .data], laidTests := true, laidLooks := .later }
def WireWritesCardSaid : Prop := Claim7.holds Tryd.pinned (.plain (OpenSpec.ofChange wireWritesSpec)) wireWritesCard

/-- THE TIED CARD OF 'jotterlaw06.WireReads'. -/
def wireReadsCard : Claim7 := { stood := { row := wireReadsRow, standIns := [], harness := (true, "f06a51e72c3132322bbe87d73114f88431f811cf4f317bc6f79fca5f3834b8d6"), looks := true }, kinds := [], alts := [], laidByText := true, laidKinds := [.handle, .data], laidTests := true, laidLooks := .later }
def WireReadsCardSaid : Prop := Claim7.holds Tryd.pinned (.plain (OpenSpec.ofChange wireReadsSpec)) wireReadsCard

/-- THE SECOND FORM's CARD OF 'jotterlaw06.WireItems'. -/
def wireItemsUptoCard : Claim7 := { stood := { row := wireItemsUptoRow, standIns := [], harness := (true, "f06a51e72c3132322bbe87d73114f88431f811cf4f317bc6f79fca5f3834b8d6"), looks := true }, kinds := [], alts := [], laidByText := true, laidKinds := [.handle, .data], laidTests := true, laidLooks := .later }
def WireItemsUptoCardSaid : Prop := Claim7.holds Tryd.pinned (.plain (OpenSpec.upto wireItemsSpec)) wireItemsUptoCard

/-- THE SECOND FORM's CARD OF 'jotterlaw06.WireWrites'. -/
def wireWritesUptoCard : Claim7 := { stood := { row := wireWritesUptoRow, standIns := [], harness := (true, "f06a51e72c3132322bbe87d73114f88431f811cf4f317bc6f79fca5f3834b8d6"), looks := true }, kinds := [], alts := [], laidByText := true, laidKinds := [.handle, .data], laidTests := true, laidLooks := .later }
def WireWritesUptoCardSaid : Prop := Claim7.holds Tryd.pinned (.plain (OpenSpec.upto wireWritesSpec)) wireWritesUptoCard

/-- THE SECOND FORM's CARD OF 'jotterlaw06.WireReads'. -/
def wireReadsUptoCard : Claim7 := { stood := { row := wireReadsUptoRow, standIns := [], harness := (true, "f06a51e72c3132322bbe87d73114f88431f811cf4f317bc6f79fca5f3834b8d6"), looks := true }, kinds := [], alts := [], laidByText := true, laidKinds := [.handle, .data], laidTests := true, laidLooks := .later }
def WireReadsUptoCardSaid : Prop := Claim7.holds Tryd.pinned (.plain (OpenSpec.upto wireReadsSpec)) wireReadsUptoCard
end Rows
end Go.Proofs.YtibnlfdnnlbeeaaDoor
