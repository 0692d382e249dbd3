/-
  DERIVED. GIVEN WITH THE SEED: THE CARDS: each row of YtfhghijefjhehaaGreatDoorRows.lean that lists a variable, with what it lists TIED to the program's text (the seventh form; the later family's looks); each row that meets fmt, with fmt's text TOLD by the authors' own Lean function (tested against real Go, not proved from fmt's source: count such statements apart). THE CARD IS WHAT COUNTS. Prove the row's statement (the work); the ties are given (YtfhghijefjhehaaGreatDoorTie.lean); close each card by the builder's one call (the guide's Derived/Test/ToyasCard.lean, 'card_holds'). Laid BY PROGRAM, IN A SANDBOX (cutbox-door.mjs). By AI agents, Wed Nov 11 2026. No macro, syntax, notation, axiom, sorry.
-/
import Derived.Test.YtfhghijefjhehaaGreatDoorRows
import GoSem.ClaimSeven
namespace Go.Proofs.YtfhghijefjhehaaGreatDoor
namespace Rows

/-- THE TIED CARD OF 'jotterlaw14.HistoryPaths'. -/
def historyPathsCard : Claim7 := { stood := { row := historyPathsRow, standIns := [], harness := (true, "6f299a86bcd23e2e81e998ac23dc989147f10e3c1a7008d712e245fc081f6ae1"), looks := true }, kinds := [], alts := [], goes := true, laidByText := true, laidKinds := [.handle, .data], laidTests := true, laidLooks := .later }
def HistoryPathsCardSaid : Prop := Claim7.holds Tryz.pinned (.plain (OpenSpec.ofChange historyPathsSpec)) historyPathsCard

/-- THE TIED CARD OF 'jotterlaw14.HistoryAheads'. -/
def historyAheadsCard : Claim7 := { stood := { row := historyAheadsRow, standIns := [], harness := (true, "6f299a86bcd23e2e81e998ac23dc989147f10e3c1a7008d712e245fc081f6ae1"), looks := true }, kinds := [], alts := [], goes := true, laidByText := true, laidKinds := [.handle, .data], laidTests := true, laidLooks := .later }
def HistoryAheadsCardSaid : Prop := Claim7.holds Tryz.pinned (.plain (OpenSpec.ofChange historyAheadsSpec)) historyAheadsCard

/-- THE TIED CARD OF 'jotterlaw14.HistoryJudges'. -/
def historyJudgesCard : Claim7 := { stood := { row := historyJudgesRow, standIns := [], harness := (true, "6f299a86bcd23e2e81e998ac23dc989147f10e3c1a7008d712e245fc081f6ae1"), looks := true }, kinds := [], alts := [], goes := true, laidByText := true, laidKinds := [.handle, .data], laidTests := true, laidLooks := .later }
def HistoryJudgesCardSaid : Prop := Claim7.holds Tryz.pinned (.plain (OpenSpec.ofChange historyJudgesSpec)) historyJudgesCard

/-- THE SECOND FORM's CARD OF 'jotterlaw14.HistoryPaths'. -/
def historyPathsUptoCard : Claim7 := { stood := { row := historyPathsUptoRow, standIns := [], harness := (true, "6f299a86bcd23e2e81e998ac23dc989147f10e3c1a7008d712e245fc081f6ae1"), looks := true }, kinds := [], alts := [], goes := true, laidByText := true, laidKinds := [.handle, .data], laidTests := true, laidLooks := .later }
def HistoryPathsUptoCardSaid : Prop := Claim7.holds Tryz.pinned (.plain (OpenSpec.upto historyPathsSpec)) historyPathsUptoCard

/-- THE SECOND FORM's CARD OF 'jotterlaw14.HistoryAheads'. -/
def historyAheadsUptoCard : Claim7 := { stood := { row := historyAheadsUptoRow, standIns := [], harness := (true, "6f299a86bcd23e2e81e998ac23dc989147f10e3c1a7008d712e245fc081f6ae1"), looks := true }, kinds := [], alts := [], goes := true, laidByText := true, laidKinds := [.handle, .data], laidTests := true, laidLooks := .later }
def HistoryAheadsUptoCardSaid : Prop := Claim7.holds Tryz.pinned (.plain (OpenSpec.upto historyAheadsSpec)) historyAheadsUptoCard

/-- THE SECOND FORM's CARD OF 'jotterlaw14.HistoryJudges'. -/
def historyJudgesUptoCard : Claim7 := { stood := { row := historyJudgesUptoRow, standIns := [], harness := (true, "6f299a86bcd23e2e81e998ac23dc989147f10e3c1a7008d712e245fc081f6ae1"), looks := true }, kinds := [], alts := [], goes := true, laidByText := true, laidKinds := [.handle, .data], laidTests := true, laidLooks := .later }
def HistoryJudgesUptoCardSaid : Prop := Claim7.holds Tryz.pinned (.plain (OpenSpec.upto historyJudgesSpec)) historyJudgesUptoCard
end Rows
end Go.Proofs.YtfhghijefjhehaaGreatDoor
