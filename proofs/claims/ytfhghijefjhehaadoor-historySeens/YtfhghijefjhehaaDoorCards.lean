/-
  DERIVED. GIVEN WITH THE SEED: THE CARDS: each row of YtfhghijefjhehaaDoorRows.lean that lists a variable, with what it lists TIED to the program's text (the seventh form; the later family's looks); each row that meets fmt, with fmt's text TOLD by the authors' own Lean function (tested against real Go, not proved from fmt's source: count such statements apart). THE CARD IS WHAT COUNTS. Prove the row's statement (the work); the ties are given (YtfhghijefjhehaaDoorTie.lean); close each card by the builder's one call (the guide's Derived/Test/ToyasCard.lean, 'card_holds'). Laid BY PROGRAM, IN A SANDBOX (cutbox-door.mjs). By AI agents, Wed Nov 11 2026. No macro, syntax, notation, axiom, sorry.
-/
import Derived.Test.YtfhghijefjhehaaDoorRows
import GoSem.ClaimSeven
namespace Go.Proofs.YtfhghijefjhehaaDoor
namespace Rows

/-- THE TIED CARD OF 'jotterlaw14.HistoryChecks'. -/
def historyChecksCard : Claim7 := { stood := { row := historyChecksRow, standIns := [], harness := (true, "5e441c533c624d47f5d046fcb7f60e548ef5d0804ea377c79872c3074c458b96"), looks := true }, kinds := [], alts := [], laidByText := true, laidKinds := [.handle], laidTests := true, laidLooks := .later }
def HistoryChecksCardSaid : Prop := Claim7.holds Tryd.pinned (.plain (OpenSpec.ofChange historyChecksSpec)) historyChecksCard

/-- THE TIED CARD OF 'jotterlaw14.HistorySeens'. -/
def historySeensCard : Claim7 := { stood := { row := historySeensRow, standIns := [], harness := (true, "5e441c533c624d47f5d046fcb7f60e548ef5d0804ea377c79872c3074c458b96"), looks := true }, kinds := [], alts := [], laidByText := true, laidKinds := [.handle], laidTests := true, laidLooks := .later }
def HistorySeensCardSaid : Prop := Claim7.holds Tryd.pinned (.plain (OpenSpec.ofChange historySeensSpec)) historySeensCard

/-- THE SECOND FORM's CARD OF 'jotterlaw14.HistoryChecks'. -/
def historyChecksUptoCard : Claim7 := { stood := { row := historyChecksUptoRow, standIns := [], harness := (true, "5e441c533c624d47f5d046fcb7f60e548ef5d0804ea377c79872c3074c458b96"), looks := true }, kinds := [], alts := [], laidByText := true, laidKinds := [.handle], laidTests := true, laidLooks := .later }
def HistoryChecksUptoCardSaid : Prop := Claim7.holds Tryd.pinned (.plain (OpenSpec.upto historyChecksSpec)) historyChecksUptoCard

/-- THE SECOND FORM's CARD OF 'jotterlaw14.HistorySeens'. -/
def historySeensUptoCard : Claim7 := { stood := { row := historySeensUptoRow, standIns := [], harness := (true, "5e441c533c624d47f5d046fcb7f60e548ef5d0804ea377c79872c3074c458b96"), looks := true }, kinds := [], alts := [], laidByText := true, laidKinds := [.handle], laidTests := true, laidLooks := .later }
def HistorySeensUptoCardSaid : Prop := Claim7.holds Tryd.pinned (.plain (OpenSpec.upto historySeensSpec)) historySeensUptoCard
end Rows
end Go.Proofs.YtfhghijefjhehaaDoor
