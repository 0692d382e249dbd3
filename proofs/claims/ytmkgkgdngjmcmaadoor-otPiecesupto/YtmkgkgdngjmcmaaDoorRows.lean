/-
  NARROWER THAN 'FOR EVERY INPUT', by the rows' own cells (each row's printed sentence says how): OtTags: laid · OtShifts: laid · OtLimit: laid · OtPieces: laid · OtNops: laid · OtCrosses: laid.
  DERIVED. THE GIVEN ROWS OF THIS SEAT. 6 by the template 'for every input the law returns true; each argument reads behind the call as it read before'; 0 by the template 'total and deterministic' (their statements: YtmkgkgdngjmcmaaDoorTotals.lean).
  GIVEN WITH THE SEED: the statements are not yours to turn. If you find one false, say at which input.
  Laid BY PROGRAM, IN A SANDBOX (cutbox-rows.mjs): the forced cells as the released guide's own fill.sh prints them over the translation 756c5aea008c0b54… (all of the seat's roots in one cut). By AI agents, Wed Nov 11 2026. No macro, syntax, notation, axiom, sorry.
-/
import Derived.Test.YtmkgkgdngjmcmaaDoorChecked
import GoSem.Claim
import GoSem.ClaimJoined
import GoSem.ClaimMapViews
import Derived.JoinedTies
import Derived.KernelRfl
namespace Go.Proofs.YtmkgkgdngjmcmaaDoor
/- THE CELL 'sum', in the pinned program and in every row, IS THE sha256 OF THE DUMP (.gsa) THAT YtmkgkgdngjmcmaaDoorProg.lean LOADS. Nothing in Lean hashes anything: it is a label: what it is worth is what the hold of that sum in a sandbox is worth. -/
noncomputable def Tryd.pinned : Pinned := { name := "ytmkgkgdngjmcmaadoor", sum := "756c5aea008c0b54ba7679285d359d53b068730a67e5493d2fa07b2dc6ed28f8", checked := Tryd.checked }
namespace Rows
def none {H : Type} : Left H := { results := [], args := [] }

/- WHAT THE LISTED PACKAGE-LEVEL VARIABLES READ AS WHEN THE CALL BEGINS. Each datum BY PROGRAM (the guide's laid-datum.mjs) off the statement by which the dump's own 'gosem.cut.vars' lays the variable. In a bare row this is a premise. The card (YtmkgkgdngjmcmaaDoorCards.lean) ties it to the program's text. -/
def laid_jotter_ot_rules {H : Type} : DataW H := .agg [.agg [.lit (.int .i64 0), .lit (.int .i64 0), .lit (.int .i64 0)], .agg [.lit (.int .i64 0), .lit (.int .i64 1), .lit (.int .i64 2)], .agg [.lit (.int .i64 0), .lit (.int .i64 3), .lit (.int .i64 4)]]

/-- 'jotterlaw05.OtTags': WHATEVER THE INPUT: true; the input reads as it did. -/
def otTagsSpec : ChangeSpec := { name := "otTags", fn := fun _ => fun
  | [d1, d2, d3] => { results := [.lit (.bool true)], args := [d1, d2, d3] }
  | _ => none }
def otTagsRow : OpenClaim := { program := "ytmkgkgdngjmcmaadoor", sum := "756c5aea008c0b54ba7679285d359d53b068730a67e5493d2fa07b2dc6ed28f8", func := "jotter/jotterlaw05.OtTags", spec := "otTags", named := ["jotter/ot.rules"], apart := false, laid := [("jotter/ot.rules", laid_jotter_ot_rules)] }
def OtTagsSaid : Prop := otTagsRow.holds Tryd.pinned (OpenSpec.ofChange otTagsSpec)

/-- ITS FALSE NEIGHBOUR: 'it returns false'. Refute it at one input. -/
def otTagsWrong : ChangeSpec := { name := "otTags", fn := fun _ => fun
  | [d1, d2, d3] => { results := [.lit (.bool false)], args := [d1, d2, d3] }
  | _ => none }
def OtTagsWrongFalsely : Prop := otTagsRow.holds Tryd.pinned (OpenSpec.ofChange otTagsWrong)

/-- 'jotterlaw05.OtShifts': WHATEVER THE INPUT: true; the input reads as it did. -/
def otShiftsSpec : ChangeSpec := { name := "otShifts", fn := fun _ => fun
  | [d] => { results := [.lit (.bool true)], args := [d] }
  | _ => none }
def otShiftsRow : OpenClaim := { program := "ytmkgkgdngjmcmaadoor", sum := "756c5aea008c0b54ba7679285d359d53b068730a67e5493d2fa07b2dc6ed28f8", func := "jotter/jotterlaw05.OtShifts", spec := "otShifts", named := ["jotter/ot.rules"], apart := false, laid := [("jotter/ot.rules", laid_jotter_ot_rules)] }
def OtShiftsSaid : Prop := otShiftsRow.holds Tryd.pinned (OpenSpec.ofChange otShiftsSpec)

/-- ITS FALSE NEIGHBOUR: 'it returns false'. Refute it at one input. -/
def otShiftsWrong : ChangeSpec := { name := "otShifts", fn := fun _ => fun
  | [d] => { results := [.lit (.bool false)], args := [d] }
  | _ => none }
def OtShiftsWrongFalsely : Prop := otShiftsRow.holds Tryd.pinned (OpenSpec.ofChange otShiftsWrong)

/-- 'jotterlaw05.OtLimit': WHATEVER THE INPUT: true; the input reads as it did. -/
def otLimitSpec : ChangeSpec := { name := "otLimit", fn := fun _ => fun
  | [d1, d2] => { results := [.lit (.bool true)], args := [d1, d2] }
  | _ => none }
def otLimitRow : OpenClaim := { program := "ytmkgkgdngjmcmaadoor", sum := "756c5aea008c0b54ba7679285d359d53b068730a67e5493d2fa07b2dc6ed28f8", func := "jotter/jotterlaw05.OtLimit", spec := "otLimit", named := ["jotter/ot.rules"], apart := false, laid := [("jotter/ot.rules", laid_jotter_ot_rules)] }
def OtLimitSaid : Prop := otLimitRow.holds Tryd.pinned (OpenSpec.ofChange otLimitSpec)

/-- ITS FALSE NEIGHBOUR: 'it returns false'. Refute it at one input. -/
def otLimitWrong : ChangeSpec := { name := "otLimit", fn := fun _ => fun
  | [d1, d2] => { results := [.lit (.bool false)], args := [d1, d2] }
  | _ => none }
def OtLimitWrongFalsely : Prop := otLimitRow.holds Tryd.pinned (OpenSpec.ofChange otLimitWrong)

/-- 'jotterlaw05.OtPieces': WHATEVER THE INPUT: true; the input reads as it did. -/
def otPiecesSpec : ChangeSpec := { name := "otPieces", fn := fun _ => fun
  | [d1, d2, d3] => { results := [.lit (.bool true)], args := [d1, d2, d3] }
  | _ => none }
def otPiecesRow : OpenClaim := { program := "ytmkgkgdngjmcmaadoor", sum := "756c5aea008c0b54ba7679285d359d53b068730a67e5493d2fa07b2dc6ed28f8", func := "jotter/jotterlaw05.OtPieces", spec := "otPieces", named := ["jotter/ot.rules"], apart := false, laid := [("jotter/ot.rules", laid_jotter_ot_rules)] }
def OtPiecesSaid : Prop := otPiecesRow.holds Tryd.pinned (OpenSpec.ofChange otPiecesSpec)

/-- ITS FALSE NEIGHBOUR: 'it returns false'. Refute it at one input. -/
def otPiecesWrong : ChangeSpec := { name := "otPieces", fn := fun _ => fun
  | [d1, d2, d3] => { results := [.lit (.bool false)], args := [d1, d2, d3] }
  | _ => none }
def OtPiecesWrongFalsely : Prop := otPiecesRow.holds Tryd.pinned (OpenSpec.ofChange otPiecesWrong)

/-- 'jotterlaw05.OtNops': WHATEVER THE INPUT: true; the input reads as it did. -/
def otNopsSpec : ChangeSpec := { name := "otNops", fn := fun _ => fun
  | [d1, d2] => { results := [.lit (.bool true)], args := [d1, d2] }
  | _ => none }
def otNopsRow : OpenClaim := { program := "ytmkgkgdngjmcmaadoor", sum := "756c5aea008c0b54ba7679285d359d53b068730a67e5493d2fa07b2dc6ed28f8", func := "jotter/jotterlaw05.OtNops", spec := "otNops", named := ["jotter/ot.rules"], apart := false, laid := [("jotter/ot.rules", laid_jotter_ot_rules)] }
def OtNopsSaid : Prop := otNopsRow.holds Tryd.pinned (OpenSpec.ofChange otNopsSpec)

/-- ITS FALSE NEIGHBOUR: 'it returns false'. Refute it at one input. -/
def otNopsWrong : ChangeSpec := { name := "otNops", fn := fun _ => fun
  | [d1, d2] => { results := [.lit (.bool false)], args := [d1, d2] }
  | _ => none }
def OtNopsWrongFalsely : Prop := otNopsRow.holds Tryd.pinned (OpenSpec.ofChange otNopsWrong)

/-- 'jotterlaw05.OtCrosses': WHATEVER THE INPUT: true; the input reads as it did. -/
def otCrossesSpec : ChangeSpec := { name := "otCrosses", fn := fun _ => fun
  | [d] => { results := [.lit (.bool true)], args := [d] }
  | _ => none }
def otCrossesRow : OpenClaim := { program := "ytmkgkgdngjmcmaadoor", sum := "756c5aea008c0b54ba7679285d359d53b068730a67e5493d2fa07b2dc6ed28f8", func := "jotter/jotterlaw05.OtCrosses", spec := "otCrosses", named := ["jotter/ot.rules"], apart := false, laid := [("jotter/ot.rules", laid_jotter_ot_rules)] }
def OtCrossesSaid : Prop := otCrossesRow.holds Tryd.pinned (OpenSpec.ofChange otCrossesSpec)

/-- ITS FALSE NEIGHBOUR: 'it returns false'. Refute it at one input. -/
def otCrossesWrong : ChangeSpec := { name := "otCrosses", fn := fun _ => fun
  | [d] => { results := [.lit (.bool false)], args := [d] }
  | _ => none }
def OtCrossesWrongFalsely : Prop := otCrossesRow.holds Tryd.pinned (OpenSpec.ofChange otCrossesWrong)

/- THE SECOND FORM. 'bulk': how many values and letters a reading holds, each counted each time it is reached (what is shared counts as often as it is met; a slice's spare places count too). A statement '..UptoSaid' is the law's where the arguments, and the package variables that the reading takes, are together of bulk at most 1048576: NARROWER than '..Said'. Prove '..Said' where nothing that the law and all that it calls make is longer than what came in: it says more and counts as full. Else prove '..UptoSaid'. A law counts once. -/
mutual
def uptoBulk {H : Type} : DataW H → Nat
  | .lit (.string bytes) => bytes.length + 1
  | .lit _ => 1
  | .nil => 1
  | .ptr d => uptoBulk d + 1
  | .slice elems spare => uptoBulkAll elems + uptoBulkAll spare + 1
  | .agg parts => uptoBulkAll parts + 1
  | .iface _ d => uptoBulk d + 1
  | .map entries => uptoBulkEntries entries + 1
  | .held _ => 1
def uptoBulkAll {H : Type} : List (DataW H) → Nat
  | [] => 0
  | d :: r => uptoBulk d + uptoBulkAll r
def uptoBulkEntries {H : Type} : List (Lit × DataW H) → Nat
  | [] => 0
  | x :: r => uptoBulkEntry x + uptoBulkEntries r
def uptoBulkEntry {H : Type} : Lit × DataW H → Nat
  | (.string bytes, d) => bytes.length + uptoBulk d + 1
  | (_, d) => uptoBulk d + 1
 end
def uptoSmall : (H : Type) → List (DataW H) → Bool := fun _ ds => decide (uptoBulkAll ds ≤ 1048576)
def OpenSpec.upto (s : _root_.Go.ChangeSpec) : _root_.Go.OpenSpec := { _root_.Go.OpenSpec.ofChange s with cond := some uptoSmall }

/-- 'jotterlaw05.OtTags', WHERE WHAT IT READS IS OF BULK AT MOST 1048576: true; the input reads as it did. -/
def otTagsUptoRow : OpenClaim := { program := "ytmkgkgdngjmcmaadoor", sum := "756c5aea008c0b54ba7679285d359d53b068730a67e5493d2fa07b2dc6ed28f8", func := "jotter/jotterlaw05.OtTags", spec := "otTags", named := ["jotter/ot.rules"], apart := false, laid := [("jotter/ot.rules", laid_jotter_ot_rules)], narrowed := true }
def OtTagsUptoSaid : Prop := otTagsUptoRow.holds Tryd.pinned (OpenSpec.upto otTagsSpec)

/-- 'jotterlaw05.OtShifts', WHERE WHAT IT READS IS OF BULK AT MOST 1048576: true; the input reads as it did. -/
def otShiftsUptoRow : OpenClaim := { program := "ytmkgkgdngjmcmaadoor", sum := "756c5aea008c0b54ba7679285d359d53b068730a67e5493d2fa07b2dc6ed28f8", func := "jotter/jotterlaw05.OtShifts", spec := "otShifts", named := ["jotter/ot.rules"], apart := false, laid := [("jotter/ot.rules", laid_jotter_ot_rules)], narrowed := true }
def OtShiftsUptoSaid : Prop := otShiftsUptoRow.holds Tryd.pinned (OpenSpec.upto otShiftsSpec)

/-- 'jotterlaw05.OtLimit', WHERE WHAT IT READS IS OF BULK AT MOST 1048576: true; the input reads as it did. -/
def otLimitUptoRow : OpenClaim := { program := "ytmkgkgdngjmcmaadoor", sum := "756c5aea008c0b54ba7679285d359d53b068730a67e5493d2fa07b2dc6ed28f8", func := "jotter/jotterlaw05.OtLimit", spec := "otLimit", named := ["jotter/ot.rules"], apart := false, laid := [("jotter/ot.rules", laid_jotter_ot_rules)], narrowed := true }
def OtLimitUptoSaid : Prop := otLimitUptoRow.holds Tryd.pinned (OpenSpec.upto otLimitSpec)

/-- 'jotterlaw05.OtPieces', WHERE WHAT IT READS IS OF BULK AT MOST 1048576: true; the input reads as it did. -/
def otPiecesUptoRow : OpenClaim := { program := "ytmkgkgdngjmcmaadoor", sum := "756c5aea008c0b54ba7679285d359d53b068730a67e5493d2fa07b2dc6ed28f8", func := "jotter/jotterlaw05.OtPieces", spec := "otPieces", named := ["jotter/ot.rules"], apart := false, laid := [("jotter/ot.rules", laid_jotter_ot_rules)], narrowed := true }
def OtPiecesUptoSaid : Prop := otPiecesUptoRow.holds Tryd.pinned (OpenSpec.upto otPiecesSpec)

/-- 'jotterlaw05.OtNops', WHERE WHAT IT READS IS OF BULK AT MOST 1048576: true; the input reads as it did. -/
def otNopsUptoRow : OpenClaim := { program := "ytmkgkgdngjmcmaadoor", sum := "756c5aea008c0b54ba7679285d359d53b068730a67e5493d2fa07b2dc6ed28f8", func := "jotter/jotterlaw05.OtNops", spec := "otNops", named := ["jotter/ot.rules"], apart := false, laid := [("jotter/ot.rules", laid_jotter_ot_rules)], narrowed := true }
def OtNopsUptoSaid : Prop := otNopsUptoRow.holds Tryd.pinned (OpenSpec.upto otNopsSpec)

/-- 'jotterlaw05.OtCrosses', WHERE WHAT IT READS IS OF BULK AT MOST 1048576: true; the input reads as it did. -/
def otCrossesUptoRow : OpenClaim := { program := "ytmkgkgdngjmcmaadoor", sum := "756c5aea008c0b54ba7679285d359d53b068730a67e5493d2fa07b2dc6ed28f8", func := "jotter/jotterlaw05.OtCrosses", spec := "otCrosses", named := ["jotter/ot.rules"], apart := false, laid := [("jotter/ot.rules", laid_jotter_ot_rules)], narrowed := true }
def OtCrossesUptoSaid : Prop := otCrossesUptoRow.holds Tryd.pinned (OpenSpec.upto otCrossesSpec)

end Rows
end Go.Proofs.YtmkgkgdngjmcmaaDoor
