/-
  NARROWER THAN 'FOR EVERY INPUT', by the rows' own cells (each row's printed sentence says how): OtOwn: laid · OtThroughs: laid · OtWeaves: laid · OtSquare: laid · OtMeans: laid.
  DERIVED. THE GIVEN ROWS OF THIS SEAT. 5 by the template 'for every input the law returns true; each argument reads behind the call as it read before'; 0 by the template 'total and deterministic' (their statements: YtmkgkgdngjmcmabDoorTotals.lean).
  GIVEN WITH THE SEED: the statements are not yours to turn. If you find one false, say at which input.
  Laid BY PROGRAM, IN A SANDBOX (cutbox-rows.mjs): the forced cells as the released guide's own fill.sh prints them over the translation f2dda55da6ad930d… (all of the seat's roots in one cut). By AI agents, Wed Nov 11 2026. No macro, syntax, notation, axiom, sorry.
-/
import Derived.Test.YtmkgkgdngjmcmabDoorChecked
import GoSem.Claim
import GoSem.ClaimJoined
import GoSem.ClaimMapViews
import Derived.JoinedTies
import Derived.KernelRfl
namespace Go.Proofs.YtmkgkgdngjmcmabDoor
/- THE CELL 'sum', in the pinned program and in every row, IS THE sha256 OF THE DUMP (.gsa) THAT YtmkgkgdngjmcmabDoorProg.lean LOADS. Nothing in Lean hashes anything: it is a label: what it is worth is what the hold of that sum in a sandbox is worth. -/
noncomputable def Tryd.pinned : Pinned := { name := "ytmkgkgdngjmcmabdoor", sum := "f2dda55da6ad930d410b0f6cf680e130016bd3420e780b3ad1b6601dcc24f52d", checked := Tryd.checked }
namespace Rows
def none {H : Type} : Left H := { results := [], args := [] }

/- WHAT THE LISTED PACKAGE-LEVEL VARIABLES READ AS WHEN THE CALL BEGINS. Each datum BY PROGRAM (the guide's laid-datum.mjs) off the statement by which the dump's own 'gosem.cut.vars' lays the variable. In a bare row this is a premise. The card (YtmkgkgdngjmcmabDoorCards.lean) ties it to the program's text. -/
def laid_jotter_ot_rules {H : Type} : DataW H := .agg [.agg [.lit (.int .i64 0), .lit (.int .i64 0), .lit (.int .i64 0)], .agg [.lit (.int .i64 0), .lit (.int .i64 1), .lit (.int .i64 2)], .agg [.lit (.int .i64 0), .lit (.int .i64 3), .lit (.int .i64 4)]]

/-- 'jotterlaw05.OtOwn': WHATEVER THE INPUT: true; the input reads as it did. -/
def otOwnSpec : ChangeSpec := { name := "otOwn", fn := fun _ => fun
  | [d1, d2, d3] => { results := [.lit (.bool true)], args := [d1, d2, d3] }
  | _ => none }
def otOwnRow : OpenClaim := { program := "ytmkgkgdngjmcmabdoor", sum := "f2dda55da6ad930d410b0f6cf680e130016bd3420e780b3ad1b6601dcc24f52d", func := "jotter/jotterlaw05.OtOwn", spec := "otOwn", named := ["jotter/ot.rules"], apart := false, laid := [("jotter/ot.rules", laid_jotter_ot_rules)] }
def OtOwnSaid : Prop := otOwnRow.holds Tryd.pinned (OpenSpec.ofChange otOwnSpec)

/-- ITS FALSE NEIGHBOUR: 'it returns false'. Refute it at one input. -/
def otOwnWrong : ChangeSpec := { name := "otOwn", fn := fun _ => fun
  | [d1, d2, d3] => { results := [.lit (.bool false)], args := [d1, d2, d3] }
  | _ => none }
def OtOwnWrongFalsely : Prop := otOwnRow.holds Tryd.pinned (OpenSpec.ofChange otOwnWrong)

/-- 'jotterlaw05.OtThroughs': WHATEVER THE INPUT: true; the input reads as it did. -/
def otThroughsSpec : ChangeSpec := { name := "otThroughs", fn := fun _ => fun
  | [d1, d2, d3] => { results := [.lit (.bool true)], args := [d1, d2, d3] }
  | _ => none }
def otThroughsRow : OpenClaim := { program := "ytmkgkgdngjmcmabdoor", sum := "f2dda55da6ad930d410b0f6cf680e130016bd3420e780b3ad1b6601dcc24f52d", func := "jotter/jotterlaw05.OtThroughs", spec := "otThroughs", named := ["jotter/ot.rules"], apart := false, laid := [("jotter/ot.rules", laid_jotter_ot_rules)] }
def OtThroughsSaid : Prop := otThroughsRow.holds Tryd.pinned (OpenSpec.ofChange otThroughsSpec)

/-- ITS FALSE NEIGHBOUR: 'it returns false'. Refute it at one input. -/
def otThroughsWrong : ChangeSpec := { name := "otThroughs", fn := fun _ => fun
  | [d1, d2, d3] => { results := [.lit (.bool false)], args := [d1, d2, d3] }
  | _ => none }
def OtThroughsWrongFalsely : Prop := otThroughsRow.holds Tryd.pinned (OpenSpec.ofChange otThroughsWrong)

/-- 'jotterlaw05.OtWeaves': WHATEVER THE INPUT: true; the input reads as it did. -/
def otWeavesSpec : ChangeSpec := { name := "otWeaves", fn := fun _ => fun
  | [d1, d2] => { results := [.lit (.bool true)], args := [d1, d2] }
  | _ => none }
def otWeavesRow : OpenClaim := { program := "ytmkgkgdngjmcmabdoor", sum := "f2dda55da6ad930d410b0f6cf680e130016bd3420e780b3ad1b6601dcc24f52d", func := "jotter/jotterlaw05.OtWeaves", spec := "otWeaves", named := ["jotter/ot.rules"], apart := false, laid := [("jotter/ot.rules", laid_jotter_ot_rules)] }
def OtWeavesSaid : Prop := otWeavesRow.holds Tryd.pinned (OpenSpec.ofChange otWeavesSpec)

/-- ITS FALSE NEIGHBOUR: 'it returns false'. Refute it at one input. -/
def otWeavesWrong : ChangeSpec := { name := "otWeaves", fn := fun _ => fun
  | [d1, d2] => { results := [.lit (.bool false)], args := [d1, d2] }
  | _ => none }
def OtWeavesWrongFalsely : Prop := otWeavesRow.holds Tryd.pinned (OpenSpec.ofChange otWeavesWrong)

/-- 'jotterlaw05.OtSquare': WHATEVER THE INPUT: true; the input reads as it did. -/
def otSquareSpec : ChangeSpec := { name := "otSquare", fn := fun _ => fun
  | [d1, d2, d3] => { results := [.lit (.bool true)], args := [d1, d2, d3] }
  | _ => none }
def otSquareRow : OpenClaim := { program := "ytmkgkgdngjmcmabdoor", sum := "f2dda55da6ad930d410b0f6cf680e130016bd3420e780b3ad1b6601dcc24f52d", func := "jotter/jotterlaw05.OtSquare", spec := "otSquare", named := ["jotter/ot.rules"], apart := false, laid := [("jotter/ot.rules", laid_jotter_ot_rules)] }
def OtSquareSaid : Prop := otSquareRow.holds Tryd.pinned (OpenSpec.ofChange otSquareSpec)

/-- ITS FALSE NEIGHBOUR: 'it returns false'. Refute it at one input. -/
def otSquareWrong : ChangeSpec := { name := "otSquare", fn := fun _ => fun
  | [d1, d2, d3] => { results := [.lit (.bool false)], args := [d1, d2, d3] }
  | _ => none }
def OtSquareWrongFalsely : Prop := otSquareRow.holds Tryd.pinned (OpenSpec.ofChange otSquareWrong)

/-- 'jotterlaw05.OtMeans': WHATEVER THE INPUT: true; the input reads as it did. -/
def otMeansSpec : ChangeSpec := { name := "otMeans", fn := fun _ => fun
  | [d1, d2, d3] => { results := [.lit (.bool true)], args := [d1, d2, d3] }
  | _ => none }
def otMeansRow : OpenClaim := { program := "ytmkgkgdngjmcmabdoor", sum := "f2dda55da6ad930d410b0f6cf680e130016bd3420e780b3ad1b6601dcc24f52d", func := "jotter/jotterlaw05.OtMeans", spec := "otMeans", named := ["jotter/ot.rules"], apart := false, laid := [("jotter/ot.rules", laid_jotter_ot_rules)] }
def OtMeansSaid : Prop := otMeansRow.holds Tryd.pinned (OpenSpec.ofChange otMeansSpec)

/-- ITS FALSE NEIGHBOUR: 'it returns false'. Refute it at one input. -/
def otMeansWrong : ChangeSpec := { name := "otMeans", fn := fun _ => fun
  | [d1, d2, d3] => { results := [.lit (.bool false)], args := [d1, d2, d3] }
  | _ => none }
def OtMeansWrongFalsely : Prop := otMeansRow.holds Tryd.pinned (OpenSpec.ofChange otMeansWrong)

/- THE SECOND FORM. 'bulk': how many values and letters a reading holds, each counted each time it is reached (what is shared counts as often as it is met; a slice's spare places count too). A statement '..UptoSaid' is the law's where the arguments, and the package variables that the reading takes, are together of bulk at most 1048576: NARROWER than '..Said'. Prove '..Said' where nothing that the law and all that it calls make is longer than what came in: it says more and counts as full. Else prove '..UptoSaid'. A law counts once. -/
mutual
def uptoBulk {H : Type} : DataW H → Nat
  | .lit (.string bytes) => bytes.length + 1
  | .lit _ => 1
  | .nil => 1
  | .ptr d => uptoBulk d + 1
  | .slice elems spare => uptoBulkAll elems + uptoBulkAll spare + 1
  | .agg parts => uptoBulkAll parts + 1
  | .iface _ d => uptoBulk d + 1
  | .map entries => uptoBulkEntries entries + 1
  | .held _ => 1
def uptoBulkAll {H : Type} : List (DataW H) → Nat
  | [] => 0
  | d :: r => uptoBulk d + uptoBulkAll r
def uptoBulkEntries {H : Type} : List (Lit × DataW H) → Nat
  | [] => 0
  | x :: r => uptoBulkEntry x + uptoBulkEntries r
def uptoBulkEntry {H : Type} : Lit × DataW H → Nat
  | (.string bytes, d) => bytes.length + uptoBulk d + 1
  | (_, d) => uptoBulk d + 1
 end
def uptoSmall : (H : Type) → List (DataW H) → Bool := fun _ ds => decide (uptoBulkAll ds ≤ 1048576)
def OpenSpec.upto (s : _root_.Go.ChangeSpec) : _root_.Go.OpenSpec := { _root_.Go.OpenSpec.ofChange s with cond := some uptoSmall }

/-- 'jotterlaw05.OtOwn', WHERE WHAT IT READS IS OF BULK AT MOST 1048576: true; the input reads as it did. -/
def otOwnUptoRow : OpenClaim := { program := "ytmkgkgdngjmcmabdoor", sum := "f2dda55da6ad930d410b0f6cf680e130016bd3420e780b3ad1b6601dcc24f52d", func := "jotter/jotterlaw05.OtOwn", spec := "otOwn", named := ["jotter/ot.rules"], apart := false, laid := [("jotter/ot.rules", laid_jotter_ot_rules)], narrowed := true }
def OtOwnUptoSaid : Prop := otOwnUptoRow.holds Tryd.pinned (OpenSpec.upto otOwnSpec)

/-- 'jotterlaw05.OtThroughs', WHERE WHAT IT READS IS OF BULK AT MOST 1048576: true; the input reads as it did. -/
def otThroughsUptoRow : OpenClaim := { program := "ytmkgkgdngjmcmabdoor", sum := "f2dda55da6ad930d410b0f6cf680e130016bd3420e780b3ad1b6601dcc24f52d", func := "jotter/jotterlaw05.OtThroughs", spec := "otThroughs", named := ["jotter/ot.rules"], apart := false, laid := [("jotter/ot.rules", laid_jotter_ot_rules)], narrowed := true }
def OtThroughsUptoSaid : Prop := otThroughsUptoRow.holds Tryd.pinned (OpenSpec.upto otThroughsSpec)

/-- 'jotterlaw05.OtWeaves', WHERE WHAT IT READS IS OF BULK AT MOST 1048576: true; the input reads as it did. -/
def otWeavesUptoRow : OpenClaim := { program := "ytmkgkgdngjmcmabdoor", sum := "f2dda55da6ad930d410b0f6cf680e130016bd3420e780b3ad1b6601dcc24f52d", func := "jotter/jotterlaw05.OtWeaves", spec := "otWeaves", named := ["jotter/ot.rules"], apart := false, laid := [("jotter/ot.rules", laid_jotter_ot_rules)], narrowed := true }
def OtWeavesUptoSaid : Prop := otWeavesUptoRow.holds Tryd.pinned (OpenSpec.upto otWeavesSpec)

/-- 'jotterlaw05.OtSquare', WHERE WHAT IT READS IS OF BULK AT MOST 1048576: true; the input reads as it did. -/
def otSquareUptoRow : OpenClaim := { program := "ytmkgkgdngjmcmabdoor", sum := "f2dda55da6ad930d410b0f6cf680e130016bd3420e780b3ad1b6601dcc24f52d", func := "jotter/jotterlaw05.OtSquare", spec := "otSquare", named := ["jotter/ot.rules"], apart := false, laid := [("jotter/ot.rules", laid_jotter_ot_rules)], narrowed := true }
def OtSquareUptoSaid : Prop := otSquareUptoRow.holds Tryd.pinned (OpenSpec.upto otSquareSpec)

/-- 'jotterlaw05.OtMeans', WHERE WHAT IT READS IS OF BULK AT MOST 1048576: true; the input reads as it did. -/
def otMeansUptoRow : OpenClaim := { program := "ytmkgkgdngjmcmabdoor", sum := "f2dda55da6ad930d410b0f6cf680e130016bd3420e780b3ad1b6601dcc24f52d", func := "jotter/jotterlaw05.OtMeans", spec := "otMeans", named := ["jotter/ot.rules"], apart := false, laid := [("jotter/ot.rules", laid_jotter_ot_rules)], narrowed := true }
def OtMeansUptoSaid : Prop := otMeansUptoRow.holds Tryd.pinned (OpenSpec.upto otMeansSpec)

end Rows
end Go.Proofs.YtmkgkgdngjmcmabDoor
