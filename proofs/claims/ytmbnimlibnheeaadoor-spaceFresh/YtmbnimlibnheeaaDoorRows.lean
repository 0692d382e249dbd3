/-
  NARROWER THAN 'FOR EVERY INPUT', by the rows' own cells (each row's printed sentence says how): SpaceRebuilt: laid · SpaceLines: laid · SpaceLooks: laid · SpaceFresh: laid · SpaceMeets: laid.
  DERIVED. THE GIVEN ROWS OF THIS SEAT. 5 by the template 'for every input the law returns true; each argument reads behind the call as it read before'; 0 by the template 'total and deterministic' (their statements: YtmbnimlibnheeaaDoorTotals.lean).
  GIVEN WITH THE SEED: the statements are not yours to turn. If you find one false, say at which input.
  Laid BY PROGRAM, IN A SANDBOX (cutbox-rows.mjs): the forced cells as the released guide's own fill.sh prints them over the translation d2e392d2536464cb… (all of the seat's roots in one cut). By AI agents, Wed Nov 11 2026. No macro, syntax, notation, axiom, sorry.
-/
import Derived.Test.YtmbnimlibnheeaaDoorChecked
import GoSem.Claim
import GoSem.ClaimJoined
import GoSem.ClaimMapViews
import Derived.JoinedTies
import Derived.KernelRfl
namespace Go.Proofs.YtmbnimlibnheeaaDoor
/- THE CELL 'sum', in the pinned program and in every row, IS THE sha256 OF THE DUMP (.gsa) THAT YtmbnimlibnheeaaDoorProg.lean LOADS. Nothing in Lean hashes anything: it is a label: what it is worth is what the hold of that sum in a sandbox is worth. -/
noncomputable def Tryd.pinned : Pinned := { name := "ytmbnimlibnheeaadoor", sum := "d2e392d2536464cbf38e9885ed76202432ce43fe5f5c74076a70cd1240cb8b9b", checked := Tryd.checked }
namespace Rows
def none {H : Type} : Left H := { results := [], args := [] }

/- WHAT THE LISTED PACKAGE-LEVEL VARIABLES READ AS WHEN THE CALL BEGINS. Each datum BY PROGRAM (the guide's laid-datum.mjs) off the statement by which the dump's own 'gosem.cut.vars' lays the variable. In a bare row this is a premise. The card (YtmbnimlibnheeaaDoorCards.lean) ties it to the program's text. -/
def laid_jotter_ot_rules {H : Type} : DataW H := .agg [.agg [.lit (.int .i64 0), .lit (.int .i64 0), .lit (.int .i64 0)], .agg [.lit (.int .i64 0), .lit (.int .i64 1), .lit (.int .i64 2)], .agg [.lit (.int .i64 0), .lit (.int .i64 3), .lit (.int .i64 4)]]

/-- 'jotterlaw10.SpaceRebuilt': WHATEVER THE INPUT: true; the input reads as it did. -/
def spaceRebuiltSpec : ChangeSpec := { name := "spaceRebuilt", fn := fun _ => fun
  | [d1, d2, d3] => { results := [.lit (.bool true)], args := [d1, d2, d3] }
  | _ => none }
def spaceRebuiltRow : OpenClaim := { program := "ytmbnimlibnheeaadoor", sum := "d2e392d2536464cbf38e9885ed76202432ce43fe5f5c74076a70cd1240cb8b9b", func := "jotter/jotterlaw10.SpaceRebuilt", spec := "spaceRebuilt", named := ["jotter/ot.rules"], apart := false, laid := [("jotter/ot.rules", laid_jotter_ot_rules)] }
def SpaceRebuiltSaid : Prop := spaceRebuiltRow.holds Tryd.pinned (OpenSpec.ofChange spaceRebuiltSpec)

/-- ITS FALSE NEIGHBOUR: 'it returns false'. Refute it at one input. -/
def spaceRebuiltWrong : ChangeSpec := { name := "spaceRebuilt", fn := fun _ => fun
  | [d1, d2, d3] => { results := [.lit (.bool false)], args := [d1, d2, d3] }
  | _ => none }
def SpaceRebuiltWrongFalsely : Prop := spaceRebuiltRow.holds Tryd.pinned (OpenSpec.ofChange spaceRebuiltWrong)

/-- 'jotterlaw10.SpaceLines': WHATEVER THE INPUT: true; the input reads as it did. -/
def spaceLinesSpec : ChangeSpec := { name := "spaceLines", fn := fun _ => fun
  | [d1, d2, d3] => { results := [.lit (.bool true)], args := [d1, d2, d3] }
  | _ => none }
def spaceLinesRow : OpenClaim := { program := "ytmbnimlibnheeaadoor", sum := "d2e392d2536464cbf38e9885ed76202432ce43fe5f5c74076a70cd1240cb8b9b", func := "jotter/jotterlaw10.SpaceLines", spec := "spaceLines", named := ["jotter/ot.rules"], apart := false, laid := [("jotter/ot.rules", laid_jotter_ot_rules)] }
def SpaceLinesSaid : Prop := spaceLinesRow.holds Tryd.pinned (OpenSpec.ofChange spaceLinesSpec)

/-- ITS FALSE NEIGHBOUR: 'it returns false'. Refute it at one input. -/
def spaceLinesWrong : ChangeSpec := { name := "spaceLines", fn := fun _ => fun
  | [d1, d2, d3] => { results := [.lit (.bool false)], args := [d1, d2, d3] }
  | _ => none }
def SpaceLinesWrongFalsely : Prop := spaceLinesRow.holds Tryd.pinned (OpenSpec.ofChange spaceLinesWrong)

/-- 'jotterlaw10.SpaceLooks': WHATEVER THE INPUT: true; the input reads as it did. -/
def spaceLooksSpec : ChangeSpec := { name := "spaceLooks", fn := fun _ => fun
  | [d1, d2, d3] => { results := [.lit (.bool true)], args := [d1, d2, d3] }
  | _ => none }
def spaceLooksRow : OpenClaim := { program := "ytmbnimlibnheeaadoor", sum := "d2e392d2536464cbf38e9885ed76202432ce43fe5f5c74076a70cd1240cb8b9b", func := "jotter/jotterlaw10.SpaceLooks", spec := "spaceLooks", named := ["jotter/ot.rules"], apart := false, laid := [("jotter/ot.rules", laid_jotter_ot_rules)] }
def SpaceLooksSaid : Prop := spaceLooksRow.holds Tryd.pinned (OpenSpec.ofChange spaceLooksSpec)

/-- ITS FALSE NEIGHBOUR: 'it returns false'. Refute it at one input. -/
def spaceLooksWrong : ChangeSpec := { name := "spaceLooks", fn := fun _ => fun
  | [d1, d2, d3] => { results := [.lit (.bool false)], args := [d1, d2, d3] }
  | _ => none }
def SpaceLooksWrongFalsely : Prop := spaceLooksRow.holds Tryd.pinned (OpenSpec.ofChange spaceLooksWrong)

/-- 'jotterlaw10.SpaceFresh': WHATEVER THE INPUT: true; the input reads as it did. -/
def spaceFreshSpec : ChangeSpec := { name := "spaceFresh", fn := fun _ => fun
  | [d1, d2] => { results := [.lit (.bool true)], args := [d1, d2] }
  | _ => none }
def spaceFreshRow : OpenClaim := { program := "ytmbnimlibnheeaadoor", sum := "d2e392d2536464cbf38e9885ed76202432ce43fe5f5c74076a70cd1240cb8b9b", func := "jotter/jotterlaw10.SpaceFresh", spec := "spaceFresh", named := ["jotter/ot.rules"], apart := false, laid := [("jotter/ot.rules", laid_jotter_ot_rules)] }
def SpaceFreshSaid : Prop := spaceFreshRow.holds Tryd.pinned (OpenSpec.ofChange spaceFreshSpec)

/-- ITS FALSE NEIGHBOUR: 'it returns false'. Refute it at one input. -/
def spaceFreshWrong : ChangeSpec := { name := "spaceFresh", fn := fun _ => fun
  | [d1, d2] => { results := [.lit (.bool false)], args := [d1, d2] }
  | _ => none }
def SpaceFreshWrongFalsely : Prop := spaceFreshRow.holds Tryd.pinned (OpenSpec.ofChange spaceFreshWrong)

/-- 'jotterlaw10.SpaceMeets': WHATEVER THE INPUT: true; the input reads as it did. -/
def spaceMeetsSpec : ChangeSpec := { name := "spaceMeets", fn := fun _ => fun
  | [d1, d2] => { results := [.lit (.bool true)], args := [d1, d2] }
  | _ => none }
def spaceMeetsRow : OpenClaim := { program := "ytmbnimlibnheeaadoor", sum := "d2e392d2536464cbf38e9885ed76202432ce43fe5f5c74076a70cd1240cb8b9b", func := "jotter/jotterlaw10.SpaceMeets", spec := "spaceMeets", inPlace := ["slices.overlaps[jotter/api.Elem]"], named := ["jotter/ot.rules"], apart := false, laid := [("jotter/ot.rules", laid_jotter_ot_rules)] }
def SpaceMeetsSaid : Prop := spaceMeetsRow.holds Tryd.pinned (OpenSpec.ofChange spaceMeetsSpec)

/-- ITS FALSE NEIGHBOUR: 'it returns false'. Refute it at one input. -/
def spaceMeetsWrong : ChangeSpec := { name := "spaceMeets", fn := fun _ => fun
  | [d1, d2] => { results := [.lit (.bool false)], args := [d1, d2] }
  | _ => none }
def SpaceMeetsWrongFalsely : Prop := spaceMeetsRow.holds Tryd.pinned (OpenSpec.ofChange spaceMeetsWrong)

/- THE SECOND FORM. 'bulk': how many values and letters a reading holds, each counted each time it is reached (what is shared counts as often as it is met; a slice's spare places count too). A statement '..UptoSaid' is the law's where the arguments, and the package variables that the reading takes, are together of bulk at most 1048576: NARROWER than '..Said'. Prove '..Said' where nothing that the law and all that it calls make is longer than what came in: it says more and counts as full. Else prove '..UptoSaid'. A law counts once. -/
mutual
def uptoBulk {H : Type} : DataW H → Nat
  | .lit (.string bytes) => bytes.length + 1
  | .lit _ => 1
  | .nil => 1
  | .ptr d => uptoBulk d + 1
  | .slice elems spare => uptoBulkAll elems + uptoBulkAll spare + 1
  | .agg parts => uptoBulkAll parts + 1
  | .iface _ d => uptoBulk d + 1
  | .map entries => uptoBulkEntries entries + 1
  | .held _ => 1
def uptoBulkAll {H : Type} : List (DataW H) → Nat
  | [] => 0
  | d :: r => uptoBulk d + uptoBulkAll r
def uptoBulkEntries {H : Type} : List (Lit × DataW H) → Nat
  | [] => 0
  | x :: r => uptoBulkEntry x + uptoBulkEntries r
def uptoBulkEntry {H : Type} : Lit × DataW H → Nat
  | (.string bytes, d) => bytes.length + uptoBulk d + 1
  | (_, d) => uptoBulk d + 1
 end
def uptoSmall : (H : Type) → List (DataW H) → Bool := fun _ ds => decide (uptoBulkAll ds ≤ 1048576)
def OpenSpec.upto (s : _root_.Go.ChangeSpec) : _root_.Go.OpenSpec := { _root_.Go.OpenSpec.ofChange s with cond := some uptoSmall }

/-- 'jotterlaw10.SpaceRebuilt', WHERE WHAT IT READS IS OF BULK AT MOST 1048576: true; the input reads as it did. -/
def spaceRebuiltUptoRow : OpenClaim := { program := "ytmbnimlibnheeaadoor", sum := "d2e392d2536464cbf38e9885ed76202432ce43fe5f5c74076a70cd1240cb8b9b", func := "jotter/jotterlaw10.SpaceRebuilt", spec := "spaceRebuilt", named := ["jotter/ot.rules"], apart := false, laid := [("jotter/ot.rules", laid_jotter_ot_rules)], narrowed := true }
def SpaceRebuiltUptoSaid : Prop := spaceRebuiltUptoRow.holds Tryd.pinned (OpenSpec.upto spaceRebuiltSpec)

/-- 'jotterlaw10.SpaceLines', WHERE WHAT IT READS IS OF BULK AT MOST 1048576: true; the input reads as it did. -/
def spaceLinesUptoRow : OpenClaim := { program := "ytmbnimlibnheeaadoor", sum := "d2e392d2536464cbf38e9885ed76202432ce43fe5f5c74076a70cd1240cb8b9b", func := "jotter/jotterlaw10.SpaceLines", spec := "spaceLines", named := ["jotter/ot.rules"], apart := false, laid := [("jotter/ot.rules", laid_jotter_ot_rules)], narrowed := true }
def SpaceLinesUptoSaid : Prop := spaceLinesUptoRow.holds Tryd.pinned (OpenSpec.upto spaceLinesSpec)

/-- 'jotterlaw10.SpaceLooks', WHERE WHAT IT READS IS OF BULK AT MOST 1048576: true; the input reads as it did. -/
def spaceLooksUptoRow : OpenClaim := { program := "ytmbnimlibnheeaadoor", sum := "d2e392d2536464cbf38e9885ed76202432ce43fe5f5c74076a70cd1240cb8b9b", func := "jotter/jotterlaw10.SpaceLooks", spec := "spaceLooks", named := ["jotter/ot.rules"], apart := false, laid := [("jotter/ot.rules", laid_jotter_ot_rules)], narrowed := true }
def SpaceLooksUptoSaid : Prop := spaceLooksUptoRow.holds Tryd.pinned (OpenSpec.upto spaceLooksSpec)

/-- 'jotterlaw10.SpaceFresh', WHERE WHAT IT READS IS OF BULK AT MOST 1048576: true; the input reads as it did. -/
def spaceFreshUptoRow : OpenClaim := { program := "ytmbnimlibnheeaadoor", sum := "d2e392d2536464cbf38e9885ed76202432ce43fe5f5c74076a70cd1240cb8b9b", func := "jotter/jotterlaw10.SpaceFresh", spec := "spaceFresh", named := ["jotter/ot.rules"], apart := false, laid := [("jotter/ot.rules", laid_jotter_ot_rules)], narrowed := true }
def SpaceFreshUptoSaid : Prop := spaceFreshUptoRow.holds Tryd.pinned (OpenSpec.upto spaceFreshSpec)

/-- 'jotterlaw10.SpaceMeets', WHERE WHAT IT READS IS OF BULK AT MOST 1048576: true; the input reads as it did. -/
def spaceMeetsUptoRow : OpenClaim := { program := "ytmbnimlibnheeaadoor", sum := "d2e392d2536464cbf38e9885ed76202432ce43fe5f5c74076a70cd1240cb8b9b", func := "jotter/jotterlaw10.SpaceMeets", spec := "spaceMeets", inPlace := ["slices.overlaps[jotter/api.Elem]"], named := ["jotter/ot.rules"], apart := false, laid := [("jotter/ot.rules", laid_jotter_ot_rules)], narrowed := true }
def SpaceMeetsUptoSaid : Prop := spaceMeetsUptoRow.holds Tryd.pinned (OpenSpec.upto spaceMeetsSpec)

end Rows
end Go.Proofs.YtmbnimlibnheeaaDoor
