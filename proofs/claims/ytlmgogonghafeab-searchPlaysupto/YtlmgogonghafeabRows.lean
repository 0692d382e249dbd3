/-
  No cell of these rows narrows 'for every input' (looked for: loops, veiled, ifaces, maps, wideKeys, modest, calm, conditions, laid).
  DERIVED. THE GIVEN ROWS OF THIS SEAT. 2 by the template 'for every input the law returns true; each argument reads behind the call as it read before'; 0 by the template 'total and deterministic' (their statements: YtlmgogonghafeabTotals.lean).
  GIVEN WITH THE SEED: the statements are not yours to turn. If you find one false, say at which input.
  Laid BY PROGRAM, IN A SANDBOX (cutbox-rows.mjs): the forced cells as the released guide's own fill.sh prints them over the translation 7939d9017a2b0204… (all of the seat's roots in one cut). By AI agents, Wed Nov 11 2026. No macro, syntax, notation, axiom, sorry.
-/
import Derived.Test.YtlmgogonghafeabChecked
import GoSem.Claim
import GoSem.ClaimJoined
import GoSem.ClaimMapViews
import Derived.JoinedTies
import Derived.KernelRfl
namespace Go.Proofs.Ytlmgogonghafeab
/- THE CELL 'sum', in the pinned program and in every row, IS THE sha256 OF THE DUMP (.gsa) THAT YtlmgogonghafeabProg.lean LOADS. Nothing in Lean hashes anything: it is a label: what it is worth is what the hold of that sum in a sandbox is worth. -/
noncomputable def Try.pinned : Pinned := { name := "ytlmgogonghafeab", sum := "7939d9017a2b0204c381c9b5e77faad0fc0dc66c75974fbc4c433b1bd7e713a9", checked := Try.checked }
namespace Rows
def none {H : Type} : Left H := { results := [], args := [] }

/-- 'jotterlaw24.SearchFresh': WHATEVER THE INPUT: true; the input reads as it did. -/
def searchFreshSpec : ChangeSpec := { name := "searchFresh", fn := fun _ => fun
  | [d1, d2] => { results := [.lit (.bool true)], args := [d1, d2] }
  | _ => none }
def searchFreshRow : OpenClaim := { program := "ytlmgogonghafeab", sum := "7939d9017a2b0204c381c9b5e77faad0fc0dc66c75974fbc4c433b1bd7e713a9", func := "jotter/jotterlaw24.SearchFresh", spec := "searchFresh", inPlace := ["slices.overlaps[byte]", "slices.overlaps[[]byte]"], unfollowed := true, recurses := true, apart := false }
def SearchFreshSaid : Prop := searchFreshRow.holds Try.pinned (OpenSpec.ofChange searchFreshSpec)

/-- ITS FALSE NEIGHBOUR: 'it returns false'. Refute it at one input. -/
def searchFreshWrong : ChangeSpec := { name := "searchFresh", fn := fun _ => fun
  | [d1, d2] => { results := [.lit (.bool false)], args := [d1, d2] }
  | _ => none }
def SearchFreshWrongFalsely : Prop := searchFreshRow.holds Try.pinned (OpenSpec.ofChange searchFreshWrong)

/-- 'jotterlaw24.SearchPlays': WHATEVER THE INPUT: true; the input reads as it did. -/
def searchPlaysSpec : ChangeSpec := { name := "searchPlays", fn := fun _ => fun
  | [d1, d2, d3] => { results := [.lit (.bool true)], args := [d1, d2, d3] }
  | _ => none }
def searchPlaysRow : OpenClaim := { program := "ytlmgogonghafeab", sum := "7939d9017a2b0204c381c9b5e77faad0fc0dc66c75974fbc4c433b1bd7e713a9", func := "jotter/jotterlaw24.SearchPlays", spec := "searchPlays", inPlace := ["slices.overlaps[byte]", "slices.overlaps[[]byte]"], unfollowed := true, recurses := true, apart := false }
def SearchPlaysSaid : Prop := searchPlaysRow.holds Try.pinned (OpenSpec.ofChange searchPlaysSpec)

/-- ITS FALSE NEIGHBOUR: 'it returns false'. Refute it at one input. -/
def searchPlaysWrong : ChangeSpec := { name := "searchPlays", fn := fun _ => fun
  | [d1, d2, d3] => { results := [.lit (.bool false)], args := [d1, d2, d3] }
  | _ => none }
def SearchPlaysWrongFalsely : Prop := searchPlaysRow.holds Try.pinned (OpenSpec.ofChange searchPlaysWrong)

/- THE SECOND FORM. 'bulk': how many values and letters a reading holds, each counted each time it is reached (what is shared counts as often as it is met; a slice's spare places count too). A statement '..UptoSaid' is the law's where the arguments, and the package variables that the reading takes, are together of bulk at most 1048576: NARROWER than '..Said'. Prove '..Said' where nothing that the law and all that it calls make is longer than what came in: it says more and counts as full. Else prove '..UptoSaid'. A law counts once. -/
mutual
def uptoBulk {H : Type} : DataW H → Nat
  | .lit (.string bytes) => bytes.length + 1
  | .lit _ => 1
  | .nil => 1
  | .ptr d => uptoBulk d + 1
  | .slice elems spare => uptoBulkAll elems + uptoBulkAll spare + 1
  | .agg parts => uptoBulkAll parts + 1
  | .iface _ d => uptoBulk d + 1
  | .map entries => uptoBulkEntries entries + 1
  | .held _ => 1
def uptoBulkAll {H : Type} : List (DataW H) → Nat
  | [] => 0
  | d :: r => uptoBulk d + uptoBulkAll r
def uptoBulkEntries {H : Type} : List (Lit × DataW H) → Nat
  | [] => 0
  | x :: r => uptoBulkEntry x + uptoBulkEntries r
def uptoBulkEntry {H : Type} : Lit × DataW H → Nat
  | (.string bytes, d) => bytes.length + uptoBulk d + 1
  | (_, d) => uptoBulk d + 1
 end
def uptoSmall : (H : Type) → List (DataW H) → Bool := fun _ ds => decide (uptoBulkAll ds ≤ 1048576)
def OpenSpec.upto (s : _root_.Go.ChangeSpec) : _root_.Go.OpenSpec := { _root_.Go.OpenSpec.ofChange s with cond := some uptoSmall }

/-- 'jotterlaw24.SearchFresh', WHERE WHAT IT READS IS OF BULK AT MOST 1048576: true; the input reads as it did. -/
def searchFreshUptoRow : OpenClaim := { program := "ytlmgogonghafeab", sum := "7939d9017a2b0204c381c9b5e77faad0fc0dc66c75974fbc4c433b1bd7e713a9", func := "jotter/jotterlaw24.SearchFresh", spec := "searchFresh", inPlace := ["slices.overlaps[byte]", "slices.overlaps[[]byte]"], unfollowed := true, recurses := true, apart := false, narrowed := true }
def SearchFreshUptoSaid : Prop := searchFreshUptoRow.holds Try.pinned (OpenSpec.upto searchFreshSpec)

/-- 'jotterlaw24.SearchPlays', WHERE WHAT IT READS IS OF BULK AT MOST 1048576: true; the input reads as it did. -/
def searchPlaysUptoRow : OpenClaim := { program := "ytlmgogonghafeab", sum := "7939d9017a2b0204c381c9b5e77faad0fc0dc66c75974fbc4c433b1bd7e713a9", func := "jotter/jotterlaw24.SearchPlays", spec := "searchPlays", inPlace := ["slices.overlaps[byte]", "slices.overlaps[[]byte]"], unfollowed := true, recurses := true, apart := false, narrowed := true }
def SearchPlaysUptoSaid : Prop := searchPlaysUptoRow.holds Try.pinned (OpenSpec.upto searchPlaysSpec)

end Rows
end Go.Proofs.Ytlmgogonghafeab
