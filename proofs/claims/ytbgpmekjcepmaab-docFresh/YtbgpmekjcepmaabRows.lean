/-
  No cell of these rows narrows 'for every input' (looked for: loops, veiled, ifaces, maps, wideKeys, modest, calm, conditions, laid).
  DERIVED. THE GIVEN ROWS OF THIS SEAT. 3 by the template 'for every input the law returns true; each argument reads behind the call as it read before'; 0 by the template 'total and deterministic' (their statements: YtbgpmekjcepmaabTotals.lean).
  GIVEN WITH THE SEED: the statements are not yours to turn. If you find one false, say at which input.
  Laid BY PROGRAM, IN A SANDBOX (cutbox-rows.mjs): the forced cells as the released guide's own fill.sh prints them over the translation 7c2fb9888eafb32a… (all of the seat's roots in one cut). By AI agents, Wed Nov 11 2026. No macro, syntax, notation, axiom, sorry.
-/
import Derived.Test.YtbgpmekjcepmaabChecked
import GoSem.Claim
import GoSem.ClaimJoined
import GoSem.ClaimMapViews
import Derived.JoinedTies
import Derived.KernelRfl
namespace Go.Proofs.Ytbgpmekjcepmaab
/- THE CELL 'sum', in the pinned program and in every row, IS THE sha256 OF THE DUMP (.gsa) THAT YtbgpmekjcepmaabProg.lean LOADS. Nothing in Lean hashes anything: it is a label: what it is worth is what the hold of that sum in a sandbox is worth. -/
noncomputable def Try.pinned : Pinned := { name := "ytbgpmekjcepmaab", sum := "7c2fb9888eafb32aaeef80331402325b3e8d4988c2c9bf2b73bcf8656c1bccdc", checked := Try.checked }
namespace Rows
def none {H : Type} : Left H := { results := [], args := [] }

/-- 'jotterlaw04.DocApplies': WHATEVER THE INPUT: true; the input reads as it did. -/
def docAppliesSpec : ChangeSpec := { name := "docApplies", fn := fun _ => fun
  | [d1, d2] => { results := [.lit (.bool true)], args := [d1, d2] }
  | _ => none }
def docAppliesRow : OpenClaim := { program := "ytbgpmekjcepmaab", sum := "7c2fb9888eafb32aaeef80331402325b3e8d4988c2c9bf2b73bcf8656c1bccdc", func := "jotter/jotterlaw04.DocApplies", spec := "docApplies", inPlace := ["slices.overlaps[jotter/api.Elem]"], apart := false }
def DocAppliesSaid : Prop := docAppliesRow.holds Try.pinned (OpenSpec.ofChange docAppliesSpec)

/-- ITS FALSE NEIGHBOUR: 'it returns false'. Refute it at one input. -/
def docAppliesWrong : ChangeSpec := { name := "docApplies", fn := fun _ => fun
  | [d1, d2] => { results := [.lit (.bool false)], args := [d1, d2] }
  | _ => none }
def DocAppliesWrongFalsely : Prop := docAppliesRow.holds Try.pinned (OpenSpec.ofChange docAppliesWrong)

/-- 'jotterlaw04.DocReplays': WHATEVER THE INPUT: true; the input reads as it did. -/
def docReplaysSpec : ChangeSpec := { name := "docReplays", fn := fun _ => fun
  | [d] => { results := [.lit (.bool true)], args := [d] }
  | _ => none }
def docReplaysRow : OpenClaim := { program := "ytbgpmekjcepmaab", sum := "7c2fb9888eafb32aaeef80331402325b3e8d4988c2c9bf2b73bcf8656c1bccdc", func := "jotter/jotterlaw04.DocReplays", spec := "docReplays", inPlace := ["slices.overlaps[jotter/api.Elem]"], apart := false }
def DocReplaysSaid : Prop := docReplaysRow.holds Try.pinned (OpenSpec.ofChange docReplaysSpec)

/-- ITS FALSE NEIGHBOUR: 'it returns false'. Refute it at one input. -/
def docReplaysWrong : ChangeSpec := { name := "docReplays", fn := fun _ => fun
  | [d] => { results := [.lit (.bool false)], args := [d] }
  | _ => none }
def DocReplaysWrongFalsely : Prop := docReplaysRow.holds Try.pinned (OpenSpec.ofChange docReplaysWrong)

/-- 'jotterlaw04.DocFresh': WHATEVER THE INPUT: true; the input reads as it did. -/
def docFreshSpec : ChangeSpec := { name := "docFresh", fn := fun _ => fun
  | [d1, d2] => { results := [.lit (.bool true)], args := [d1, d2] }
  | _ => none }
def docFreshRow : OpenClaim := { program := "ytbgpmekjcepmaab", sum := "7c2fb9888eafb32aaeef80331402325b3e8d4988c2c9bf2b73bcf8656c1bccdc", func := "jotter/jotterlaw04.DocFresh", spec := "docFresh", inPlace := ["slices.overlaps[jotter/api.Elem]"], apart := false }
def DocFreshSaid : Prop := docFreshRow.holds Try.pinned (OpenSpec.ofChange docFreshSpec)

/-- ITS FALSE NEIGHBOUR: 'it returns false'. Refute it at one input. -/
def docFreshWrong : ChangeSpec := { name := "docFresh", fn := fun _ => fun
  | [d1, d2] => { results := [.lit (.bool false)], args := [d1, d2] }
  | _ => none }
def DocFreshWrongFalsely : Prop := docFreshRow.holds Try.pinned (OpenSpec.ofChange docFreshWrong)

/- THE SECOND FORM. 'bulk': how many values and letters a reading holds, each counted each time it is reached (what is shared counts as often as it is met; a slice's spare places count too). A statement '..UptoSaid' is the law's where the arguments, and the package variables that the reading takes, are together of bulk at most 1048576: NARROWER than '..Said'. Prove '..Said' where nothing that the law and all that it calls make is longer than what came in: it says more and counts as full. Else prove '..UptoSaid'. A law counts once. -/
mutual
def uptoBulk {H : Type} : DataW H → Nat
  | .lit (.string bytes) => bytes.length + 1
  | .lit _ => 1
  | .nil => 1
  | .ptr d => uptoBulk d + 1
  | .slice elems spare => uptoBulkAll elems + uptoBulkAll spare + 1
  | .agg parts => uptoBulkAll parts + 1
  | .iface _ d => uptoBulk d + 1
  | .map entries => uptoBulkEntries entries + 1
  | .held _ => 1
def uptoBulkAll {H : Type} : List (DataW H) → Nat
  | [] => 0
  | d :: r => uptoBulk d + uptoBulkAll r
def uptoBulkEntries {H : Type} : List (Lit × DataW H) → Nat
  | [] => 0
  | x :: r => uptoBulkEntry x + uptoBulkEntries r
def uptoBulkEntry {H : Type} : Lit × DataW H → Nat
  | (.string bytes, d) => bytes.length + uptoBulk d + 1
  | (_, d) => uptoBulk d + 1
 end
def uptoSmall : (H : Type) → List (DataW H) → Bool := fun _ ds => decide (uptoBulkAll ds ≤ 1048576)
def OpenSpec.upto (s : _root_.Go.ChangeSpec) : _root_.Go.OpenSpec := { _root_.Go.OpenSpec.ofChange s with cond := some uptoSmall }

/-- 'jotterlaw04.DocApplies', WHERE WHAT IT READS IS OF BULK AT MOST 1048576: true; the input reads as it did. -/
def docAppliesUptoRow : OpenClaim := { program := "ytbgpmekjcepmaab", sum := "7c2fb9888eafb32aaeef80331402325b3e8d4988c2c9bf2b73bcf8656c1bccdc", func := "jotter/jotterlaw04.DocApplies", spec := "docApplies", inPlace := ["slices.overlaps[jotter/api.Elem]"], apart := false, narrowed := true }
def DocAppliesUptoSaid : Prop := docAppliesUptoRow.holds Try.pinned (OpenSpec.upto docAppliesSpec)

/-- 'jotterlaw04.DocReplays', WHERE WHAT IT READS IS OF BULK AT MOST 1048576: true; the input reads as it did. -/
def docReplaysUptoRow : OpenClaim := { program := "ytbgpmekjcepmaab", sum := "7c2fb9888eafb32aaeef80331402325b3e8d4988c2c9bf2b73bcf8656c1bccdc", func := "jotter/jotterlaw04.DocReplays", spec := "docReplays", inPlace := ["slices.overlaps[jotter/api.Elem]"], apart := false, narrowed := true }
def DocReplaysUptoSaid : Prop := docReplaysUptoRow.holds Try.pinned (OpenSpec.upto docReplaysSpec)

/-- 'jotterlaw04.DocFresh', WHERE WHAT IT READS IS OF BULK AT MOST 1048576: true; the input reads as it did. -/
def docFreshUptoRow : OpenClaim := { program := "ytbgpmekjcepmaab", sum := "7c2fb9888eafb32aaeef80331402325b3e8d4988c2c9bf2b73bcf8656c1bccdc", func := "jotter/jotterlaw04.DocFresh", spec := "docFresh", inPlace := ["slices.overlaps[jotter/api.Elem]"], apart := false, narrowed := true }
def DocFreshUptoSaid : Prop := docFreshUptoRow.holds Try.pinned (OpenSpec.upto docFreshSpec)

end Rows
end Go.Proofs.Ytbgpmekjcepmaab
