/-
  No cell of these rows narrows 'for every input' (looked for: loops, veiled, ifaces, maps, wideKeys, modest, calm, conditions, laid).
  DERIVED. THE GIVEN ROWS OF THIS SEAT. 6 by the template 'for every input the law returns true; each argument reads behind the call as it read before'; 0 by the template 'total and deterministic' (their statements: YtkkklfnooeofcaaTotals.lean).
  GIVEN WITH THE SEED: the statements are not yours to turn. If you find one false, say at which input.
  Laid BY PROGRAM, IN A SANDBOX (cutbox-rows.mjs): the forced cells as the released guide's own fill.sh prints them over the translation ff3be868cc2763cc… (all of the seat's roots in one cut). By AI agents, Wed Nov 11 2026. No macro, syntax, notation, axiom, sorry.
-/
import Derived.Test.YtkkklfnooeofcaaChecked
import GoSem.Claim
import GoSem.ClaimJoined
import GoSem.ClaimMapViews
import Derived.JoinedTies
import Derived.KernelRfl
namespace Go.Proofs.Ytkkklfnooeofcaa
/- THE CELL 'sum', in the pinned program and in every row, IS THE sha256 OF THE DUMP (.gsa) THAT YtkkklfnooeofcaaProg.lean LOADS. Nothing in Lean hashes anything: it is a label: what it is worth is what the hold of that sum in a sandbox is worth. -/
noncomputable def Try.pinned : Pinned := { name := "ytkkklfnooeofcaa", sum := "ff3be868cc2763cc765936fe6009ebe12335d7bcfbde6661f34e582cc367afc1", checked := Try.checked }
namespace Rows
def none {H : Type} : Left H := { results := [], args := [] }

/-- 'jotterlaw23.NotesCovers': WHATEVER THE INPUT: true; the input reads as it did. -/
def notesCoversSpec : ChangeSpec := { name := "notesCovers", fn := fun _ => fun
  | [d1, d2, d3] => { results := [.lit (.bool true)], args := [d1, d2, d3] }
  | _ => none }
def notesCoversRow : OpenClaim := { program := "ytkkklfnooeofcaa", sum := "ff3be868cc2763cc765936fe6009ebe12335d7bcfbde6661f34e582cc367afc1", func := "jotter/jotterlaw23.NotesCovers", spec := "notesCovers", unfollowed := true, recurses := true, plainKeys := false, apart := false }
def NotesCoversSaid : Prop := notesCoversRow.holds Try.pinned (OpenSpec.ofChange notesCoversSpec)

/-- ITS FALSE NEIGHBOUR: 'it returns false'. Refute it at one input. -/
def notesCoversWrong : ChangeSpec := { name := "notesCovers", fn := fun _ => fun
  | [d1, d2, d3] => { results := [.lit (.bool false)], args := [d1, d2, d3] }
  | _ => none }
def NotesCoversWrongFalsely : Prop := notesCoversRow.holds Try.pinned (OpenSpec.ofChange notesCoversWrong)

/-- 'jotterlaw23.NotesTalks': WHATEVER THE INPUT: true; the input reads as it did. -/
def notesTalksSpec : ChangeSpec := { name := "notesTalks", fn := fun _ => fun
  | [d1, d2] => { results := [.lit (.bool true)], args := [d1, d2] }
  | _ => none }
def notesTalksRow : OpenClaim := { program := "ytkkklfnooeofcaa", sum := "ff3be868cc2763cc765936fe6009ebe12335d7bcfbde6661f34e582cc367afc1", func := "jotter/jotterlaw23.NotesTalks", spec := "notesTalks", plainKeys := false, apart := false }
def NotesTalksSaid : Prop := notesTalksRow.holds Try.pinned (OpenSpec.ofChange notesTalksSpec)

/-- ITS FALSE NEIGHBOUR: 'it returns false'. Refute it at one input. -/
def notesTalksWrong : ChangeSpec := { name := "notesTalks", fn := fun _ => fun
  | [d1, d2] => { results := [.lit (.bool false)], args := [d1, d2] }
  | _ => none }
def NotesTalksWrongFalsely : Prop := notesTalksRow.holds Try.pinned (OpenSpec.ofChange notesTalksWrong)

/-- 'jotterlaw23.NotesTwice': WHATEVER THE INPUT: true; the input reads as it did. -/
def notesTwiceSpec : ChangeSpec := { name := "notesTwice", fn := fun _ => fun
  | [d1, d2, d3, d4, d5] => { results := [.lit (.bool true)], args := [d1, d2, d3, d4, d5] }
  | _ => none }
def notesTwiceRow : OpenClaim := { program := "ytkkklfnooeofcaa", sum := "ff3be868cc2763cc765936fe6009ebe12335d7bcfbde6661f34e582cc367afc1", func := "jotter/jotterlaw23.NotesTwice", spec := "notesTwice", inPlace := ["slices.overlaps[jotter/api.Elem]"], plainKeys := false, apart := false }
def NotesTwiceSaid : Prop := notesTwiceRow.holds Try.pinned (OpenSpec.ofChange notesTwiceSpec)

/-- ITS FALSE NEIGHBOUR: 'it returns false'. Refute it at one input. -/
def notesTwiceWrong : ChangeSpec := { name := "notesTwice", fn := fun _ => fun
  | [d1, d2, d3, d4, d5] => { results := [.lit (.bool false)], args := [d1, d2, d3, d4, d5] }
  | _ => none }
def NotesTwiceWrongFalsely : Prop := notesTwiceRow.holds Try.pinned (OpenSpec.ofChange notesTwiceWrong)

/-- 'jotterlaw23.NotesFollow': WHATEVER THE INPUT: true; the input reads as it did. -/
def notesFollowSpec : ChangeSpec := { name := "notesFollow", fn := fun _ => fun
  | [d1, d2, d3, d4] => { results := [.lit (.bool true)], args := [d1, d2, d3, d4] }
  | _ => none }
def notesFollowRow : OpenClaim := { program := "ytkkklfnooeofcaa", sum := "ff3be868cc2763cc765936fe6009ebe12335d7bcfbde6661f34e582cc367afc1", func := "jotter/jotterlaw23.NotesFollow", spec := "notesFollow", inPlace := ["slices.overlaps[jotter/api.Elem]"], plainKeys := false, apart := false }
def NotesFollowSaid : Prop := notesFollowRow.holds Try.pinned (OpenSpec.ofChange notesFollowSpec)

/-- ITS FALSE NEIGHBOUR: 'it returns false'. Refute it at one input. -/
def notesFollowWrong : ChangeSpec := { name := "notesFollow", fn := fun _ => fun
  | [d1, d2, d3, d4] => { results := [.lit (.bool false)], args := [d1, d2, d3, d4] }
  | _ => none }
def NotesFollowWrongFalsely : Prop := notesFollowRow.holds Try.pinned (OpenSpec.ofChange notesFollowWrong)

/-- 'jotterlaw23.NotesNumbers': WHATEVER THE INPUT: true; the input reads as it did. -/
def notesNumbersSpec : ChangeSpec := { name := "notesNumbers", fn := fun _ => fun
  | [d] => { results := [.lit (.bool true)], args := [d] }
  | _ => none }
def notesNumbersRow : OpenClaim := { program := "ytkkklfnooeofcaa", sum := "ff3be868cc2763cc765936fe6009ebe12335d7bcfbde6661f34e582cc367afc1", func := "jotter/jotterlaw23.NotesNumbers", spec := "notesNumbers", unfollowed := true, recurses := true, plainKeys := false, apart := false }
def NotesNumbersSaid : Prop := notesNumbersRow.holds Try.pinned (OpenSpec.ofChange notesNumbersSpec)

/-- ITS FALSE NEIGHBOUR: 'it returns false'. Refute it at one input. -/
def notesNumbersWrong : ChangeSpec := { name := "notesNumbers", fn := fun _ => fun
  | [d] => { results := [.lit (.bool false)], args := [d] }
  | _ => none }
def NotesNumbersWrongFalsely : Prop := notesNumbersRow.holds Try.pinned (OpenSpec.ofChange notesNumbersWrong)

/-- 'jotterlaw23.NotesSweeps': WHATEVER THE INPUT: true; the input reads as it did. -/
def notesSweepsSpec : ChangeSpec := { name := "notesSweeps", fn := fun _ => fun
  | [d1, d2, d3] => { results := [.lit (.bool true)], args := [d1, d2, d3] }
  | _ => none }
def notesSweepsRow : OpenClaim := { program := "ytkkklfnooeofcaa", sum := "ff3be868cc2763cc765936fe6009ebe12335d7bcfbde6661f34e582cc367afc1", func := "jotter/jotterlaw23.NotesSweeps", spec := "notesSweeps", inPlace := ["slices.overlaps[jotter/api.Elem]"], unfollowed := true, recurses := true, plainKeys := false, apart := false }
def NotesSweepsSaid : Prop := notesSweepsRow.holds Try.pinned (OpenSpec.ofChange notesSweepsSpec)

/-- ITS FALSE NEIGHBOUR: 'it returns false'. Refute it at one input. -/
def notesSweepsWrong : ChangeSpec := { name := "notesSweeps", fn := fun _ => fun
  | [d1, d2, d3] => { results := [.lit (.bool false)], args := [d1, d2, d3] }
  | _ => none }
def NotesSweepsWrongFalsely : Prop := notesSweepsRow.holds Try.pinned (OpenSpec.ofChange notesSweepsWrong)

/- THE SECOND FORM. 'bulk': how many values and letters a reading holds, each counted each time it is reached (what is shared counts as often as it is met; a slice's spare places count too). A statement '..UptoSaid' is the law's where the arguments, and the package variables that the reading takes, are together of bulk at most 1048576: NARROWER than '..Said'. Prove '..Said' where nothing that the law and all that it calls make is longer than what came in: it says more and counts as full. Else prove '..UptoSaid'. A law counts once. -/
mutual
def uptoBulk {H : Type} : DataW H → Nat
  | .lit (.string bytes) => bytes.length + 1
  | .lit _ => 1
  | .nil => 1
  | .ptr d => uptoBulk d + 1
  | .slice elems spare => uptoBulkAll elems + uptoBulkAll spare + 1
  | .agg parts => uptoBulkAll parts + 1
  | .iface _ d => uptoBulk d + 1
  | .map entries => uptoBulkEntries entries + 1
  | .held _ => 1
def uptoBulkAll {H : Type} : List (DataW H) → Nat
  | [] => 0
  | d :: r => uptoBulk d + uptoBulkAll r
def uptoBulkEntries {H : Type} : List (Lit × DataW H) → Nat
  | [] => 0
  | x :: r => uptoBulkEntry x + uptoBulkEntries r
def uptoBulkEntry {H : Type} : Lit × DataW H → Nat
  | (.string bytes, d) => bytes.length + uptoBulk d + 1
  | (_, d) => uptoBulk d + 1
 end
def uptoSmall : (H : Type) → List (DataW H) → Bool := fun _ ds => decide (uptoBulkAll ds ≤ 1048576)
def OpenSpec.upto (s : _root_.Go.ChangeSpec) : _root_.Go.OpenSpec := { _root_.Go.OpenSpec.ofChange s with cond := some uptoSmall }

/-- 'jotterlaw23.NotesCovers', WHERE WHAT IT READS IS OF BULK AT MOST 1048576: true; the input reads as it did. -/
def notesCoversUptoRow : OpenClaim := { program := "ytkkklfnooeofcaa", sum := "ff3be868cc2763cc765936fe6009ebe12335d7bcfbde6661f34e582cc367afc1", func := "jotter/jotterlaw23.NotesCovers", spec := "notesCovers", unfollowed := true, recurses := true, plainKeys := false, apart := false, narrowed := true }
def NotesCoversUptoSaid : Prop := notesCoversUptoRow.holds Try.pinned (OpenSpec.upto notesCoversSpec)

/-- 'jotterlaw23.NotesTalks', WHERE WHAT IT READS IS OF BULK AT MOST 1048576: true; the input reads as it did. -/
def notesTalksUptoRow : OpenClaim := { program := "ytkkklfnooeofcaa", sum := "ff3be868cc2763cc765936fe6009ebe12335d7bcfbde6661f34e582cc367afc1", func := "jotter/jotterlaw23.NotesTalks", spec := "notesTalks", plainKeys := false, apart := false, narrowed := true }
def NotesTalksUptoSaid : Prop := notesTalksUptoRow.holds Try.pinned (OpenSpec.upto notesTalksSpec)

/-- 'jotterlaw23.NotesTwice', WHERE WHAT IT READS IS OF BULK AT MOST 1048576: true; the input reads as it did. -/
def notesTwiceUptoRow : OpenClaim := { program := "ytkkklfnooeofcaa", sum := "ff3be868cc2763cc765936fe6009ebe12335d7bcfbde6661f34e582cc367afc1", func := "jotter/jotterlaw23.NotesTwice", spec := "notesTwice", inPlace := ["slices.overlaps[jotter/api.Elem]"], plainKeys := false, apart := false, narrowed := true }
def NotesTwiceUptoSaid : Prop := notesTwiceUptoRow.holds Try.pinned (OpenSpec.upto notesTwiceSpec)

/-- 'jotterlaw23.NotesFollow', WHERE WHAT IT READS IS OF BULK AT MOST 1048576: true; the input reads as it did. -/
def notesFollowUptoRow : OpenClaim := { program := "ytkkklfnooeofcaa", sum := "ff3be868cc2763cc765936fe6009ebe12335d7bcfbde6661f34e582cc367afc1", func := "jotter/jotterlaw23.NotesFollow", spec := "notesFollow", inPlace := ["slices.overlaps[jotter/api.Elem]"], plainKeys := false, apart := false, narrowed := true }
def NotesFollowUptoSaid : Prop := notesFollowUptoRow.holds Try.pinned (OpenSpec.upto notesFollowSpec)

/-- 'jotterlaw23.NotesNumbers', WHERE WHAT IT READS IS OF BULK AT MOST 1048576: true; the input reads as it did. -/
def notesNumbersUptoRow : OpenClaim := { program := "ytkkklfnooeofcaa", sum := "ff3be868cc2763cc765936fe6009ebe12335d7bcfbde6661f34e582cc367afc1", func := "jotter/jotterlaw23.NotesNumbers", spec := "notesNumbers", unfollowed := true, recurses := true, plainKeys := false, apart := false, narrowed := true }
def NotesNumbersUptoSaid : Prop := notesNumbersUptoRow.holds Try.pinned (OpenSpec.upto notesNumbersSpec)

/-- 'jotterlaw23.NotesSweeps', WHERE WHAT IT READS IS OF BULK AT MOST 1048576: true; the input reads as it did. -/
def notesSweepsUptoRow : OpenClaim := { program := "ytkkklfnooeofcaa", sum := "ff3be868cc2763cc765936fe6009ebe12335d7bcfbde6661f34e582cc367afc1", func := "jotter/jotterlaw23.NotesSweeps", spec := "notesSweeps", inPlace := ["slices.overlaps[jotter/api.Elem]"], unfollowed := true, recurses := true, plainKeys := false, apart := false, narrowed := true }
def NotesSweepsUptoSaid : Prop := notesSweepsUptoRow.holds Try.pinned (OpenSpec.upto notesSweepsSpec)

end Rows
end Go.Proofs.Ytkkklfnooeofcaa
