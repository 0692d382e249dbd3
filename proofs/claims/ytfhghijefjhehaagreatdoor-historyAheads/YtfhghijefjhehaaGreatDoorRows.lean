/-
  NARROWER THAN 'FOR EVERY INPUT', by the rows' own cells (each row's printed sentence says how): HistoryPaths: laid · HistoryAheads: laid · HistoryJudges: laid.
  DERIVED. THE GIVEN ROWS OF THIS SEAT. 3 by the template 'for every input the law returns true; each argument reads behind the call as it read before'; 0 by the template 'total and deterministic' (their statements: YtfhghijefjhehaaGreatDoorTotals.lean).
  GIVEN WITH THE SEED: the statements are not yours to turn. If you find one false, say at which input.
  Laid BY PROGRAM, IN A SANDBOX (cutbox-rows.mjs): the forced cells as the released guide's own fill.sh prints them over the translation 485856f308592380… (all of the seat's roots in one cut). By AI agents, Wed Nov 11 2026. No macro, syntax, notation, axiom, sorry.
-/
import Derived.Test.YtfhghijefjhehaaGreatDoorChecked
import GoSem.Claim
import GoSem.ClaimJoined
import GoSem.ClaimMapViews
import Derived.JoinedTies
import Derived.KernelRfl
namespace Go.Proofs.YtfhghijefjhehaaGreatDoor
/- THE CELL 'sum', in the pinned program and in every row, IS THE sha256 OF THE DUMP (.gsa) THAT YtfhghijefjhehaaGreatDoorProg.lean LOADS. Nothing in Lean hashes anything: it is a label: what it is worth is what the hold of that sum in a sandbox is worth. -/
noncomputable def Tryz.pinned : Pinned := { name := "ytfhghijefjhehaagreatdoor", sum := "485856f30859238069900699063e7eca8292877aeacb7ee256f8eae4bf104f0e", checked := Tryz.checked }
namespace Rows
def none {H : Type} : Left H := { results := [], args := [] }

/- WHAT THE LISTED PACKAGE-LEVEL VARIABLES READ AS WHEN THE CALL BEGINS. Each datum BY PROGRAM (the guide's laid-datum.mjs) off the statement by which the dump's own 'gosem.cut.vars' lays the variable. In a bare row this is a premise. The card (YtfhghijefjhehaaGreatDoorCards.lean) ties it to the program's text. -/
def laid_errors_errorType {H : Type} : DataW H := .iface "internal/reflectlite.rtype" (.agg [.ptr (.lit (.string [101, 114, 114, 111, 114]))])
def laid_jotter_ot_rules {H : Type} : DataW H := .agg [.agg [.lit (.int .i64 0), .lit (.int .i64 0), .lit (.int .i64 0)], .agg [.lit (.int .i64 0), .lit (.int .i64 1), .lit (.int .i64 2)], .agg [.lit (.int .i64 0), .lit (.int .i64 3), .lit (.int .i64 4)]]

/-- 'jotterlaw14.HistoryPaths': WHATEVER THE INPUT: true; the input reads as it did. -/
def historyPathsSpec : ChangeSpec := { name := "historyPaths", fn := fun _ => fun
  | [d1, d2] => { results := [.lit (.bool true)], args := [d1, d2] }
  | _ => none }
def historyPathsRow : OpenClaim := { program := "ytfhghijefjhehaagreatdoor", sum := "485856f30859238069900699063e7eca8292877aeacb7ee256f8eae4bf104f0e", func := "jotter/jotterlaw14.HistoryPaths", spec := "historyPaths", inPlace := ["slices.overlaps[jotter/api.Elem]", "internal/reflectlite.ValueOf", "(internal/reflectlite.Value).Type", "(internal/reflectlite.Value).IsNil", "internal/reflectlite.TypeOf", "(internal/reflectlite.Value).Elem", "(internal/reflectlite.Value).Set"], unfollowed := true, recurses := true, named := ["jotter/ot.rules", "errors.errorType"], plainKeys := false, apart := false, laid := [("errors.errorType", laid_errors_errorType), ("jotter/ot.rules", laid_jotter_ot_rules)] }
def HistoryPathsSaid : Prop := historyPathsRow.holds Tryz.pinned (OpenSpec.ofChange historyPathsSpec)

/-- ITS FALSE NEIGHBOUR: 'it returns false'. Refute it at one input. -/
def historyPathsWrong : ChangeSpec := { name := "historyPaths", fn := fun _ => fun
  | [d1, d2] => { results := [.lit (.bool false)], args := [d1, d2] }
  | _ => none }
def HistoryPathsWrongFalsely : Prop := historyPathsRow.holds Tryz.pinned (OpenSpec.ofChange historyPathsWrong)

/-- 'jotterlaw14.HistoryAheads': WHATEVER THE INPUT: true; the input reads as it did. -/
def historyAheadsSpec : ChangeSpec := { name := "historyAheads", fn := fun _ => fun
  | [d1, d2] => { results := [.lit (.bool true)], args := [d1, d2] }
  | _ => none }
def historyAheadsRow : OpenClaim := { program := "ytfhghijefjhehaagreatdoor", sum := "485856f30859238069900699063e7eca8292877aeacb7ee256f8eae4bf104f0e", func := "jotter/jotterlaw14.HistoryAheads", spec := "historyAheads", inPlace := ["slices.overlaps[jotter/api.Elem]", "internal/reflectlite.ValueOf", "(internal/reflectlite.Value).Type", "(internal/reflectlite.Value).IsNil", "internal/reflectlite.TypeOf", "(internal/reflectlite.Value).Elem", "(internal/reflectlite.Value).Set"], unfollowed := true, recurses := true, named := ["jotter/ot.rules", "errors.errorType"], plainKeys := false, apart := false, laid := [("errors.errorType", laid_errors_errorType), ("jotter/ot.rules", laid_jotter_ot_rules)] }
def HistoryAheadsSaid : Prop := historyAheadsRow.holds Tryz.pinned (OpenSpec.ofChange historyAheadsSpec)

/-- ITS FALSE NEIGHBOUR: 'it returns false'. Refute it at one input. -/
def historyAheadsWrong : ChangeSpec := { name := "historyAheads", fn := fun _ => fun
  | [d1, d2] => { results := [.lit (.bool false)], args := [d1, d2] }
  | _ => none }
def HistoryAheadsWrongFalsely : Prop := historyAheadsRow.holds Tryz.pinned (OpenSpec.ofChange historyAheadsWrong)

/-- 'jotterlaw14.HistoryJudges': WHATEVER THE INPUT: true; the input reads as it did. -/
def historyJudgesSpec : ChangeSpec := { name := "historyJudges", fn := fun _ => fun
  | [d] => { results := [.lit (.bool true)], args := [d] }
  | _ => none }
def historyJudgesRow : OpenClaim := { program := "ytfhghijefjhehaagreatdoor", sum := "485856f30859238069900699063e7eca8292877aeacb7ee256f8eae4bf104f0e", func := "jotter/jotterlaw14.HistoryJudges", spec := "historyJudges", inPlace := ["slices.overlaps[jotter/api.Elem]", "(*internal/sync.Mutex).Lock", "internal/race.Disable", "sync/atomic.CompareAndSwapInt32", "internal/race.Enable", "internal/race.Acquire", "(*internal/sync.Mutex).lockSlow", "internal/sync.runtime_canSpin", "internal/sync.runtime_doSpin", "internal/sync.throw", "internal/sync.runtime_nanotime", "internal/sync.runtime_SemacquireMutex", "sync/atomic.AddInt32", "(*internal/sync.Mutex).Unlock", "internal/race.ReleaseMerge", "(*internal/sync.Mutex).unlockSlow", "internal/sync.fatal", "internal/sync.runtime_Semrelease", "(*sync.WaitGroup).Add", "internal/synctest.IsInBubble", "internal/synctest.Associate[sync.WaitGroup]", "sync.fatal", "sync/atomic.OrUint64", "sync/atomic.AddUint64", "internal/race.Read", "sync/atomic.LoadUint64", "sync/atomic.StoreUint64", "internal/synctest.Disassociate[sync.WaitGroup]", "sync.runtime_Semrelease", "(*sync.WaitGroup).Done", "(*sync.WaitGroup).Wait", "internal/synctest.IsAssociated[sync.WaitGroup]", "sync/atomic.CompareAndSwapUint64", "internal/race.Write", "sync.runtime_SemacquireWaitGroup", "internal/reflectlite.ValueOf", "(internal/reflectlite.Value).Type", "(internal/reflectlite.Value).IsNil", "internal/reflectlite.TypeOf", "(internal/reflectlite.Value).Elem", "(internal/reflectlite.Value).Set"], unfollowed := true, recurses := true, named := ["jotter/ot.rules", "errors.errorType"], plainKeys := false, apart := false, laid := [("errors.errorType", laid_errors_errorType), ("jotter/ot.rules", laid_jotter_ot_rules)] }
def HistoryJudgesSaid : Prop := historyJudgesRow.holds Tryz.pinned (OpenSpec.ofChange historyJudgesSpec)

/-- ITS FALSE NEIGHBOUR: 'it returns false'. Refute it at one input. -/
def historyJudgesWrong : ChangeSpec := { name := "historyJudges", fn := fun _ => fun
  | [d] => { results := [.lit (.bool false)], args := [d] }
  | _ => none }
def HistoryJudgesWrongFalsely : Prop := historyJudgesRow.holds Tryz.pinned (OpenSpec.ofChange historyJudgesWrong)

/- THE SECOND FORM. 'bulk': how many values and letters a reading holds, each counted each time it is reached (what is shared counts as often as it is met; a slice's spare places count too). A statement '..UptoSaid' is the law's where the arguments, and the package variables that the reading takes, are together of bulk at most 1048576: NARROWER than '..Said'. Prove '..Said' where nothing that the law and all that it calls make is longer than what came in: it says more and counts as full. Else prove '..UptoSaid'. A law counts once. -/
mutual
def uptoBulk {H : Type} : DataW H → Nat
  | .lit (.string bytes) => bytes.length + 1
  | .lit _ => 1
  | .nil => 1
  | .ptr d => uptoBulk d + 1
  | .slice elems spare => uptoBulkAll elems + uptoBulkAll spare + 1
  | .agg parts => uptoBulkAll parts + 1
  | .iface _ d => uptoBulk d + 1
  | .map entries => uptoBulkEntries entries + 1
  | .held _ => 1
def uptoBulkAll {H : Type} : List (DataW H) → Nat
  | [] => 0
  | d :: r => uptoBulk d + uptoBulkAll r
def uptoBulkEntries {H : Type} : List (Lit × DataW H) → Nat
  | [] => 0
  | x :: r => uptoBulkEntry x + uptoBulkEntries r
def uptoBulkEntry {H : Type} : Lit × DataW H → Nat
  | (.string bytes, d) => bytes.length + uptoBulk d + 1
  | (_, d) => uptoBulk d + 1
 end
def uptoSmall : (H : Type) → List (DataW H) → Bool := fun _ ds => decide (uptoBulkAll ds ≤ 1048576)
def OpenSpec.upto (s : _root_.Go.ChangeSpec) : _root_.Go.OpenSpec := { _root_.Go.OpenSpec.ofChange s with cond := some uptoSmall }

/-- 'jotterlaw14.HistoryPaths', WHERE WHAT IT READS IS OF BULK AT MOST 1048576: true; the input reads as it did. -/
def historyPathsUptoRow : OpenClaim := { program := "ytfhghijefjhehaagreatdoor", sum := "485856f30859238069900699063e7eca8292877aeacb7ee256f8eae4bf104f0e", func := "jotter/jotterlaw14.HistoryPaths", spec := "historyPaths", inPlace := ["slices.overlaps[jotter/api.Elem]", "internal/reflectlite.ValueOf", "(internal/reflectlite.Value).Type", "(internal/reflectlite.Value).IsNil", "internal/reflectlite.TypeOf", "(internal/reflectlite.Value).Elem", "(internal/reflectlite.Value).Set"], unfollowed := true, recurses := true, named := ["jotter/ot.rules", "errors.errorType"], plainKeys := false, apart := false, laid := [("errors.errorType", laid_errors_errorType), ("jotter/ot.rules", laid_jotter_ot_rules)], narrowed := true }
def HistoryPathsUptoSaid : Prop := historyPathsUptoRow.holds Tryz.pinned (OpenSpec.upto historyPathsSpec)

/-- 'jotterlaw14.HistoryAheads', WHERE WHAT IT READS IS OF BULK AT MOST 1048576: true; the input reads as it did. -/
def historyAheadsUptoRow : OpenClaim := { program := "ytfhghijefjhehaagreatdoor", sum := "485856f30859238069900699063e7eca8292877aeacb7ee256f8eae4bf104f0e", func := "jotter/jotterlaw14.HistoryAheads", spec := "historyAheads", inPlace := ["slices.overlaps[jotter/api.Elem]", "internal/reflectlite.ValueOf", "(internal/reflectlite.Value).Type", "(internal/reflectlite.Value).IsNil", "internal/reflectlite.TypeOf", "(internal/reflectlite.Value).Elem", "(internal/reflectlite.Value).Set"], unfollowed := true, recurses := true, named := ["jotter/ot.rules", "errors.errorType"], plainKeys := false, apart := false, laid := [("errors.errorType", laid_errors_errorType), ("jotter/ot.rules", laid_jotter_ot_rules)], narrowed := true }
def HistoryAheadsUptoSaid : Prop := historyAheadsUptoRow.holds Tryz.pinned (OpenSpec.upto historyAheadsSpec)

/-- 'jotterlaw14.HistoryJudges', WHERE WHAT IT READS IS OF BULK AT MOST 1048576: true; the input reads as it did. -/
def historyJudgesUptoRow : OpenClaim := { program := "ytfhghijefjhehaagreatdoor", sum := "485856f30859238069900699063e7eca8292877aeacb7ee256f8eae4bf104f0e", func := "jotter/jotterlaw14.HistoryJudges", spec := "historyJudges", inPlace := ["slices.overlaps[jotter/api.Elem]", "(*internal/sync.Mutex).Lock", "internal/race.Disable", "sync/atomic.CompareAndSwapInt32", "internal/race.Enable", "internal/race.Acquire", "(*internal/sync.Mutex).lockSlow", "internal/sync.runtime_canSpin", "internal/sync.runtime_doSpin", "internal/sync.throw", "internal/sync.runtime_nanotime", "internal/sync.runtime_SemacquireMutex", "sync/atomic.AddInt32", "(*internal/sync.Mutex).Unlock", "internal/race.ReleaseMerge", "(*internal/sync.Mutex).unlockSlow", "internal/sync.fatal", "internal/sync.runtime_Semrelease", "(*sync.WaitGroup).Add", "internal/synctest.IsInBubble", "internal/synctest.Associate[sync.WaitGroup]", "sync.fatal", "sync/atomic.OrUint64", "sync/atomic.AddUint64", "internal/race.Read", "sync/atomic.LoadUint64", "sync/atomic.StoreUint64", "internal/synctest.Disassociate[sync.WaitGroup]", "sync.runtime_Semrelease", "(*sync.WaitGroup).Done", "(*sync.WaitGroup).Wait", "internal/synctest.IsAssociated[sync.WaitGroup]", "sync/atomic.CompareAndSwapUint64", "internal/race.Write", "sync.runtime_SemacquireWaitGroup", "internal/reflectlite.ValueOf", "(internal/reflectlite.Value).Type", "(internal/reflectlite.Value).IsNil", "internal/reflectlite.TypeOf", "(internal/reflectlite.Value).Elem", "(internal/reflectlite.Value).Set"], unfollowed := true, recurses := true, named := ["jotter/ot.rules", "errors.errorType"], plainKeys := false, apart := false, laid := [("errors.errorType", laid_errors_errorType), ("jotter/ot.rules", laid_jotter_ot_rules)], narrowed := true }
def HistoryJudgesUptoSaid : Prop := historyJudgesUptoRow.holds Tryz.pinned (OpenSpec.upto historyJudgesSpec)

end Rows
end Go.Proofs.YtfhghijefjhehaaGreatDoor
