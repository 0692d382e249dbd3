/-
  The document's words of a form.
-/
import Derived.Test.YtplmhilkehkeiaaDoorRe
namespace Go.Proofs.YtplmhilkehkeiaaDoor
open Go.RowKit
set_option linter.unusedVariables false

theorem heap2 (w : World) (a b : Obj) : ((w.alloc a).alloc b).heap[w.heap.size + 1]? = some b := by
  have := heap_alloc_new (w.alloc a) b
  rwa [World.size_alloc] at this

set_option maxRecDepth 100000 in
set_option maxHeartbeats 4000000 in
theorem rwords_any (k : Int) (w : World) (h0 : 0 ≤ k) (h13 : k ≤ 13) : Calls Tryd.prog 29 #[.int .i64 k] w fun e w' => ∃ v, e = .returned v ∧ NL cW 3 67 w' w.heap.size v (fl k) ∧ Below w.heap.size w w' := by
  have : k = 0 ∨ k = 1 ∨ k = 2 ∨ k = 3 ∨ k = 4 ∨ k = 5 ∨ k = 6 ∨ k = 7 ∨ k = 8 ∨ k = 9 ∨ k = 10 ∨ k = 11 ∨ k = 12 ∨ k = 13 := by omega
  clear h0 h13
  have B1 : Below w.heap.size w (w.alloc (.cells #[.int .u8 65, .int .i64 0, .int .i64 2047] 67)) := (Below.refl _ _).alloc (Nat.le_refl _) _
  have HB1 := hd B1
  clear B1
  rcases this with rfl | rfl | rfl | rfl | rfl | rfl | rfl | rfl | rfl | rfl | rfl | rfl | rfl | rfl
  all_goals
    go_enter Tryd.func29, Tryd.ntmps29
    go_wp2
    go_ret
    first
      | exact ⟨_, rfl, NL.nil _ _, HB1.out⟩
      | (refine ⟨_, rfl, ⟨some (w.heap.size + 1), ⟨_, rfl, _, heap2 _ _ _, ?_, rfl, ?_, ?_, ?_⟩, fun g hg => by cases hg; exact Nat.le_succ _⟩, HB1.out.alloc (by simp) _⟩
         all_goals first | rfl | decide)

end Go.Proofs.YtplmhilkehkeiaaDoor
