/-
  DocUndo: both ways.
-/
import Derived.Test.YtbgpmekjcepmaaaUndo2
namespace Go.Proofs.Ytbgpmekjcepmaaa
open Go.RowKit
set_option linter.unusedVariables false

theorem docUndo_any (a : Option Addr) (n cc : Nat) (x ch : Int) (xs : List El) (w : World) (hE : IsE w a n cc xs) (hO : ∀ x ∈ xs, 0 ≤ x.1 ∧ x.1 ≤ 255) (hn : n * 24 ≤ 140737488351232) (h0 : 0 ≤ ch) (h1 : ch ≤ 255) :
    Calls Try.prog 6 #[.slice a n cc, .int .i64 x, .int .u8 ch] w fun e w' => e = .returned (.bool true) ∧ Below w.heap.size w w' := by
  by_cases h : n < 4096
  · exact undo_in_walk a n cc x ch _ xs w hE hO h rfl (char_range h0).1 (char_range h0).2 h0 h1
  · exact undo_cut_walk a n cc x ch _ xs w hE hO (by omega) rfl (char_range h0).1 (char_range h0).2 h0 h1

end Go.Proofs.Ytbgpmekjcepmaaa
