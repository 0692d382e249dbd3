/-
  DocFresh.
-/
import Derived.Test.YtbgpmekjcepmaabCommon
import Derived.Test.YtbgpmekjcepmaabFresh1
import Derived.Test.YtbgpmekjcepmaabFresh2
namespace Go.Proofs.Ytbgpmekjcepmaab
open Go.RowKit
set_option linter.unusedVariables false

theorem docFresh_any (a : Option Addr) (n c : Nat) (ch : Int) (xs : List El) (w : World) (hE : IsE w a n c xs) (hK : OkE xs) (hN : n * 24 ≤ 140737488351232) (h0 : 0 ≤ ch) (h1 : ch ≤ 255) :
    Calls Try.prog 5 #[.slice a n c, .int .u8 ch] w fun e w' => e = .returned (.bool true) ∧ Below w.heap.size w w' := by
  by_cases h : n ≤ 300
  · exact fresh_low a n c ch xs w hE h h0 h1 _ rfl
  · exact fresh_cut a n c ch xs w hE (by omega) h0 h1 _ rfl

end Go.Proofs.Ytbgpmekjcepmaab
