/-
  changes.
-/
import Derived.Test.YtpjnhjijipcjkaaPf
import Derived.Deep.DeepCutAuto
namespace Go.Proofs.Ytpjnhjijipcjkaa
open Go.RowKit
set_option linter.unusedVariables false

theorem bit1 (s : Int) : bits BinOp.and IntKind.i64 s 1 = 0 ∨ bits BinOp.and IntKind.i64 s 1 = 1 := by
  show IntKind.i64.wrap ((BitVec.ofInt 64 s &&& BitVec.ofInt 64 1).toNat : Int) = 0 ∨ IntKind.i64.wrap ((BitVec.ofInt 64 s &&& BitVec.ofInt 64 1).toNat : Int) = 1
  rw [BitVec.toNat_and, show (BitVec.ofInt 64 1).toNat = 1 from rfl, Nat.and_one_is_mod, IntKind.wrap_i64]
  omega
abbrev opA (k s n v : Int) (ia : Option Addr) (il ic : Nat) : Value := .agg #[.int .i64 k, .int .i64 s, .int .i64 n, .int .i64 v, .slice ia il ic]

end Go.Proofs.Ytpjnhjijipcjkaa
