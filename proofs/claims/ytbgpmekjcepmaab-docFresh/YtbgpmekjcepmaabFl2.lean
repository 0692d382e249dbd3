/-
  DocFresh: small facts.
-/
import Derived.Test.YtbgpmekjcepmaabFk2
namespace Go.Proofs.Ytbgpmekjcepmaab
open Go.RowKit
set_option linter.unusedVariables false

theorem find_lt (cl sq : Int) : ∀ (ys : List El) (k : Nat), findP cl sq ys k < (k : Int) + (ys.length : Int)
  | [], k => by unfold findP; simp; omega
  | y :: ys, k => by
    unfold findP
    have := find_lt cl sq ys (k + 1)
    split
    · simp; omega
    · simp; omega

theorem bstr_sz (ns : List Int) : (bstr ns).size = ns.length := by
  have go : ∀ (ns : List Int) (b : ByteArray), (ns.foldl (fun r n => r.push (UInt8.ofNat n.toNat)) b).size = b.size + ns.length := by
    intro ns
    induction ns with
    | nil => intro b; simp
    | cons x ns ih => intro b; rw [List.foldl_cons, ih, ByteArray.size_push, List.length_cons]; omega
  unfold bstr
  rw [go]
  simp

theorem fresh_ok : OkO [⟨1, 0, 114, 5, 5⟩, ⟨0, 0, 0, 5, 6⟩] := by
  intro o ho
  simp at ho
  rcases ho with rfl | rfl
  · simp only; omega
  · simp only; omega

theorem fresh_replay : replayP [⟨1, 0, 114, 5, 5⟩, ⟨0, 0, 0, 5, 6⟩] [] 0 = ([(114, 5, 5)], 2, 0) := by decide +kernel

theorem roomyP_take (xs : List El) : (roomyP xs).take xs.length = xs := by simp [roomyP]

end Go.Proofs.Ytbgpmekjcepmaab
