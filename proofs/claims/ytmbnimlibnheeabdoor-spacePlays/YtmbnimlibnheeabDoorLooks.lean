/-
  SpaceLooks: the walk.
-/
import Derived.Test.YtmbnimlibnheeabDoorSh
namespace Go.Proofs.YtmbnimlibnheeabDoor
open Go.RowKit
set_option linter.unusedVariables false

section
variable {w0 w w' : World} {K : Nat → Prop} {F : Nat → Thg} {x : Nat} {p : Sp}
theorem mb_queue (h : MO w0 w K F) (i : Nat) (hi : F i = spO x p) : Calls Tryd.prog 17 #[.pointer (some ⟨x, 0, none⟩)] w fun e w' => ∃ u, e = .returned u ∧ ML w' w.heap.size u p.q ∧ Below w.heap.size w w' := by
  obtain ⟨S, h1, -⟩ := h.now i
  rw [hi] at h1
  exact queue_any x p S w h1
theorem mb_look (h : MO w0 w K F) (i : Nat) (hi : F i = spO x p) (hT : Table w0) (o : OpE) (ho : OkOp o) : Calls Tryd.prog 30 #[.pointer (some ⟨x, 0, none⟩), o.val] w fun e w' => e = .returned (.tuple #[(crossO p o).val, .int .i64 (validP o)]) ∧ Below w.heap.size w w' := by
  obtain ⟨S, h1, -⟩ := h.now i
  rw [hi] at h1
  exact look_any x p o S w h1 (h.table hT) ho
end


end Go.Proofs.YtmbnimlibnheeabDoor
