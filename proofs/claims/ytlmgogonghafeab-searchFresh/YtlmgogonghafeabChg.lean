/-
  change, and Apply.
-/
import Derived.Test.YtlmgogonghafeabDel
import Derived.Test.YtlmgogonghafeabVb
namespace Go.Proofs.Ytlmgogonghafeab
open Go.RowKit Go.Lib
set_option linter.unusedVariables false

/-- The text behind an operation that fits. -/
def applyP (xs : List El) (o : OpE) : List El :=
  if o.kind = 1 then xs.take o.pos.toNat ++ (o.ch, o.cl, o.sq) :: xs.drop o.pos.toNat
  else if o.kind = 2 then xs.take o.pos.toNat ++ xs.drop (o.pos.toNat + 1)
  else xs

theorem NowE.base {w w1 w2 : World} {β : Option Nat} {v : Value} {ys : List El} (hN : NowE w1 w2 β v ys) (hb : Below w.heap.size w w1) (hβ : ∀ g, β = some g → g < w.heap.size) : NowE w w2 β v ys := by
  obtain ⟨β', h1, h2, h3⟩ := hN
  refine ⟨β', h1, ?_, (Fr.of_below hb).trans h3⟩
  rcases h2 with h2 | ⟨g, h2, h4⟩
  · exact .inl h2
  · exact .inr ⟨g, h2, Nat.le_trans hb.size h4⟩

theorem applyP_len {xs : List El} {o : OpE} (hf : fitsP xs.length o = 0) : ((applyP xs o).length : Int) = if o.kind = 1 then (xs.length : Int) + 1 else if o.kind = 2 then (xs.length : Int) - 1 else (xs.length : Int) := by
  obtain ⟨hv, h0, h1, h2, h3⟩ := fitsP_zero hf
  unfold applyP
  rcases h2 with h2 | ⟨h2, h4, h5⟩ | ⟨h2, h4⟩ <;> simp [h2] <;> omega

theorem applyP_le {xs : List El} {o : OpE} (hf : fitsP xs.length o = 0) : (applyP xs o).length ≤ 4096 := by
  obtain ⟨hv, h0, h1, h2, h3⟩ := fitsP_zero hf
  have := applyP_len hf
  rcases h2 with h2 | ⟨h2, h4, h5⟩ | ⟨h2, h4⟩ <;> simp [h2] at this <;> omega

end Go.Proofs.Ytlmgogonghafeab
