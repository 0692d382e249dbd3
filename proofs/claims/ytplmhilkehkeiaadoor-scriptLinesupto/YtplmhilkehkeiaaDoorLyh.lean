/-
  ScriptLines: what it holds.
-/
import Derived.Test.YtplmhilkehkeiaaDoorLx
namespace Go.Proofs.YtplmhilkehkeiaaDoor
open Go.RowKit
set_option linter.unusedVariables false

/-- What the law holds. -/
structure LS (w wr : World) (E : En) (m lb xb la xa lf xf lt xt : Nat) (ab aa af at' : Option Addr) (cb ca cf ct : Nat) (ta tt : List Int) : Prop where
  bel : Below w.heap.size w wr
  b : Ob wr lb xb E ab m cb (bI E.bytes)
  a : Ob wr la xa E aa m ca ta
  f : Ob wr lf xf ({ kind := 13, site := 1, bytes := [255, 238] } : En) af 2 cf [255, 238]
  t : Ob wr lt xt E at' m ct tt
  o : w.heap.size ≤ lb ∧ xb < la ∧ xa < lf ∧ xf < lt ∧ xt < wr.heap.size

theorem LS.to {w wr wu : World} {E : En} {m lb xb la xa lf xf lt xt : Nat} {ab aa af at' : Option Addr} {cb ca cf ct : Nat} {ta tt : List Int} (h : LS w wr E m lb xb la xa lf xf lt xt ab aa af at' cb ca cf ct ta tt) (hb : Below wr.heap.size wr wu) : LS w wu E m lb xb la xa lf xf lt xt ab aa af at' cb ca cf ct ta tt := by
  obtain ⟨o1, o2, o3, o4, o5⟩ := h.o
  have := h.b.le; have := h.a.le; have := h.f.le; have := h.t.le
  have := hb.size
  exact ⟨h.bel.trans (hb.mono (by omega)), h.b.to hb (by omega), h.a.to hb (by omega), h.f.to hb (by omega), h.t.to hb (by omega), o1, o2, o3, o4, by omega⟩

end Go.Proofs.YtplmhilkehkeiaaDoor
