/-
  A region that draws its order, whose operations only read, and whose callees make new blocks at most: one walk, in the order of the text.
-/
import Derived.Test.YtfhghijefjhehaaDoorHf
import Derived.Deep.Quiet
namespace Go.Proofs.YtfhghijefjhehaaDoor
open Go.RowKit
set_option linter.unusedVariables false

/-- A world in which all that was there at u is as it was. -/
structure Wd (u : World) where
  W : World
  ok : Below u.heap.size u W

theorem Wd.cell {u : World} (x : Wd u) {p : Addr} {v : Value} (h : u.cell? p = some v) (hp : p.block < u.heap.size) : x.W.cell? p = some v := (x.ok.cell (p := p) hp).trans h

theorem wp_region_calm {P : Program} {id : Nat} {Q : Exit → Act → World → Prop} {a : Act} {w : World} {l : List Oper} (hm : P.follows .mixedOrders = true) (hB : Region.lexB .any l.toArray = true)
    (h : wpQuiet P l.toArray (fun w' => ∃ x : Wd w, w' = x.W) (fun a' => ∀ w', (∃ x : Wd w, w' = x.W) → Q .normal a' w') l a) : (Code.region id l.toArray true).wp P Q a w :=
  wp_region_quiet (C := fun w' => ∃ x : Wd w, w' = x.W) hm hB ⟨⟨_, below_drewN (Below.refl _ w) 1⟩, rfl⟩ (by simpa using h)

theorem calm_call {P : Program} {f : FuncId} {args : Array Value} {u : World} {v : Value} {x : Wd u} (h : Calls P f args x.W fun e w' => e = .returned v ∧ Below x.W.heap.size x.W w') : Calls P f args x.W fun e w' => e = .returned v ∧ ∃ y : Wd u, w' = y.W :=
  h.mono fun e w' ⟨he, hb⟩ => ⟨he, ⟨w', x.ok.trans (hb.mono x.ok.size)⟩, rfl⟩

end Go.Proofs.YtfhghijefjhehaaDoor
