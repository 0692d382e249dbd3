/-
  Rows of the call's own that grow.
-/
import Derived.Test.YtmkgkgdngjmcmaaDoorNd
namespace Go.Proofs.YtmkgkgdngjmcmaaDoor
open Go.RowKit
set_option linter.unusedVariables false

/-- append of one operation onto a row of the call's own with room or not. -/
theorem push_own {wr : World} {β : Option Nat} {v : Value} {L : List OpE} (h : SO wr β v L) (o : OpE) (hL : L.length ≤ 4096) :
    ∃ v' w3 β', (∀ ty, (Builtin.append_ #[32, 32] ty #[v, .slice (some ⟨wr.heap.size, 0, none⟩) 1 1]).run Tryd.prog (wr.alloc (.cells (opc o).toArray 23)) = .ok v' w3) ∧ SO w3 β' v' (L ++ [o]) ∧ (β' = β ∨ ∃ g, β' = some g ∧ wr.heap.size ≤ g) ∧ Fr (fun k => β = some k) wr w3 := by
  have B1 : Below wr.heap.size wr (wr.alloc (.cells (opc o).toArray 23)) := (Below.refl _ _).alloc (Nat.le_refl _) _
  obtain ⟨v', w3, hr, β', g1, g2, g3⟩ := run_pushO _ β v L (h.below B1) wr.heap.size o (heap_alloc_new _ _) hL
  refine ⟨v', w3, β', hr, g1, ?_, (Fr.of_below B1).trans g3⟩
  rcases g2 with g2 | ⟨g', g2, g4⟩
  · exact .inl g2
  · exact .inr ⟨g', g2, by have := B1.size; omega⟩

def FRel (w wr : World) (b : Nat) (v : Value) (L : List OpE) : Prop := ∃ β, SO wr β v L ∧ (∀ g, β = some g → b ≤ g) ∧ Below w.heap.size w wr

abbrev zcells : Array Value := #[.int .i64 0, .int .i64 0, .int .u8 0, .int .i64 0, .int .i64 0]

/-- One more operation behind a row of the call's own, whatever was made in between. -/
theorem FRel.push {w wr V : World} {b : Nat} {v : Value} {L : List OpE} (h : FRel w wr b v L) (hV : Below wr.heap.size wr V) (hb : w.heap.size ≤ b) (hb2 : b ≤ wr.heap.size) (o : OpE) (hL : L.length ≤ 4096) :
    ∃ v' w3, (∀ ty, (Builtin.append_ #[32, 32] ty #[v, .slice (some ⟨V.heap.size, 0, none⟩) 1 1]).run Tryd.prog (V.alloc (.cells (opc o).toArray 23)) = .ok v' w3) ∧ FRel w w3 b v' (L ++ [o]) ∧
      (∀ k x, k < b → V.heap[k]? = some x → w3.heap[k]? = some x) ∧ Fr (fun k => b ≤ k) V w3 := by
  obtain ⟨β, hS, hβ, hB⟩ := h
  obtain ⟨v', w3, β', hr, g1, g2, g3⟩ := push_own (hS.below hV) o hL
  refine ⟨v', w3, hr, ⟨β', g1, ?_, (hB.trans (hV.mono hB.size)).trans (g3.below (Nat.le_trans hB.size hV.size) (fun k h => Nat.le_trans hb (hβ k h)))⟩, ?_, g3.mono (fun k hk h => hβ k h)⟩
  · intro g hg
    rcases g2 with g2 | ⟨g', g2, g4⟩
    · exact hβ g (g2 ▸ hg)
    · obtain rfl : g' = g := Option.some.inj (g2.symm.trans hg)
      have := hV.size
      omega
  · intro k x hk hx
    exact g3.keeps hx (fun h => by have := hβ k h; omega)

theorem FRel.form {w wr : World} {b : Nat} {v : Value} {L : List OpE} {n : Nat} (h : FRel w wr b v L) (hn : L.length = n) : ∃ a c, v = .slice a n c ∧ IsO wr a n c L ∧ Below w.heap.size w wr := by
  obtain ⟨β, h1, h2, h3⟩ := h
  obtain ⟨a, c, hv, hI⟩ := h1.formN hn
  exact ⟨a, c, hv, hI, h3⟩

theorem num_any (e : Int) (w : World) : Calls Tryd.prog 15 #[.int .i64 e] w fun x w' => x = .returned (.int .i64 e) ∧ w' = w := by
  go_enter Tryd.func15, Tryd.ntmps15
  go_wp2
  go_ret
  exact ⟨rfl, rfl⟩

end Go.Proofs.YtmkgkgdngjmcmaaDoor
