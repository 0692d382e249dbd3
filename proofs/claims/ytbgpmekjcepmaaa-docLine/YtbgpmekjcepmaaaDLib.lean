/-
  A line of made operations, in memory.
-/
import Derived.Test.YtbgpmekjcepmaaaMade
import Derived.Test.YtbgpmekjcepmaaaRowsO
import Derived.Test.YtbgpmekjcepmaaaOpensS
namespace Go.Proofs.Ytbgpmekjcepmaaa
open Go.RowKit
set_option linter.unusedVariables false

theorem SO.formN {w : World} {β : Option Nat} {v : Value} {os : List OpE} {n : Nat} (h : SO w β v os) (hn : os.length = n) : ∃ a c, v = .slice a n c ∧ IsO w a n c os := by
  subst hn
  exact h.form
theorem MineE.formN {w : World} {base : Nat} {v : Value} {xs : List El} {n : Nat} (h : MineE w base v xs) (hn : xs.length = n) : ∃ δ a c, v = .slice a n c ∧ IsE w a n c xs ∧ SE w δ v xs ∧ ∀ g, δ = some g → base ≤ g := by
  subst hn
  obtain ⟨δ, h1, h2⟩ := h
  obtain ⟨a, c, e, hI, _⟩ := h1.form
  exact ⟨δ, a, c, e, hI, h1, h2⟩

/-- What holds while the line is made. -/
def LRel (w wr : World) (line : Value) (nv k : Nat) (L : List OpE) (xs : List El) : Prop :=
  ∃ β, SO wr β line L ∧ (∀ g, β = some g → w.heap.size ≤ g) ∧ L.length = k ∧ replayP L [] 0 = (xs, k, 0) ∧ xs.length = nv ∧ nv ≤ k ∧ OkO L ∧ Below w.heap.size w wr

theorem LRel.start (w : World) : LRel w w (.slice none 0 0) 0 0 [] [] :=
  ⟨none, ⟨rfl, rfl⟩, fun g h => (by cases h), rfl, rfl, rfl, Nat.le_refl _, fun o ho => (by cases ho), Below.refl _ _⟩

theorem LRel.form {w wr : World} {line : Value} {nv k : Nat} {L : List OpE} {xs : List El} (h : LRel w wr line nv k L xs) : ∃ a c, line = .slice a k c ∧ IsO wr a k c L := by
  obtain ⟨β, h1, h2, h3, _⟩ := h
  exact h1.formN h3

/-- One more operation: the row that the append leaves. -/
theorem LRel.push {w wr w2 : World} {line : Value} {nv k : Nat} {L : List OpE} {xs : List El} (h : LRel w wr line nv k L xs) (hb : Below wr.heap.size wr w2) (o : OpE) (hm : MadeOp nv k o) (hc : 0 ≤ o.ch ∧ o.ch ≤ 255) (hk : k < 60) :
    ∃ v' w3, (∀ ty, (Builtin.append_ #[43, 43] ty #[line, .slice (some ⟨w2.heap.size + 1, 0, none⟩) 1 1]).run Try.prog ((w2.alloc (.cells (opc o).toArray 23)).alloc (.cells (opc o).toArray 23)) = .ok v' w3) ∧
      LRel w w3 v' (if o.kind = 2 then nv - 1 else nv + 1) (k + 1) (L ++ [o]) (applyP xs o) ∧ w3.cell? ⟨w2.heap.size, 0, none⟩ = some (.int .i64 o.kind) ∧
      (∀ i, w3.cell? ⟨w2.heap.size, i, none⟩ = (opc o)[i]?) ∧ w2.heap.size < w3.heap.size := by
  obtain ⟨β, h1, h2, h3, h4, h5, h6, h7, h8⟩ := h
  have B1 : Below wr.heap.size wr ((w2.alloc (.cells (opc o).toArray 23)).alloc (.cells (opc o).toArray 23)) := (hb.alloc hb.size _).alloc (by have := hb.size; simp; omega) _
  have hvb : ((w2.alloc (.cells (opc o).toArray 23)).alloc (.cells (opc o).toArray 23)).heap[w2.heap.size + 1]? = some (.cells (opc o).toArray 23 (0, 0)) := by
    rw [show w2.heap.size + 1 = (w2.alloc (.cells (opc o).toArray 23)).heap.size from by simp, heap_alloc_new]
  obtain ⟨v', w3, hr, β', g1, g2, g3⟩ := run_pushO _ β line L (h1.below B1) (w2.heap.size + 1) o hvb (by omega)
  have hf : fitsP xs.length o = 0 := by rw [h5]; exact hm.fits (by omega) (by omega)
  have hlen := applyP_len hf
  have h1' : Fr (fun _ => False) w2 ((w2.alloc (.cells (opc o).toArray 23)).alloc (.cells (opc o).toArray 23)) := (Fr.alloc _ _ _).trans (Fr.alloc _ _ _)
  have hblk : w3.heap[w2.heap.size]? = some (.cells (opc o).toArray 23 (0, 0)) := by
    have hne : ¬ β = some w2.heap.size := fun h => by have := h1.lt _ h; have := hb.size; omega
    refine g3.keeps ?_ hne
    rw [heap_alloc_old _ _ (by simp), heap_alloc_new]
  refine ⟨v', w3, hr, ⟨β', g1, ?_, by simp [h3], replayP_more h4 hf, ?_, ?_, ?_, ?_⟩, ?_, ?_, ?_⟩
  · intro g hg
    rcases g2 with g2 | ⟨g', g2, g4⟩
    · exact h2 g (g2 ▸ hg)
    · obtain rfl : g' = g := Option.some.inj (g2.symm.trans hg)
      have := B1.size
      have := h8.size
      omega
  · obtain ⟨hq, _, _⟩ := hm
    rcases hq with ⟨hq, ⟨p, hp1, hp2⟩, _⟩ | ⟨hq, ⟨p, hp1, hp2⟩, _⟩ <;> simp [hq] at hlen ⊢ <;> omega
  · split <;> omega
  · intro q hq
    rcases List.mem_append.1 hq with hq | hq
    · exact h7 q hq
    · obtain rfl := List.mem_singleton.1 hq
      exact hc
  · exact (h8.trans (B1.mono h8.size)).trans (g3.below (Nat.le_trans h8.size B1.size) (fun g h => h2 g h))
  · rw [cell_row hblk]; rfl
  · intro i; rw [cell_row hblk, List.getElem?_toArray]
  · have := g3.size; simp at this; omega

end Go.Proofs.Ytbgpmekjcepmaaa
