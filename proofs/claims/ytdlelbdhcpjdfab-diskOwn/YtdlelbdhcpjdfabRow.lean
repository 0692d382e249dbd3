/-
  A row of bytes with room behind it.
-/
import Derived.Test.YtdlelbdhcpjdfabLd
namespace Go.Proofs.Ytdlelbdhcpjdfab
open Go.RowKit
set_option linter.unusedVariables false

/-- Block g is a row of cap cells, the first N of them the bytes ys. -/
def RowB (w : World) (g N cap : Nat) (ys : List Int) : Prop :=
  ∃ cur : Array Value, w.heap[g]? = some (.cells cur 5 (0, 0)) ∧ cur.toList.take N = ints ys ∧ ys.length = N ∧ N ≤ cap ∧ cap ≤ 9223372036854775807 ∧ cur.size = cap

theorem RowB.cell {w : World} {g N cap : Nat} {ys : List Int} (h : RowB w g N cap ys) (i : Nat) (hi : i < N) : w.cell? ⟨g, i, none⟩ = some (.int .u8 (ys.getD i 0)) := by
  obtain ⟨cur, hh, ht, hl, -⟩ := h
  rw [cell_row hh, ← ints_get ys i (by omega), ← ht, List.getElem?_take, if_pos hi]
  simp

theorem RowB.frozen {w : World} {g N cap : Nat} {ys : List Int} (h : RowB w g N cap ys) (i : Nat) : w.frozen? ⟨g, i, none⟩ = false := by
  obtain ⟨cur, hh, -⟩ := h
  exact frozen_row hh i

theorem RowB.set {w : World} {g N cap : Nat} {ys : List Int} (h : RowB w g N cap ys) (i : Nat) (z : Int) (hi : i < N) : RowB (w.setCell ⟨g, i, none⟩ (.int .u8 z)) g N cap (ys.set i z) := by
  obtain ⟨cur, hh, ht, hl, h1, h2, h3⟩ := h
  refine ⟨_, set_row hh i _, ?_, by simpa using hl, h1, h2, by simpa using h3⟩
  rw [← ints_set, ← ht]
  simp [List.take_set]

theorem RowB.lt {w : World} {g N cap : Nat} {ys : List Int} (h : RowB w g N cap ys) : g < w.heap.size := by
  obtain ⟨cur, hh, -⟩ := h
  exact block_lt hh

theorem RowB.isB {w : World} {g N cap : Nat} {ys : List Int} (h : RowB w g N cap ys) (o k c : Nat) (ho : o + k ≤ N) (hc : k ≤ c) (hm : c ≤ 9223372036854775807) : IsB w (some ⟨g, o, none⟩) k c ((ys.drop o).take k) := by
  have hl : ys.length = N := by
    obtain ⟨cur, -, -, hl, -⟩ := h
    exact hl
  refine ⟨by simp; omega, hc, hm, fun hk => ⟨g, o, rfl, h.lt, fun i hi => ?_⟩⟩
  rw [h.cell (o + i) (by omega)]
  congr 2
  simp [List.getD, hi, List.getElem?_drop]

theorem RowB.fr {S : Nat → Prop} {w w' : World} {g N cap : Nat} {ys : List Int} (h : RowB w g N cap ys) (hF : Fr S w w') (hS : ¬ S g) : RowB w' g N cap ys := by
  obtain ⟨cur, hh, r⟩ := h
  exact ⟨cur, hF.keeps hh hS, r⟩

theorem rowB_of_own {w : World} {base g n cap : Nat} {ys : List Int} (h : w.ownsRow base 5 1 (.slice (some ⟨g, 0, none⟩) n cap) n (ints ys)) : RowB w g n cap ys ∧ base ≤ g := by
  obtain ⟨hl, h2⟩ := h
  rcases h2 with ⟨h0, _⟩ | ⟨g', cap', cur, e, hb, hh, hn, hm, hs, ht⟩
  · cases h0
  · simp at e
    obtain ⟨rfl, rfl⟩ := e
    simp at hs ht
    exact ⟨⟨cur, hh, ht, by simpa [ints] using hl, hn, hm, hs⟩, hb⟩

theorem NewB.own {w : World} {base : Nat} {v : Value} {n : Nat} {xs : List Int} (h : NewB w base v n xs) (hn : n ≤ 9223372036854775807) : w.ownsRow base 5 1 v n (ints xs) := by
  obtain ⟨g, rfl, hb, hg, hl⟩ := h
  refine ⟨by simp [ints, hl], .inr ⟨g, n, _, rfl, hb, hg, Nat.le_refl _, hn, by simp [ints, hl], ?_⟩⟩
  simp only [Nat.mul_one]
  exact List.take_of_length_le (by simp [ints, hl])

end Go.Proofs.Ytdlelbdhcpjdfab
