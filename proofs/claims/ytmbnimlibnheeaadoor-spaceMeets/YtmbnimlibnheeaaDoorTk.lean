/-
  Acts in memory; what is seen of two sides.
-/
import Derived.Test.YtmbnimlibnheeaaDoorTj
namespace Go.Proofs.YtmbnimlibnheeaaDoor
open Go.RowKit Go.Lib
set_option linter.unusedVariables false

structure AV where
  kind : Int
  nop : Bool
  out : Bool
  n : Int
  ch : Int
def IsAc (w : World) (a : Option Addr) (n c : Nat) (X : Nat → AV) : Prop :=
  n ≤ c ∧ c ≤ 9223372036854775807 ∧ (0 < n → ∃ b off, a = some ⟨b, off, none⟩ ∧ b < w.heap.size ∧ ∀ i, i < n →
    w.cell? ⟨b, off + i * 5, none⟩ = some (.int .i64 (X i).kind) ∧ w.cell? ⟨b, off + i * 5 + 1, none⟩ = some (.bool (X i).nop) ∧ w.cell? ⟨b, off + i * 5 + 2, none⟩ = some (.bool (X i).out) ∧
    w.cell? ⟨b, off + i * 5 + 3, none⟩ = some (.int .i64 (X i).n) ∧ w.cell? ⟨b, off + i * 5 + 4, none⟩ = some (.int .u8 (X i).ch))
def OkA (X : Nat → AV) : Prop := ∀ i, 0 ≤ (X i).ch ∧ (X i).ch ≤ 255

theorem TWO.see {w0 w : World} {x y : Nat} {s t : Sd} {b1 b2 : Int} {N M : Nat} (h : TWO w0 w x y s t b1 b2 N M) :
    ∃ z vt aw cw β, w.cell? ⟨x, 0, none⟩ = some vt ∧ w.cell? ⟨x, 1, none⟩ = some (.pointer (some ⟨z, 0, none⟩)) ∧ w.cell? ⟨x, 4, none⟩ = some (.slice aw s.way.length cw) ∧ SE w β vt s.d ∧ x < w.heap.size := by
  obtain ⟨T1, T2, ⟨z, vt, aw, nw, cw, vg, βt, βg, G, c, -⟩, -, -⟩ := h.mem
  have hn := c.wy.1
  subst hn
  exact ⟨z, vt, aw, cw, βt, cell_row c.box _, cell_row c.box _, cell_row c.box _, c.te, block_lt c.box⟩

theorem start_two {w w' : World} {x y : Nat} {d : List El} (hd' : d.length ≤ 40) (h : ∃ T1 T2, SA w.heap.size T1 w' x ⟨true, d, [], 0, 0, []⟩ 0 ∧ SA w.heap.size T2 w' y ⟨false, d, [], 0, 0, []⟩ 32 ∧ (∀ k, T1 k → ¬ T2 k) ∧ Below w.heap.size w w') :
    TWO w w' x y ⟨true, d, [], 0, 0, []⟩ ⟨false, d, [], 0, 0, []⟩ 0 32 d.length 0 := by
  obtain ⟨T1, T2, h1, h2, h3, h4⟩ := h
  exact ⟨⟨T1, T2, h1, h2, h3⟩, h4, ⟨d, [], [], [], [], inv_start d⟩, by simp, by simp, fun pc hpc => (by cases hpc), fun pc hpc => (by cases hpc), hd', .inl rfl, .inr rfl⟩

theorem TWO.alike {w0 w : World} {x y : Nat} {s t : Sd} {b1 b2 : Int} {N M : Nat} (h : TWO w0 w x y s t b1 b2 N M) (h1 : s.way.length = 0) (h2 : t.way.length = 0) : s.d = t.d := by
  obtain ⟨d0, A1, A2, B1, B2, hi⟩ := h.inv
  exact hi.same (List.eq_nil_of_length_eq_zero h1) (List.eq_nil_of_length_eq_zero h2)

end Go.Proofs.YtmbnimlibnheeaaDoor
