/-
  gone: one round.
-/
import Derived.Test.YtpjnhjijipcjkaaQg
namespace Go.Proofs.Ytpjnhjijipcjkaa
open Go.RowKit
set_option linter.unusedVariables false

/-- What gone does, of scripts of d layers. -/
def GoneC (d : Nat) : Prop := ∀ (G : Thg) (w0 w : World) (K : Nat → Prop) (x a b r q bx : Nat) (k s nn v : Int) (ia : Option Addr) (il ic : Nat) (A B : Rb) (m : Nat), PB G w0 w K x a b r q A B m → (∀ k, K k → w0.heap.size ≤ k) → m ≤ 44 → TrD d w0 ia il ic → K bx → w.heap[bx]? = some (.cells #[pt a] 28 (0, 0)) →
  Calls Try.prog 32 #[pt x, opA k s nn v ia il ic, .func (.func 52) #[] #[.pointer (some ⟨bx, 0, none⟩)]] w fun e w' => e = .returned (.bool true) ∧ ∃ A' B' m', m' ≤ 44 ∧ PB G w0 w' K x a b r q A' B' m' ∧ KP K w w'

def bodyAt : Code → Option Code
  | .seq a b => (bodyAt a).or (bodyAt b)
  | .block _ c => bodyAt c
  | .rangeFunc _ _ _ b => some b
  | _ => none
noncomputable def goneBody : Code := (Try.f32.body.bind bodyAt).getD .skip
theorem K6_base {K : Nat → Prop} {w0 w : World} (hK : ∀ k, K k → w0.heap.size ≤ k) (h : w0.heap.size ≤ w.heap.size) : ∀ k, K6 K w.heap.size k → w0.heap.size ≤ k := by
  rintro k (h1 | h1)
  · exact hK k h1
  · omega
theorem GS.cells {G : Thg} {w0 w W : World} {K : Nat → Prop} {x a b r q bx : Nat} {k s nn v : Int} {ia : Option Addr} {il ic : Nat} {A A' B : Rb} {m n : Nat} (h : GS G w0 w K x a b r q bx k s nn v ia il ic A A' B m n W) :
    W.cell? ⟨w.heap.size, 0, none⟩ = some (pt x) ∧ W.cell? ⟨w.heap.size + 1, 2, none⟩ = some (.int .i64 nn) ∧ W.cell? ⟨w.heap.size + 1, 4, none⟩ = some (.slice ia il ic) ∧ W.cell? ⟨w.heap.size + 3, 0, none⟩ = some (.int .i64 (n : Nat)) ∧ W.frozen? ⟨w.heap.size + 3, 0, none⟩ = false ∧ W.frozen? ⟨w.heap.size + 2, 0, none⟩ = false ∧ (∃ bo, W.cell? ⟨w.heap.size + 2, 0, none⟩ = some (.bool bo)) ∧ w.heap.size + 3 < W.heap.size := by
  obtain ⟨bo, hb⟩ := h.c6
  exact ⟨by rw [cell_row h.c3]; rfl, by rw [cell_row h.c4]; rfl, by rw [cell_row h.c4]; rfl, by rw [cell_row h.c7]; rfl, frozen_row h.c7 0, frozen_row hb 0, ⟨bo, by rw [cell_row hb]; rfl⟩, block_lt h.c7⟩
end Go.Proofs.Ytpjnhjijipcjkaa
