/-
  A script as a tree: the steps within steps, d layers of them.
-/
import Derived.Test.YtpjnhjijipcjkaaQd
import Derived.Test.YtpjnhjijipcjkaaSc
namespace Go.Proofs.Ytpjnhjijipcjkaa
open Go.RowKit
set_option linter.unusedVariables false

def TrD : Nat → World → Option Addr → Nat → Nat → Prop
  | 0, _, _, il, ic => il ≤ ic ∧ ic ≤ 9223372036854775807 ∧ il = 0
  | d + 1, w, ia, il, ic => il ≤ ic ∧ ic ≤ 9223372036854775807 ∧ il ≤ 3000000000000 ∧ (0 < il → ∃ b off, ia = some ⟨b, off, none⟩ ∧ b < w.heap.size ∧ ∀ i, i < il → ∃ q : OpV, OpAt w b (off + i * 5) q ∧ TrD d w q.ia q.il q.ic)
theorem TrD.below {d : Nat} {w w' : World} {B : Nat} {ia : Option Addr} {il ic : Nat} (h : TrD d w ia il ic) (hb : RowKit.Below B w w') (hB : w.heap.size ≤ B) : TrD d w' ia il ic := by
  induction d generalizing ia il ic with
  | zero => exact h
  | succ d ih =>
    obtain ⟨h1, h2, h3, h4⟩ := h
    refine ⟨h1, h2, h3, fun hn => ?_⟩
    obtain ⟨b, off, e, hlt, hc⟩ := h4 hn
    refine ⟨b, off, e, Nat.lt_of_lt_of_le hlt hb.size, fun i hi => ?_⟩
    obtain ⟨q, k1, k2⟩ := hc i hi
    exact ⟨q, k1.below hb (Nat.lt_of_lt_of_le hlt hB), ih k2⟩
theorem TrD.len {d : Nat} {w : World} {ia : Option Addr} {il ic : Nat} (h : TrD d w ia il ic) : il ≤ ic ∧ ic ≤ 9223372036854775807 ∧ il ≤ 3000000000000 := by
  cases d with
  | zero => exact ⟨h.1, h.2.1, by have := h.2.2; omega⟩
  | succ d => exact ⟨h.1, h.2.1, h.2.2.1⟩
/-- The step at a place, and what lies within it. -/
theorem TrD.at {d : Nat} {w : World} {ia : Option Addr} {il ic i : Nat} (h : TrD d w ia il ic) (hi : i < il) : ∃ d', d = d' + 1 ∧ ∃ b off q, ia = some ⟨b, off, none⟩ ∧ b < w.heap.size ∧ OpAt w b (off + i * 5) q ∧ TrD d' w q.ia q.il q.ic := by
  cases d with
  | zero => have := h.2.2; omega
  | succ d =>
    obtain ⟨b, off, e, hlt, hc⟩ := h.2.2.2 (by omega)
    obtain ⟨q, k1, k2⟩ := hc i hi
    exact ⟨d, rfl, b, off, q, e, hlt, k1, k2⟩

end Go.Proofs.Ytpjnhjijipcjkaa
