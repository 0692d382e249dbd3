/-
  Scripts, to be read.
-/
import Derived.Test.YtnglcnilckolkaaCa
namespace Go.Proofs.Ytnglcnilckolkaa
open Go.RowKit
set_option linter.unusedVariables false

/-- A script, to be read. -/
def IsS (w : World) (al : Option Addr) (nl cl : Nat) (O : Nat → OpV) (A : Nat → Option Addr) (N C : Nat → Nat) : Prop :=
  nl ≤ cl ∧ cl ≤ 9223372036854775807 ∧
  (0 < nl → ∃ b off, al = some ⟨b, off, none⟩ ∧ b < w.heap.size ∧ ∀ i, i < nl →
    w.cell? ⟨b, off + i * 6, none⟩ = some (.int .i64 (O i).kind) ∧ w.cell? ⟨b, off + i * 6 + 1, none⟩ = some (.bool (O i).which) ∧ w.cell? ⟨b, off + i * 6 + 2, none⟩ = some (.int .i64 (O i).i) ∧
    w.cell? ⟨b, off + i * 6 + 3, none⟩ = some (.int .i64 (O i).a) ∧ w.cell? ⟨b, off + i * 6 + 4, none⟩ = some (.int .i64 (O i).b) ∧ w.cell? ⟨b, off + i * 6 + 5, none⟩ = some (.slice (A i) (N i) (C i)) ∧
    IsB w (A i) (N i) (C i) (O i).xs)
theorem IsS.below {w w' : World} {al : Option Addr} {nl cl : Nat} {O : Nat → OpV} {A : Nat → Option Addr} {N C : Nat → Nat} (h : IsS w al nl cl O A N C) (hb : Below w.heap.size w w') : IsS w' al nl cl O A N C := by
  obtain ⟨h1, h2, h3⟩ := h
  refine ⟨h1, h2, fun hn => ?_⟩
  obtain ⟨b, off, e, hlt, hc⟩ := h3 hn
  refine ⟨b, off, e, Nat.lt_of_lt_of_le hlt hb.size, fun i hi => ?_⟩
  obtain ⟨k0, k1, k2, k3, k4, k5, k6⟩ := hc i hi
  exact ⟨(hb.cell (p := ⟨b, off + i * 6, none⟩) hlt).trans k0, (hb.cell (p := ⟨b, off + i * 6 + 1, none⟩) hlt).trans k1, (hb.cell (p := ⟨b, off + i * 6 + 2, none⟩) hlt).trans k2, (hb.cell (p := ⟨b, off + i * 6 + 3, none⟩) hlt).trans k3, (hb.cell (p := ⟨b, off + i * 6 + 4, none⟩) hlt).trans k4, (hb.cell (p := ⟨b, off + i * 6 + 5, none⟩) hlt).trans k5, k6.below hb⟩

end Go.Proofs.Ytnglcnilckolkaa
