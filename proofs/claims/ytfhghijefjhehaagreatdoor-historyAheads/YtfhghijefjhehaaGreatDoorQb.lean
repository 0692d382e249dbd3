/-
  The law's sameViews, of two lists of states that are the same.
-/
import Derived.Test.YtfhghijefjhehaaGreatDoorMJb
import Derived.Test.YtfhghijefjhehaaGreatDoorMOh
namespace Go.Proofs.YtfhghijefjhehaaGreatDoor
open Go.RowKit
set_option linter.unusedVariables false

theorem SE.text {w : World} {β : Option Nat} {v : Value} {xs : List El} (h : SE w β v xs) : ∃ a c, v = .slice a xs.length c ∧ IsTx w a xs ∧ xs.length ≤ 9223372036854775807 := by
  obtain ⟨a, c, e, h1, -⟩ := h.form
  refine ⟨a, c, e, fun hn => ?_, by have := h1.2.1; have := h1.2.2.1; omega⟩
  obtain ⟨b, off, rfl, hb, -⟩ := h1.2.2.2 hn
  exact ⟨b, off, rfl, hb, fun q hq => h1.at q hq hq⟩
/-- Each state, as it lies there. -/
def IsVs (w : World) (a : Option Addr) (vs : List Vw) : Prop := vs.length ≤ 9223372036854775807 ∧ ∀ q (hq : q < vs.length), ∃ b ad cd, a = some ⟨b, 0, none⟩ ∧ w.cell? ⟨b, q * 3, none⟩ = some (.int .i64 (vs[q].hav : Int)) ∧ w.cell? ⟨b, q * 3 + 1, none⟩ = some (.int .i64 (vs[q].made : Int)) ∧ w.cell? ⟨b, q * 3 + 2, none⟩ = some (.slice ad vs[q].doc.length cd) ∧ IsTx w ad vs[q].doc ∧ vs[q].doc.length ≤ 9223372036854775807
theorem IsVw.form {w : World} {v : Value} {vs : List Vw} (h : IsVw w v vs) : ∃ a c, v = .slice a vs.length c ∧ IsVs w a vs := by
  obtain ⟨ps, ⟨β, h1⟩, h2, rfl⟩ := h
  cases β with
  | none =>
    obtain ⟨rfl, rfl⟩ := h1
    exact ⟨none, 0, rfl, by simp, fun q hq => by simp at hq⟩
  | some g =>
    obtain ⟨cap, rfl, hR⟩ := h1
    obtain ⟨cur, q1, q2, q3, q4, q5, q6⟩ := id hR
    refine ⟨_, cap, by rw [List.length_map], by rw [List.length_map]; omega, fun q hq => ?_⟩
    have hq' : q < ps.length := by simpa using hq
    have k0 := hR.cell szV q 0 hq' (by omega)
    have k1 := hR.cell szV q 1 hq' (by omega)
    have k2 := hR.cell szV q 2 hq' (by omega)
    obtain ⟨β', h3⟩ := h2 ps[q] (List.getElem_mem hq')
    obtain ⟨ad, cd, e1, e2, e3⟩ := h3.text
    rw [List.getElem_map]
    simp only [vwc, e1, svl] at k0 k1 k2
    exact ⟨g, ad, cd, rfl, by simpa [PV.view] using k0, by simpa [PV.view] using k1, by simpa [PV.view] using k2, e2, e3⟩
theorem IsTx.drewN {w : World} {a : Option Addr} {xs : List El} (h : IsTx w a xs) (m : Nat) : IsTx (w.drewN m) a xs := h

end Go.Proofs.YtfhghijefjhehaaGreatDoor
