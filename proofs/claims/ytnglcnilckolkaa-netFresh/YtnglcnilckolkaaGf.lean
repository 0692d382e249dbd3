/-
  NetFresh: several lists of datagrams, one behind another in memory: what grownGrams wants of them.
-/
import Derived.Test.YtnglcnilckolkaaGe
namespace Go.Proofs.Ytnglcnilckolkaa
open Go.RowKit
set_option linter.unusedVariables false

/-- One list: its blocks go from lo to hi. -/
structure Ent where
  lo : Nat
  hi : Nat
  β : Option Nat
  c : Nat
  L : List It

def zEn : Ent := ⟨0, 0, none, 0, []⟩
def Ent.v (e : Ent) : Value := .slice (at0 e.β) e.L.length e.c
def FE (w : World) (e : Ent) : Prop := FLk w e.lo e.hi e.β e.v e.L

theorem FE.of {w : World} {lo hi : Nat} {v : Value} {G : List DG} (h : FL w lo hi v G) : ∃ e : Ent, FE w e ∧ e.lo = lo ∧ e.hi = hi ∧ e.v = v ∧ e.L.map It.d = G := by
  obtain ⟨β, L, hk, hG⟩ := h
  obtain ⟨c, rfl, -⟩ := hk.so.tr
  exact ⟨⟨lo, hi, β, c, L⟩, hk, rfl, rfl, rfl, hG⟩

def eL (Es : List Ent) (j : Nat) : List It := (Es.getD j zEn).L
def eB (Es : List Ent) (j : Nat) : Option Nat := (Es.getD j zEn).β
def eC (Es : List Ent) (j : Nat) : Nat := (Es.getD j zEn).c
def eN (Es : List Ent) (j : Nat) : Nat := (Es.getD j zEn).L.length
theorem getE_of {Es : List Ent} {j : Nat} (hj : j < Es.length) : Es.getD j zEn = Es[j] := by simp [List.getD, List.getElem?_eq_getElem hj]

theorem fl_take (Es : List Ent) : ∀ k, k ≤ Es.length → fl (eL Es) k = (Es.take k).flatMap Ent.L
  | 0, _ => by simp [fl]
  | k + 1, h => by
    rw [fl, fl_take Es k (by omega), List.take_succ_eq_append_getElem (by omega), List.flatMap_append, eL, getE_of (by omega)]
    simp
theorem fl_all (Es : List Ent) : fl (eL Es) Es.length = Es.flatMap Ent.L := by rw [fl_take Es _ (Nat.le_refl _), List.take_length]

theorem ready {w : World} {Es : List Ent} (h : ∀ e ∈ Es, FE w e) (hp : Es.Pairwise (fun a b => a.hi ≤ b.lo)) :
    DB w Es.length (eB Es) (eC Es) (eL Es) ∧ (∀ x ∈ fl (eL Es) Es.length, SB w x.γ x.sv x.d.b) ∧ (fl (eL Es) Es.length).Pairwise (fun a b => ∀ g, a.γ = some g → b.γ ≠ some g) := by
  have hpi := List.pairwise_iff_getElem.1 hp
  refine ⟨⟨fun i j g hi hj h1 h2 => ?_, fun i hi => ?_⟩, fun x hx => ?_, ?_⟩
  · rw [eB, getE_of hi] at h1
    rw [eB, getE_of hj] at h2
    have a1 := (h _ (List.getElem_mem hi)).at_ g h1
    have a2 := (h _ (List.getElem_mem hj)).at_ g h2
    rcases Nat.lt_trichotomy i j with e | e | e
    · have := hpi i j hi hj e
      omega
    · exact e
    · have := hpi j i hj hi e
      omega
  · rw [eB, eC, eL, getE_of hi]
    obtain ⟨c, e, hT⟩ := (h _ (List.getElem_mem hi)).so.tr
    obtain ⟨-, -, e3⟩ := Value.slice.inj e
    rw [e3]
    exact hT
  · rw [fl_all, List.mem_flatMap] at hx
    obtain ⟨e, he, hx⟩ := hx
    exact ((h e he).rows x hx).1
  · rw [fl_all, List.pairwise_flatMap]
    refine ⟨fun e he => (h e he).sep, hp.imp_of_mem ?_⟩
    intro a b ha hb hab x hx y hy g h1 h2
    have a1 := ((h a ha).rows x hx).2 g h1
    have a2 := ((h b hb).rows y hy).2 g h2
    omega

end Go.Proofs.Ytnglcnilckolkaa
