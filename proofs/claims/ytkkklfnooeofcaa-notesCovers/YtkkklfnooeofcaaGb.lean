/-
  eqNotes; the states of NotesSweeps.
-/
import Derived.Test.YtkkklfnooeofcaaGa
import Derived.BigQuiet
import Derived.Deep.RegionWith
namespace Go.Proofs.Ytkkklfnooeofcaa
open Go.RowKit Go.Maps Go.ChangeMaps Go.MapKept Go.WideMaps
set_option linter.unusedVariables false

/-- Two rows that tell the same notes, seen in the same text. -/
def TNs (u : World) (xs : List El) (t : TN) : Prop := t.s = reachP xs t.n.el ∧ ∃ γ, SF rpc 2 u 45 γ (.slice t.a t.l t.c) t.n.sd
theorem TNok.s {w0 u : World} {xs : List El} {t : TN} (h : TNok w0 u xs t) : TNs u xs t := ⟨h.1, h.2.imp fun _ h => h.1⟩
theorem TNs.fr0 {u u' : World} {xs : List El} {t : TN} (h : TNs u xs t) (hb : Below u.heap.size u u') : TNs u' xs t := by
  obtain ⟨h1, γ, h2⟩ := h
  exact ⟨h1, γ, h2.fr (S := fun _ => False) (Fr.of_below hb) (fun _ _ h => h)⟩
theorem TNs.eq {u : World} {xs : List El} {t t' : TN} (h : TNs u xs t) (h' : TNs u xs t') (e : t.n = t'.n) : Calls Try.prog 16 #[.agg (tnc t).toArray, .agg (tnc t').toArray] u fun e w' => e = .returned (.bool true) ∧ Below u.heap.size u w' := by
  obtain ⟨h1, γ, h2⟩ := h
  obtain ⟨h3, δ, h4⟩ := h'
  obtain ⟨n, s, a, l, c⟩ := t
  obtain ⟨n', s', a', l', c'⟩ := t'
  simp only at h1 h2 h3 h4 e
  subst e h1 h3
  exact eqNote_true n (reachP xs n.el) (.slice a l c) (.slice a' l' c') γ δ u h2 h4

theorem tn_cells {w : World} {b : Option Nat} {a : Option Addr} {N c : Nat} {L : List TN} (h : SF tnc 8 w 37 b (.slice a N c) L) (k : Nat) (hk : k < L.length) : ∃ g, a = some ⟨g, 0, none⟩ ∧ ∀ j (hj : j < 8), w.cell? ⟨g, k * 8 + j, none⟩ = (tnc L[k])[j]? := by
  cases b with
  | none => obtain ⟨h1, rfl⟩ := h; simp at hk
  | some g =>
    obtain ⟨cap, hv, hR⟩ := h
    injection hv with e1 e2 e3
    subst e1
    refine ⟨g, rfl, fun j hj => ?_⟩
    have := hR.cell sz_tnc k j hk hj
    exact this

end Go.Proofs.Ytkkklfnooeofcaa
