/-
  Lists of byte lists, opened.
-/
import Derived.Test.YtnglcnilckolkaaCommon
import Derived.Test.YtnglcnilckolkaaLine
namespace Go.Proofs.Ytnglcnilckolkaa
open Go.ChangeShapes Go.WideShapes Go.ChangeAt Go.RowKit Go.Deep Go.Joins
set_option linter.unusedVariables false

theorem weights_elem {H : Type} (t : TypeId) : ∀ (ds : List (DataW H)) (d : DataW H), d ∈ ds → ∀ k ∈ d.weights Try.prog t, k ∈ DataW.weightsAll Try.prog t ds
  | d0 :: ds, d, hm, k, hk => by
    simp only [DataW.weightsAll, List.mem_append]
    rcases List.mem_cons.1 hm with rfl | hm'
    · exact .inl hk
    · exact .inr (weights_elem t ds d hm' k hk)
  | [], d, hm, _, _ => by cases hm

def LAt (w : World) (x : Addr) (i : Nat) (q : Option Addr × Nat × Nat × List Int) : Prop :=
  w.cell? (x.add i) = some (.slice q.1 q.2.1 q.2.2.1) ∧ IsB w q.1 q.2.1 q.2.2.1 q.2.2.2

set_option maxRecDepth 100000 in
theorem isL_of {H : Type} {enc : TypeId × Value → H} {W : World} {fuel : Nat} {v : Value} {d : DataW H} {p : List MemPlace}
    (hf : DataW.trod enc Try.prog W 0 (fun _ => true) true fuel 22 [v] = some (d, p)) (hs : Fits 22 d) : ∃ al nl cl A N C X, v = .slice al nl cl ∧ IsL W al nl cl A N C X := by
  rcases open_slice Try.underlying22 hf with ⟨hcs, _⟩ | ⟨x, l, cc, m, k, D, Pl, hcs, _, hl, hm, hmm, hd', hx⟩
  · simp at hcs
    exact ⟨none, 0, 0, fun _ => none, fun _ => 0, fun _ => 0, fun _ => [], hcs, Nat.le_refl _, by omega, fun h => by omega⟩
  · simp at hcs
    have hmc : m = cc := by simpa using hmm
    subst hmc
    have hd2 : d = _ := (Prod.mk.inj hd').1
    have each : ∀ i, i < l → ∃ q, LAt W x i q := by
      intro i hi
      obtain ⟨cs', h1, h2⟩ := hx i (by omega)
      rw [cells28] at h1
      obtain ⟨_, hlen, hcell⟩ := World.cells?_some h1
      have fits : Fits 28 (D i) := by
        intro kk hk
        refine hs kk ?_
        rw [hd2]
        have hmem : kk ∈ DataW.weightsAll Try.prog 28 ((List.range l).map D) := weights_elem 28 _ (D i) (List.mem_map.2 ⟨i, List.mem_range.2 hi, rfl⟩) kk hk
        simp only [DataW.weights, Try.underlying22]
        exact List.mem_cons_of_mem _ (List.mem_append_left _ hmem)
      match cs', hlen with
      | [v0], _ =>
        obtain ⟨a5, n5, c5, xs5, e5, hb5, hn5⟩ := isB_of h2 fits
        subst e5
        have k0 := hcell 0 (by omega)
        rw [add_add] at k0
        exact ⟨⟨a5, n5, c5, xs5⟩, by simpa using k0, hb5⟩
    by_cases h0 : 0 < l
    · have each2 : ∀ i, ∃ q, i < l → LAt W x i q := by
        intro i
        by_cases hi : i < l
        · obtain ⟨q, hq⟩ := each i hi
          exact ⟨q, fun _ => hq⟩
        · exact ⟨⟨none, 0, 0, []⟩, fun h => absurd h hi⟩
      obtain ⟨Q, hQ⟩ := Classical.axiomOfChoice each2
      obtain ⟨b, off, spot⟩ := x
      have c0 := (hQ 0 h0).1
      have hspot : spot = none := by simpa [Addr.add] using World.cell?_spot c0
      subst hspot
      have hblk := cell_lt c0
      rw [add_plain] at hblk
      refine ⟨_, l, m, fun i => (Q i).1, fun i => (Q i).2.1, fun i => (Q i).2.2.1, fun i => (Q i).2.2.2, hcs, hl, by simpa [maxLen] using hm, fun _ => ⟨b, off, rfl, hblk, fun i hi => ?_⟩⟩
      have := hQ i hi
      unfold LAt at this
      simp only [add_plain] at this
      exact this
    · exact ⟨_, l, m, fun _ => none, fun _ => 0, fun _ => 0, fun _ => [], hcs, hl, by simpa [maxLen] using hm, fun h => absurd h h0⟩

end Go.Proofs.Ytnglcnilckolkaa
