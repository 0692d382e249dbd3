/-
  DocFresh: two answers put together.
-/
import Derived.Test.YtbgpmekjcepmaabFe
namespace Go.Proofs.Ytbgpmekjcepmaab
open Go.RowKit
set_option linter.unusedVariables false

theorem Bag.app {w w' : World} {Rs Qs : List Rw} (h : Bag w Rs) (hb : Below w.heap.size w w') (q : Bag w' Qs) (hq : ∀ r ∈ Qs, w.heap.size ≤ r.1) : Bag w' (Rs ++ Qs) := by
  refine ⟨?_, ?_⟩
  · rw [List.map_append, List.nodup_append]
    refine ⟨h.1, q.1, ?_⟩
    intro a ha b hb'
    obtain ⟨r, hr, rfl⟩ := List.mem_map.1 ha
    obtain ⟨s, hs, rfl⟩ := List.mem_map.1 hb'
    have := h.lt r hr
    have := hq s hs
    omega
  · intro r hr
    rcases List.mem_append.1 hr with hr | hr
    · exact (h.below hb).2 r hr
    · exact q.2 r hr

def dR : Rw := (0, 0, [])
theorem getD_mem {Rs : List Rw} {i : Nat} (h : i < Rs.length) : Rs.getD i dR = Rs[i] := by simp [List.getD, List.getElem?_eq_getElem h]

theorem Bag.tb {w : World} {Rs : List Rw} (h : Bag w Rs) : TB w Rs.length (fun i => (Rs.getD i dR).1) (fun i => (Rs.getD i dR).2.1) (fun i => (Rs.getD i dR).2.2) := by
  refine ⟨?_, ?_⟩
  · intro i j hi hj e
    simp only [getD_mem hi, getD_mem hj] at e
    have hn := List.pairwise_iff_getElem.1 h.1
    by_cases hij : i = j
    · exact hij
    · exfalso
      rcases Nat.lt_or_ge i j with hlt | hge
      · exact hn i j (by simpa using hi) (by simpa using hj) hlt (by simpa using e)
      · exact hn j i (by simpa using hj) (by simpa using hi) (by omega) (by simpa using e.symm)
  · intro i hi
    simp only [getD_mem hi]
    exact h.2 _ (List.getElem_mem hi)

theorem valR_one (Rs : List Rw) : ∀ v ∈ Rs.map valR, v.oneCell' = true := by
  intro v hv
  obtain ⟨r, _, rfl⟩ := List.mem_map.1 hv
  rfl

/-- append of a list of texts onto one that is full. -/
theorem run_join (w : World) (gx gy : Nat) (Rx Ry : List Rw) (k : Nat) (hkx : Rx.length = k) (hky : Ry.length = k) (hk : 0 < k) (hk2 : k ≤ 100) (hx : w.heap[gx]? = some (.cells (Rx.map valR).toArray 22 (0, 0))) (hy : w.heap[gy]? = some (.cells (Ry.map valR).toArray 22 (0, 0))) :
    ∃ G w', (∀ ty, (Builtin.append_ #[54, 54] ty #[.slice (some ⟨gx, 0, none⟩) k k, .slice (some ⟨gy, 0, none⟩) k k]).run Try.prog w = .ok (.slice (some ⟨w.heap.size, 0, none⟩) (k + k) G) w') ∧ k + k ≤ G ∧ G ≤ 9223372036854775807 ∧
      LC w' w.heap.size (k + k) (fun i => ((Rx ++ Ry).getD i dR).1) (fun i => ((Rx ++ Ry).getD i dR).2.2.length) (fun i => ((Rx ++ Ry).getD i dR).2.1) ∧ Below w.heap.size w w' ∧ w.heap.size < w'.heap.size := by
  obtain ⟨i0, hi0, hz0, hz1, hz2⟩ := info_parts Try.infoL
  have hr := fun ty => run_append_grow (P := Try.prog) w 54 ty 22 i0 _ Try.underlying54 hi0 hz0 ⟨gx, 0, none⟩ k k (Rx.map valR) (by rw [hz1]; simp [hkx]) (fun j v hj => by rw [add_lit, Nat.zero_add, cell_row hx, List.getElem?_toArray]; exact hj)
    ⟨gy, 0, none⟩ k k (Ry.map valR) (by rw [hz1]; simp [hky]) (fun j v hj => by rw [add_lit, Nat.zero_add, cell_row hy, List.getElem?_toArray]; exact hj) (by omega) (by omega) (growslice_fits (by omega) (by rw [hz2]; omega))
  have hG1 := grownCap_ge w (k + k) k 22
  have hG2 := grownCap_le_maxLen w (k + k) k 22 (by unfold maxLen; omega)
  generalize grownCap w (k + k) k 22 = G at hr hG1 hG2
  refine ⟨G, _, hr, hG1, hG2, ⟨_, by rw [show w.heap.size = w.drew.heap.size from rfl, heap_alloc_new], ?_⟩, (below_drewN (Below.refl _ w) 1).alloc (Nat.le_refl _) _, by simp⟩
  intro i hi
  have hl : i < (Rx ++ Ry).length := by simp; omega
  simp only [getD_mem hl]
  rw [Array.getElem?_append_left (by simp; omega), show (Rx.map valR).toArray ++ (Ry.map valR).toArray = ((Rx ++ Ry).map valR).toArray from by simp, List.getElem?_toArray, List.getElem?_map, List.getElem?_eq_getElem hl]
  rfl

/-- The texts of two equal answers. -/
theorem AskR.open {w w' : World} {v : Value} {Ts : List (List El)} (h : AskR w w' v Ts) : ∃ gL Rs, v = .slice (some ⟨gL, 0, none⟩) Ts.length Ts.length ∧ w'.heap[gL]? = some (.cells (Rs.map valR).toArray 22 (0, 0)) ∧ w.heap.size ≤ gL ∧ Bag w' Rs ∧ (∀ r ∈ Rs, w.heap.size ≤ r.1) ∧ Rs.map (·.2.2) = Ts ∧ Below w.heap.size w w' := h

theorem pick_text {w : World} {g : Nat} {Rs : List Rw} {Ts : List (List El)} (hg : w.heap[g]? = some (.cells (Rs.map valR).toArray 22 (0, 0))) (hB : Bag w Rs) (hT : Rs.map (·.2.2) = Ts) (i : Nat) (hi : i < Ts.length) :
    ∃ b c, w.cell? ⟨g, i, none⟩ = some (.slice (some ⟨b, 0, none⟩) Ts[i].length c) ∧ IsE w (some ⟨b, 0, none⟩) Ts[i].length c Ts[i] := by
  have hl : i < Rs.length := by rw [← hT] at hi; simpa using hi
  have ht : Ts[i] = Rs[i].2.2 := by simp only [← hT, List.getElem_map]
  refine ⟨Rs[i].1, Rs[i].2.1, ?_, ?_⟩
  · rw [cell_row hg, List.getElem?_toArray, List.getElem?_map, List.getElem?_eq_getElem hl, ht]
    rfl
  · rw [ht]
    exact (hB.2 _ (List.getElem_mem hl)).isE

theorem askP_len (xs : List El) (c : Int) : (askP xs c).length = 5 := rfl
theorem askP_short (xs : List El) (c : Int) (h : xs.length ≤ 400) : ∀ T ∈ askP xs c, T.length ≤ 1000 := by
  intro T hT
  simp [askP, applyP] at hT
  rcases hT with rfl | rfl | rfl | rfl | rfl
  · simp; omega
  · simp; omega
  · simp; omega
  · omega
  · simp

end Go.Proofs.Ytbgpmekjcepmaab
