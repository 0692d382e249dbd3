/-
  Notes, without memory: where the elements of a note stand in a text.
-/
import Derived.Test.YtkkklfnooeofcabAa
namespace Go.Proofs.Ytkkklfnooeofcab
open Go.RowKit
set_option linter.unusedVariables false

abbrev El := Int × Int × Int

/-- From the first place of an element to behind its last one; the text comes turned round. -/
def spR : List El → El → Option (Nat × Nat)
  | [], _ => none
  | y :: ys, x => if x = y then some (match spR ys x with | none => ys.length | some s => s.1, ys.length + 1) else spR ys x
def spP (xs : List El) (x : El) : Option (Nat × Nat) := spR xs.reverse x
theorem spP_nil (x : El) : spP [] x = none := rfl
theorem spP_snoc (xs : List El) (y x : El) : spP (xs ++ [y]) x = if x = y then some (match spP xs x with | none => xs.length | some s => s.1, xs.length + 1) else spP xs x := by
  unfold spP
  rw [List.reverse_append]
  simp [spR]

/-- What it tells. -/
def SpOk (xs : List El) (x : El) : Option (Nat × Nat) → Prop
  | none => x ∉ xs
  | some s => s.1 < s.2 ∧ s.2 ≤ xs.length ∧ xs[s.1]? = some x ∧ xs[s.2 - 1]? = some x ∧ ∀ p, xs[p]? = some x → s.1 ≤ p ∧ p < s.2

theorem snoc_get {xs : List El} {y x : El} {p : Nat} (h : (xs ++ [y])[p]? = some x) : xs[p]? = some x ∨ (p = xs.length ∧ x = y) := by
  by_cases hp : p < xs.length
  · rw [List.getElem?_append_left hp] at h
    exact .inl h
  · have hl := (List.getElem?_eq_some_iff.1 h).1
    simp at hl
    have e : p = xs.length := by omega
    subst e
    simp at h
    exact .inr ⟨rfl, h.symm⟩

theorem spP_ok (xs : List El) (x : El) : SpOk xs x (spP xs x) := by
  suffices h : ∀ ys : List El, SpOk ys.reverse x (spR ys x) by
    have := h xs.reverse
    rwa [List.reverse_reverse] at this
  intro ys
  induction ys with
  | nil => simp [spR, SpOk]
  | cons y ys ih =>
    have hl : ys.reverse.length = ys.length := List.length_reverse
    rw [List.reverse_cons]
    unfold spR
    by_cases e : x = y
    · subst e
      rw [if_pos rfl]
      have last : (ys.reverse ++ [x])[ys.length]? = some x := by rw [← hl, List.getElem?_append_right (Nat.le_refl _)]; simp
      have below : ∀ p, (ys.reverse ++ [x])[p]? = some x → p < ys.length + 1 := by
        intro p hp
        have := (List.getElem?_eq_some_iff.1 hp).1
        simp at this
        omega
      cases hs : spR ys x with
      | none =>
        rw [hs] at ih
        refine ⟨by simp, by simp, last, last, fun p hp => ⟨?_, below p hp⟩⟩
        rcases snoc_get hp with h | ⟨h, -⟩
        · exact absurd (List.mem_of_getElem? h) ih
        · simp [h]
      | some s =>
        rw [hs] at ih
        obtain ⟨h1, h2, h3, h4, h5⟩ := ih
        rw [hl] at h2
        refine ⟨by simp only; omega, by simp, ?_, last, fun p hp => ⟨?_, below p hp⟩⟩
        · simp only
          rw [List.getElem?_append_left (by rw [hl]; omega)]; exact h3
        · rcases snoc_get hp with h | ⟨h, -⟩
          · exact (h5 p h).1
          · simp only; omega
    · rw [if_neg e]
      cases hs : spR ys x with
      | none =>
        rw [hs] at ih
        simp only [SpOk] at ih ⊢
        simp [e] at ih ⊢
        exact ih
      | some s =>
        rw [hs] at ih
        obtain ⟨h1, h2, h3, h4, h5⟩ := ih
        refine ⟨h1, by rw [List.length_append]; omega, ?_, ?_, fun p hp => ?_⟩
        · rw [List.getElem?_append_left (by omega)]; exact h3
        · rw [List.getElem?_append_left (by omega)]; exact h4
        · rcases snoc_get hp with h | ⟨-, h⟩
          · exact h5 p h
          · exact absurd h e

/-- The least range that holds two. -/
def stepR (a : Nat × Nat) : Option (Nat × Nat) → Nat × Nat
  | none => a
  | some s => if a.1 = a.2 then s else (min a.1 s.1, max a.2 s.2)
def reachP (xs es : List El) : Nat × Nat := es.foldl (fun a x => stepR a (spP xs x)) (0, 0)
theorem reachP_snoc (xs es : List El) (x : El) : reachP xs (es ++ [x]) = stepR (reachP xs es) (spP xs x) := by simp [reachP]

/-- Where a note of the elements es stands in the text xs. -/
def RC (xs es : List El) (r : Nat × Nat) : Prop :=
  (r = (0, 0) ∧ ∀ x ∈ xs, x ∉ es) ∨ (r.1 < r.2 ∧ r.2 ≤ xs.length ∧ (∃ x ∈ es, xs[r.1]? = some x) ∧ (∃ x ∈ es, xs[r.2 - 1]? = some x) ∧ ∀ p x, xs[p]? = some x → x ∈ es → r.1 ≤ p ∧ p < r.2)

theorem RC.step {xs es : List El} {r : Nat × Nat} (h : RC xs es r) (x : El) : RC xs (es ++ [x]) (stepR r (spP xs x)) := by
  have hx := spP_ok xs x
  cases hs : spP xs x with
  | none =>
    rw [hs] at hx
    simp only [stepR]
    simp only [SpOk] at hx
    rcases h with ⟨h0, h1⟩ | ⟨h0, h1, ⟨y, hy, h2⟩, ⟨z, hz, h3⟩, h4⟩
    · refine .inl ⟨h0, fun y hy hm => ?_⟩
      simp at hm
      rcases hm with hm | rfl
      · exact h1 y hy hm
      · exact hx hy
    · refine .inr ⟨h0, h1, ⟨y, by simp [hy], h2⟩, ⟨z, by simp [hz], h3⟩, fun p u hp hu => ?_⟩
      simp at hu
      rcases hu with hu | rfl
      · exact h4 p u hp hu
      · exact absurd (List.mem_of_getElem? hp) hx
  | some s =>
    rw [hs] at hx
    obtain ⟨s1, s2, s3, s4, s5⟩ := hx
    simp only [stepR]
    rcases h with ⟨rfl, h1⟩ | ⟨h0, h1, ⟨y, hy, h2⟩, ⟨z, hz, h3⟩, h4⟩
    · rw [if_pos rfl]
      refine .inr ⟨s1, s2, ⟨x, by simp, s3⟩, ⟨x, by simp, s4⟩, fun p u hp hu => ?_⟩
      simp at hu
      rcases hu with hu | rfl
      · exact absurd hu (h1 u (List.mem_of_getElem? hp))
      · exact s5 p hp
    · rw [if_neg (by omega)]
      refine .inr ⟨by simp only; omega, by simp only; omega, ?_, ?_, fun p u hp hu => ?_⟩
      · simp only
        by_cases hc : r.1 ≤ s.1
        · rw [Nat.min_eq_left hc]; exact ⟨y, by simp [hy], h2⟩
        · rw [Nat.min_eq_right (by omega)]; exact ⟨x, by simp, s3⟩
      · simp only
        by_cases hc : r.2 ≤ s.2
        · rw [Nat.max_eq_right hc]; exact ⟨x, by simp, s4⟩
        · rw [Nat.max_eq_left (by omega)]; exact ⟨z, by simp [hz], h3⟩
      · simp only
        simp at hu
        rcases hu with hu | rfl
        · have := h4 p u hp hu; omega
        · have := s5 p hp; omega

theorem reachP_ok (xs es : List El) : RC xs es (reachP xs es) := by
  suffices h : ∀ ys : List El, RC xs ys.reverse (reachP xs ys.reverse) by
    have := h es.reverse
    rwa [List.reverse_reverse] at this
  intro ys
  induction ys with
  | nil => exact .inl ⟨rfl, by simp⟩
  | cons y ys ih =>
    rw [List.reverse_cons, reachP_snoc]
    exact ih.step y

theorem RC.uniq {xs es : List El} {r s : Nat × Nat} (h : RC xs es r) (k : RC xs es s) : r = s := by
  rcases h with ⟨h0, h1⟩ | ⟨h0, h1, ⟨y, hy, h2⟩, ⟨z, hz, h3⟩, h4⟩ <;> rcases k with ⟨k0, k1⟩ | ⟨k0, k1, ⟨u, hu, k2⟩, ⟨v, hv, k3⟩, k4⟩
  · rw [h0, k0]
  · exact absurd hu (h1 u (List.mem_of_getElem? k2))
  · exact absurd hy (k1 y (List.mem_of_getElem? h2))
  · have a1 := h4 _ _ k2 hu; have a2 := h4 _ _ k3 hv; have a3 := k4 _ _ h2 hy; have a4 := k4 _ _ h3 hz
    exact Prod.ext (by omega) (by omega)
theorem reachP_eq {xs es : List El} {r : Nat × Nat} (h : RC xs es r) : reachP xs es = r := (reachP_ok xs es).uniq h
theorem reachP_le (xs es : List El) : (reachP xs es).1 ≤ xs.length ∧ (reachP xs es).2 ≤ xs.length ∧ (reachP xs es).1 ≤ (reachP xs es).2 := by
  rcases reachP_ok xs es with ⟨h0, -⟩ | ⟨h0, h1, -⟩
  · rw [h0]; simp
  · omega
theorem spP_le {xs : List El} {x : El} {s : Nat × Nat} (h : spP xs x = some s) : s.1 < s.2 ∧ s.2 ≤ xs.length := by
  have := spP_ok xs x
  rw [h] at this
  exact ⟨this.1, this.2.1⟩

end Go.Proofs.Ytkkklfnooeofcab
