/-
  Marks and texts, without memory.
-/
import Derived.Test.YtkkklfnooeofcaaFd
namespace Go.Proofs.Ytkkklfnooeofcaa
open Go.RowKit
set_option linter.unusedVariables false

theorem tE_inj {i j : Nat} (h : tE i = tE j) : i = j := by
  simp only [tE, Prod.mk.injEq] at h
  obtain ⟨-, h1, h2⟩ := h
  omega
theorem txt_get {n i : Nat} (h : i < n) : (txt n)[i]? = some (tE i) := by
  simp [txt, h]
theorem txt_get' {n i : Nat} {x : El} (h : (txt n)[i]? = some x) : i < n ∧ x = tE i := by
  have hl := (List.getElem?_eq_some_iff.1 h).1
  rw [txt_len] at hl
  rw [txt_get hl] at h
  exact ⟨hl, by cases h; rfl⟩
/-- The elements of a range. -/
def rng (n f t : Nat) : List El := ((txt n).drop f).take (t - f)
theorem rng_mem {n f t : Nat} (h1 : f ≤ t) (h2 : t ≤ n) (x : El) : x ∈ rng n f t ↔ ∃ i, f ≤ i ∧ i < t ∧ x = tE i := by
  constructor
  · intro h
    obtain ⟨j, hj⟩ := List.getElem?_of_mem h
    unfold rng at hj
    rw [List.getElem?_take] at hj
    split at hj
    · rw [List.getElem?_drop] at hj
      obtain ⟨h3, h4⟩ := txt_get' hj
      exact ⟨f + j, by omega, by omega, h4⟩
    · cases hj
  · rintro ⟨i, h3, h4, rfl⟩
    refine List.mem_of_getElem? (i := i - f) ?_
    unfold rng
    rw [List.getElem?_take, if_pos (by omega), List.getElem?_drop, show f + (i - f) = i by omega]
    exact txt_get (by omega)
theorem rng_wf {n f t : Nat} (hn : n ≤ 2048) : ∀ x ∈ rng n f t, wfE x := fun x hx => wf_txt n (by omega) x (List.mem_of_mem_drop (List.mem_of_mem_take hx))
theorem rng_new {n f t k : Nat} (h1 : f ≤ t) (h2 : t ≤ n) (hn : n ≤ 2048) : zE k ∉ rng n f t := by
  intro h
  obtain ⟨i, h3, h4, e⟩ := (rng_mem h1 h2 _).1 h
  simp only [zE, tE, Prod.mk.injEq] at e
  obtain ⟨-, e1, -⟩ := e
  omega

theorem Mk.step {xs ys es : List El} {bs : List Bool} {k : Nat} {pos : Int} {del : Bool} (h : Mk xs es bs) (ht : TuP xs k pos del ys) (hz : zE k ∉ es) : Mk ys es (followP bs pos.toNat del) := by
  obtain ⟨h1, h2⟩ := h
  obtain ⟨p, rfl, ⟨rfl, hp, rfl⟩ | ⟨rfl, hp, rfl⟩⟩ := ht
  · rw [Int.toNat_natCast]
    refine ⟨by simp [followP]; omega, fun i x hx => ?_⟩
    simp only [followP, if_true]
    by_cases hi : i < p
    · rw [List.getElem?_append_left (by simp; omega), List.getElem?_take, if_pos hi] at hx ⊢
      exact h2 i x hx
    · rw [List.getElem?_append_right (by simp; omega), List.getElem?_drop] at hx ⊢
      rw [List.length_take] at hx ⊢
      rw [Nat.min_eq_left (by omega)] at hx ⊢
      exact h2 _ x hx
  · rw [Int.toNat_natCast]
    refine ⟨by simp [followP]; omega, fun i x hx => ?_⟩
    simp only [followP, Bool.false_eq_true, if_false]
    by_cases hi : i < p
    · rw [List.getElem?_append_left (by simp; omega), List.getElem?_take, if_pos hi] at hx ⊢
      exact h2 i x hx
    · rw [List.getElem?_append_right (by simp; omega)] at hx ⊢
      rw [List.length_take, Nat.min_eq_left (by omega)] at hx ⊢
      cases hq : i - p with
      | zero =>
        rw [hq] at hx
        simp at hx ⊢
        rw [← hx]
        exact hz
      | succ q =>
        rw [hq] at hx
        simp only [List.getElem?_cons_succ, List.getElem?_drop] at hx ⊢
        exact h2 _ x hx

/-- The marks of the first j places of a range. -/
def mkL (n f j : Nat) : List Bool := (List.range n).map fun i => decide (f ≤ i ∧ i < j)
theorem mkL_len (n f j : Nat) : (mkL n f j).length = n := by simp [mkL]
theorem mkL_get {n f j i : Nat} (h : i < n) : (mkL n f j)[i]? = some (decide (f ≤ i ∧ i < j)) := by simp [mkL, h]
theorem mkL_set {n f j : Nat} (h1 : f ≤ j) (h2 : j < n) : (mkL n f j).set j true = mkL n f (j + 1) := by
  apply List.ext_getElem?
  intro i
  rw [List.getElem?_set, mkL_len]
  by_cases e : j = i
  · subst e
    rw [if_pos rfl, if_pos h2, mkL_get h2]
    simp
    omega
  · rw [if_neg e]
    by_cases hi : i < n
    · rw [mkL_get hi, mkL_get hi]
      congr 1
      rw [decide_eq_decide]
      omega
    · rw [List.getElem?_eq_none (by rw [mkL_len]; omega), List.getElem?_eq_none (by rw [mkL_len]; omega)]
theorem mkL_zero (n f : Nat) : mkL n f f = List.replicate n false := by
  apply List.ext_getElem?
  intro i
  by_cases hi : i < n
  · rw [mkL_get hi, List.getElem?_replicate, if_pos hi]
    congr 1
    simp
  · rw [List.getElem?_eq_none (by rw [mkL_len]; omega), List.getElem?_eq_none (by simp; omega)]
theorem mk_start {n f t : Nat} (h1 : f ≤ t) (h2 : t ≤ n) : Mk (txt n) (rng n f t) (mkL n f t) := by
  refine ⟨by rw [mkL_len, txt_len], fun i x hx => ?_⟩
  obtain ⟨hi, rfl⟩ := txt_get' hx
  rw [mkL_get hi, rng_mem h1 h2]
  simp only [Option.some.injEq, decide_eq_true_eq]
  constructor
  · rintro ⟨h3, h4⟩
    exact ⟨i, h3, h4, rfl⟩
  · rintro ⟨j, h3, h4, e⟩
    obtain rfl := tE_inj e
    exact ⟨h3, h4⟩

end Go.Proofs.Ytkkklfnooeofcaa
