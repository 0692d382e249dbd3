/-
  SearchNext.
-/
import Derived.Test.YtlmgogonghafeabMR
namespace Go.Proofs.Ytlmgogonghafeab
open Go.RowKit Go.Lib
set_option linter.unusedVariables false

/-- The first number of the list that is not below pos; -1: none. -/
def nxL (l : List Nat) (pos : Int) : Int := match l.filter (fun q => decide (pos ≤ ((q : Nat) : Int))) with | [] => -1 | q :: _ => ((q : Nat) : Int)
theorem nxP_nxL (T p : By) (pos : Int) : nxP T p pos = nxL (plc T p) pos := rfl
theorem nxL_cons (a : Nat) (r : List Nat) (pos : Int) : nxL (a :: r) pos = if pos ≤ ((a : Nat) : Int) then ((a : Nat) : Int) else nxL r pos := by
  unfold nxL
  by_cases h : pos ≤ ((a : Nat) : Int)
  · rw [if_pos h, List.filter_cons_of_pos (by simpa using h)]
  · rw [if_neg h, List.filter_cons_of_neg (by simpa using h)]
theorem plc_sorted (T p : By) : (plc T p).Pairwise (· < ·) := by
  unfold plc fnd
  exact List.Pairwise.filter _ (List.pairwise_lt_range' (s := 0) (n := T.length + 1 - p.length))
theorem plc_lt {T p : By} (hp : 1 ≤ p.length) : ∀ q ∈ plc T p, q < T.length := by
  intro q hq
  unfold plc at hq
  rcases fnd_mem.1 hq with ⟨h1, h2, h3⟩ | ⟨h1, h2⟩ <;> omega
/-- The place ahead of the k-th. -/
def prN (l : List Nat) (k : Nat) : Int := if k = 0 then -1 else ((l.getD (k - 1) 0 : Nat) : Int)
theorem prN_filter {l : List Nat} (hs : l.Pairwise (· < ·)) {k : Nat} (hk : k ≤ l.length) : l.filter (fun q => decide (prN l k + 1 ≤ ((q : Nat) : Int))) = l.drop k := by
  by_cases h0 : k = 0
  · subst h0
    rw [List.drop_zero]
    refine List.filter_eq_self.2 fun q _ => ?_
    simp [prN]
  · have e : prN l k = ((l[k - 1]'(by omega) : Nat) : Int) := by
      unfold prN
      rw [if_neg h0]
      simp [List.getD, show k - 1 < l.length by omega]
    rw [e]
    have hp := List.pairwise_iff_getElem.1 hs
    obtain ⟨m, hm⟩ : ∃ m, l[k - 1]'(by omega) = m := ⟨_, rfl⟩
    rw [hm]
    have h1 : (l.take k).filter (fun q => decide (((m : Nat) : Int) + 1 ≤ ((q : Nat) : Int))) = [] := by
      rw [List.filter_eq_nil_iff]
      intro q hq
      obtain ⟨i, hi, rfl⟩ := List.getElem_of_mem hq
      rw [List.length_take] at hi
      rw [List.getElem_take]
      simp only [decide_eq_true_eq]
      by_cases hik : i = k - 1
      · subst hik; omega
      · have := hp i (k - 1) (by omega) (by omega) (by omega)
        omega
    have h2 : (l.drop k).filter (fun q => decide (((m : Nat) : Int) + 1 ≤ ((q : Nat) : Int))) = l.drop k := by
      refine List.filter_eq_self.2 fun q hq => ?_
      obtain ⟨i, hi, rfl⟩ := List.getElem_of_mem hq
      rw [List.length_drop] at hi
      rw [List.getElem_drop]
      simp only [decide_eq_true_eq]
      have := hp (k - 1) (k + i) (by omega) (by omega) (by omega)
      omega
    have h3 : ∀ (P : Nat → Bool), l.filter P = (l.take k).filter P ++ (l.drop k).filter P := fun P => by rw [← List.filter_append, List.take_append_drop]
    rw [h3, h1, h2, List.nil_append]
theorem prN_bd {l : List Nat} {L k : Nat} (h : ∀ q ∈ l, q < 1500) (hL : l.length = L) (hk : k ≤ L) : -1 ≤ prN l k ∧ prN l k ≤ 1500 := by
  unfold prN
  split
  · omega
  · have hk1 : k - 1 < l.length := by omega
    have := h _ (List.getElem_mem hk1)
    simp only [List.getD, List.getElem?_eq_getElem hk1, Option.getD_some]
    omega
theorem nx_mid {l : List Nat} (hs : l.Pairwise (· < ·)) {k : Nat} (hk : k < l.length) : nxL l (prN l k + 1) = ((l[k] : Nat) : Int) := by
  unfold nxL
  rw [prN_filter hs (Nat.le_of_lt hk), List.drop_eq_getElem_cons hk]
theorem nx_end {l : List Nat} (hs : l.Pairwise (· < ·)) : nxL l (prN l l.length + 1) = -1 := by
  unfold nxL
  rw [prN_filter hs (Nat.le_refl _), List.drop_length]
theorem prN_succ {l : List Nat} {k : Nat} (hk : k < l.length) : prN l (k + 1) = ((l[k] : Nat) : Int) := by
  unfold prN
  rw [if_neg (by omega)]
  simp [List.getD, hk]

end Go.Proofs.Ytlmgogonghafeab
