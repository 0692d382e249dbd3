/-
  DiskKeeps: the walk.
-/
import Derived.Test.YtdlelbdhcpjdfaaOpen
import Derived.Test.YtdlelbdhcpjdfaaTa
namespace Go.Proofs.Ytdlelbdhcpjdfaa
open Go.RowKit
set_option linter.unusedVariables false

theorem set_pre' (L : List Int) (i n : Nat) (z : Int) (h : n ≤ i) : (L.set i z).take n = L.take n := by
  rw [List.take_set, List.set_eq_of_length_le (by simp; omega)]

/-- What a step other than a cut keeps. -/
theorem step_keeps (o : OpV) (B : List Int) (s : Nat) (hs : s ≤ B.length) (hB : B.length ≤ 262144) (h5 : ¬ o.kind = 5) :
    s ≤ (stepP o B s).s ∧ (stepP o B s).s ≤ (stepP o B s).B.length ∧ (stepP o B s).B.take s = B.take s ∧ (o.kind = 4 → (stepP o B s).s = (stepP o B s).B.length) := by
  have happ : ∀ xs : List Int, s ≤ (appP xs B s).s ∧ (appP xs B s).s ≤ (appP xs B s).B.length ∧ (appP xs B s).B.take s = B.take s := by
    intro xs
    unfold appP
    split
    · refine ⟨Nat.le_refl _, by simp; omega, ?_⟩
      rw [List.take_append_of_le_length hs]
    · exact ⟨Nat.le_refl _, hs, rfl⟩
  unfold stepP
  by_cases k3 : o.kind = 3
  · rw [if_pos k3]
    exact ⟨(happ _).1, (happ _).2.1, (happ _).2.2, fun h => by omega⟩
  · rw [if_neg k3]
    by_cases k10 : o.kind = 10
    · rw [if_pos k10]
      exact ⟨(happ _).1, (happ _).2.1, (happ _).2.2, fun h => by omega⟩
    · rw [if_neg k10]
      by_cases k4 : o.kind = 4
      · rw [if_pos k4]
        exact ⟨hs, Nat.le_refl _, rfl, fun _ => rfl⟩
      · rw [if_neg k4, if_neg h5]
        refine ⟨?_, ?_, ?_, fun h => absurd h k4⟩
        all_goals (
          split
          · unfold crashP
            split
            · first | exact Nat.le_refl _ | exact hs | rfl
            · split
              · first | (simp; done) | (simp; omega) | (simp [List.take_take]; done)
              · split
                · first | (simp; done) | (simp; omega) | (simp only []; rw [set_pre' _ _ _ _ (by omega), List.take_take, Nat.min_eq_left (by omega)])
                · first | exact Nat.le_refl _ | exact hs | rfl
          · first | exact Nat.le_refl _ | exact hs | rfl)

end Go.Proofs.Ytdlelbdhcpjdfaa
