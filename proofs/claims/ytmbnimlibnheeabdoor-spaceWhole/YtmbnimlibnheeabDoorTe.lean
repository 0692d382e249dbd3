/-
  Texts in memory: nil or a row.
-/
import Derived.Test.YtmbnimlibnheeabDoorEa
namespace Go.Proofs.YtmbnimlibnheeabDoor
open Go.RowKit Go.Lib
set_option linter.unusedVariables false

/-- nil, or a row at the block. -/
def SE (w : World) (β : Option Nat) (v : Value) (xs : List El) : Prop :=
  match β with
  | none => v = .slice none 0 0 ∧ xs = []
  | some g => ∃ cap, v = .slice (some ⟨g, 0, none⟩) xs.length cap ∧ RowE w g xs.length cap xs

theorem SE.fr {S : Nat → Prop} {w w' : World} {β : Option Nat} {v : Value} {xs : List El} (h : SE w β v xs) (hF : Fr S w w') (hS : ∀ g, β = some g → ¬ S g) : SE w' β v xs := by
  cases β with
  | none => exact h
  | some g =>
    obtain ⟨cap, hv, hR⟩ := h
    exact ⟨cap, hv, hR.fr hF (hS g rfl)⟩
theorem SE.below {w w' : World} {β : Option Nat} {v : Value} {xs : List El} (h : SE w β v xs) (hb : Below w.heap.size w w') : SE w' β v xs :=
  h.fr (S := fun _ => False) (Fr.of_below hb) (fun _ _ h => h)
theorem SE.lt {w : World} {β : Option Nat} {v : Value} {xs : List El} (h : SE w β v xs) : ∀ g, β = some g → g < w.heap.size := by
  rintro g rfl
  obtain ⟨cap, hv, hR⟩ := h
  exact hR.lt
theorem SE.form {w : World} {β : Option Nat} {v : Value} {xs : List El} (h : SE w β v xs) : ∃ a c, v = .slice a xs.length c ∧ IsE w a xs.length c xs ∧ ∀ b off, a = some ⟨b, off, none⟩ → β = some b := by
  cases β with
  | none =>
    obtain ⟨rfl, rfl⟩ := h
    exact ⟨none, 0, rfl, isE_nil w, fun b off e => by cases e⟩
  | some g =>
    obtain ⟨cap, rfl, hR⟩ := h
    refine ⟨_, cap, rfl, hR.isE, fun b off e => ?_⟩
    have := Option.some.inj e
    simp at this
    rw [this.1]

/-- Put in with room: what lies in the row behind the two copies. -/
theorem shift_take (L : List Value) (xs : List El) (x : El) (i n : Nat) (hx : xs.length = n) (hi : i ≤ n) (hL : (n + 1) * 3 ≤ L.length) (ht : L.take (n * 3) = cE xs) :
    (splice (splice L ((i + 1) * 3) (cE (xs.drop i))) (i * 3) (elc x)).take ((n + 1) * 3) = cE (xs.take i ++ x :: xs.drop i) := by
  have hd' : (cE (xs.drop i)).length = (n - i) * 3 := by rw [cE_len, List.length_drop, hx]
  have h1 : (splice L ((i + 1) * 3) (cE (xs.drop i))).length = L.length := length_splice _ _ _ (by rw [hd']; omega)
  have h2 : (splice L ((i + 1) * 3) (cE (xs.drop i))).take (i * 3) = cE (xs.take i) := by
    rw [splice_take _ _ _ _ (by omega) (by omega), ← cE_take xs i (by omega), ← ht, List.take_take, Nat.min_eq_left (by omega)]
  have h3 : (splice L ((i + 1) * 3) (cE (xs.drop i))).drop (i * 3 + (elc x).length) = cE (xs.drop i) ++ L.drop ((i + 1) * 3 + (cE (xs.drop i)).length) := by
    rw [show i * 3 + (elc x).length = (i + 1) * 3 from by simp [elc]; omega]
    exact splice_drop _ _ _ (by omega)
  rw [show splice (splice L ((i + 1) * 3) (cE (xs.drop i))) (i * 3) (elc x) = cE (xs.take i) ++ (elc x ++ (cE (xs.drop i) ++ L.drop ((i + 1) * 3 + (cE (xs.drop i)).length))) from by
    rw [← h2, ← h3]; rfl]
  have e : cE (xs.take i ++ x :: xs.drop i) = cE (xs.take i) ++ (elc x ++ cE (xs.drop i)) := by rw [cE_app, cE_cons]
  have el : (cE (xs.take i ++ x :: xs.drop i)).length = (n + 1) * 3 := by
    rw [cE_len]; simp; omega
  rw [← List.append_assoc (elc x), ← List.append_assoc (cE (xs.take i)), ← e, ← el, List.take_left]

/-- Take out: what lies in the row. -/
theorem unshift_take (L : List Value) (xs : List El) (z : List Value) (i n : Nat) (hx : xs.length = n) (hi : i < n) (hL : n * 3 ≤ L.length) (ht : L.take (n * 3) = cE xs) :
    (splice (splice L (i * 3) (cE (xs.drop (i + 1)))) ((n - 1) * 3) z).take ((n - 1) * 3) = cE (xs.take i ++ xs.drop (i + 1)) := by
  have hd' : (cE (xs.drop (i + 1))).length = (n - (i + 1)) * 3 := by rw [cE_len, List.length_drop, hx]
  have h1 : (splice L (i * 3) (cE (xs.drop (i + 1)))).length = L.length := length_splice _ _ _ (by rw [hd']; omega)
  rw [splice_take _ _ _ _ (by omega) (by omega)]
  have el : (cE (xs.take i ++ xs.drop (i + 1))).length = (n - 1) * 3 := by
    rw [cE_len]; simp; omega
  have h2 : L.take (i * 3) = cE (xs.take i) := by rw [← cE_take xs i (by omega), ← ht, List.take_take, Nat.min_eq_left (by omega)]
  unfold splice
  rw [h2, ← List.append_assoc, ← cE_app, ← el, List.take_left]

/-- The text at β is now ys, at v. -/
def NowE (w w' : World) (β : Option Nat) (v : Value) (ys : List El) : Prop := ∃ β', SE w' β' v ys ∧ Moved w β β' ∧ Fr (fun k => β = some k) w w'

end Go.Proofs.YtmbnimlibnheeabDoor
