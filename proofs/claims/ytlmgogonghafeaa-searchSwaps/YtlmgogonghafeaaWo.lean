/-
  Words.
-/
import Derived.Test.YtlmgogonghafeaaWm
namespace Go.Proofs.Ytlmgogonghafeaa
open Go.RowKit Go.Lib Go.Maps Go.ChangeMaps Go.MapKept Go.WideMaps Go.Sort Go.Shelf
set_option linter.unusedVariables false

set_option maxHeartbeats 4000000 in
theorem noLetter_any (r : Nat) (w : World) : Calls Try.prog 43 #[.int .i32 (r : Int)] w fun e w' => e = .returned (.bool (noR r)) ∧ w' = w := by
  have G : ∀ (P : Prop), (noR r = false → 97 ≤ r → r ≤ 122 → P) → (noR r = false → r < 97 → 65 ≤ r → r ≤ 90 → P) → (noR r = true → 122 < r → P) → (noR r = true → r < 97 → 90 < r → P) → (noR r = true → r < 97 → r < 65 → P) → P := by
    intro P h1 h2 h3 h4 h5
    have e : noR r = decide (¬ ((97 ≤ r ∧ r ≤ 122) ∨ (65 ≤ r ∧ r ≤ 90))) := by unfold noR ltN; rw [← decide_not]
    by_cases c1 : 97 ≤ r
    · by_cases c2 : r ≤ 122
      · exact h1 (by rw [e]; simp; omega) c1 c2
      · exact h3 (by rw [e]; simp; omega) (by omega)
    · by_cases c3 : 65 ≤ r
      · by_cases c4 : r ≤ 90
        · exact h2 (by rw [e]; simp; omega) (by omega) c3 c4
        · exact h4 (by rw [e]; simp; omega) (by omega) (by omega)
      · exact h5 (by rw [e]; simp; omega) (by omega) (by omega)
  refine G _ ?_ ?_ ?_ ?_ ?_
  · intro e c1 c2
    rw [e]
    have a1 : ¬ (r : Int) < 97 := by omega
    have a2 : ¬ (122 : Int) < (r : Int) := by omega
    clear G
    go_enter Try.func43, Try.ntmps43
    go_wp2
    go_ret
    exact ⟨rfl, rfl⟩
  · intro e c1 c2 c3
    rw [e]
    have a1 : (r : Int) < 97 := by omega
    have a2 : ¬ (r : Int) < 65 := by omega
    have a3 : ¬ (90 : Int) < (r : Int) := by omega
    clear G
    go_enter Try.func43, Try.ntmps43
    go_wp2
    go_ret
    exact ⟨rfl, rfl⟩
  · intro e c1
    rw [e]
    have a1 : ¬ (r : Int) < 97 := by omega
    have a2 : (122 : Int) < (r : Int) := by omega
    have a3 : ¬ (r : Int) < 65 := by omega
    have a4 : (90 : Int) < (r : Int) := by omega
    clear G
    go_enter Try.func43, Try.ntmps43
    go_wp2
    go_ret
    exact ⟨rfl, rfl⟩
  · intro e c1 c2
    rw [e]
    have a1 : (r : Int) < 97 := by omega
    have a3 : ¬ (r : Int) < 65 := by omega
    have a4 : (90 : Int) < (r : Int) := by omega
    clear G
    go_enter Try.func43, Try.ntmps43
    go_wp2
    go_ret
    exact ⟨rfl, rfl⟩
  · intro e c1 c2
    rw [e]
    have a1 : (r : Int) < 97 := by omega
    have a3 : (r : Int) < 65 := by omega
    clear G
    go_enter Try.func43, Try.ntmps43
    go_wp2
    go_ret
    exact ⟨rfl, rfl⟩

def es (s : ByteArray) : List Value := [.string s]
theorem szS : Sz es 1 := fun x => ⟨rfl, fun v hv => by simp [es] at hv; subst hv; rfl⟩
theorem cl_es (xs : List ByteArray) : cl es xs = xs.map Value.string := by
  induction xs with
  | nil => rfl
  | cons x xs ih => rw [cl_cons, ih]; rfl
theorem sf_of_owns {w : World} {base : Nat} {v : Value} {xs : List ByteArray} (h : w.ownsRow base 9 1 v xs.length (xs.map Value.string)) : ∃ β, SF es 1 w 9 β v xs ∧ ∀ g, β = some g → base ≤ g := by
  rcases h.2 with ⟨rfl, h0⟩ | ⟨g, cap, cur, rfl, hbg, hh, hnc, hcm, hcs, htk⟩
  · exact ⟨none, ⟨rfl, List.eq_nil_of_length_eq_zero h0⟩, fun g h => by cases h⟩
  · refine ⟨some g, ⟨cap, rfl, cur.toList, by simpa using hh, ?_, rfl, hnc, hcm, by simpa using hcs⟩, fun k hk => by injection hk with hk; omega⟩
    rw [cl_es]
    simpa using htk
/-- A list of strings of one's own. -/
def StI (w wr : World) (v : Value) (xs : List ByteArray) : Prop := ∃ β, SF es 1 wr 9 β v xs ∧ (∀ g, β = some g → w.heap.size ≤ g) ∧ Below w.heap.size w wr
theorem StI.below {w wr wx : World} {v : Value} {xs : List ByteArray} (h : StI w wr v xs) (hb : Below wr.heap.size wr wx) : StI w wx v xs := by
  obtain ⟨β, h1, h2, h3⟩ := h
  exact ⟨β, h1.fr (S := fun _ => False) (Fr.of_below hb) (fun _ _ h => h), h2, h3.trans (hb.mono h3.size)⟩
theorem StI.cells {w wr : World} {v : Value} {xs : List ByteArray} (h : StI w wr v xs) : ∃ a c, v = .slice a xs.length c ∧ xs.length ≤ c ∧ c ≤ 9223372036854775807 ∧ (0 < xs.length → ∃ g, a = some ⟨g, 0, none⟩ ∧ w.heap.size ≤ g ∧ g < wr.heap.size ∧ ∀ i (h : i < xs.length), wr.cell? ⟨g, i, none⟩ = some (.string xs[i])) := by
  obtain ⟨β, h1, h2, h3⟩ := h
  obtain ⟨a, c, hv, hlc, hc⟩ := h1.form
  refine ⟨a, c, hv, hlc, hc, fun hn => ?_⟩
  cases β with
  | none =>
    obtain ⟨-, h⟩ := h1
    rw [h] at hn
    simp at hn
  | some g =>
    have hlt := h1.lt g rfl
    obtain ⟨cap, hv2, hR⟩ := h1
    rw [hv] at hv2
    obtain ⟨rfl, -, -⟩ := Value.slice.inj hv2
    refine ⟨g, rfl, h2 g rfl, hlt, fun i hi => ?_⟩
    have := hR.cell szS i 0 hi (by omega)
    rw [Nat.mul_one, Nat.add_zero] at this
    rw [this]
    rfl

theorem fields_any (s : ByteArray) (w : World) (hs : s.size ≤ 4000000000) : Calls Try.prog 42 #[.string s, .func (.func 43) #[] #[]] w fun e w' => ∃ v, e = .returned v ∧ StI w w' v (goFieldsP noR s) := by
  have h := Any.strings_FieldsFunc_runes laysFF 43 #[] (enters_of Try.func43 (by kernel_rfl) rfl) noR s w (by omega) (fun W x hx hb => (noLetter_any x W).mono (fun e W' ⟨h1, h2⟩ => ⟨h1, 0, h2⟩)) (by kernel_rfl) (by kernel_rfl)
  refine h.mono ?_
  rintro e w' ⟨A, rfl, hA, hrow, hb⟩
  obtain ⟨β, h1, h2⟩ := sf_of_owns hrow
  exact ⟨_, rfl, β, h1, h2, hb⟩
end Go.Proofs.Ytlmgogonghafeaa
