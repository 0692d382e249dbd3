/-
  The forms of lines: kindOf, formOf, fieldsOf.
-/
import Derived.Test.YtplmhilkehkeiaaDoorSe
namespace Go.Proofs.YtplmhilkehkeiaaDoor
open Go.RowKit
set_option linter.unusedVariables false

def verbsA : Array Value := #[.string ⟨#[]⟩, .string ⟨#[105, 110, 115, 101, 114, 116]⟩, .string ⟨#[100, 101, 108, 101, 116, 101]⟩, .string ⟨#[116, 105, 99, 107]⟩, .string ⟨#[100, 101, 108, 105, 118, 101, 114]⟩, .string ⟨#[100, 114, 111, 112]⟩, .string ⟨#[100, 111, 117, 98, 108, 101]⟩, .string ⟨#[102, 108, 105, 112]⟩, .string ⟨#[97, 108, 108]⟩, .string ⟨#[114, 111, 117, 110, 100]⟩, .string ⟨#[99, 114, 97, 115, 104]⟩, .string ⟨#[98, 111, 111, 116]⟩, .string ⟨#[115, 116, 117, 109, 98, 108, 101]⟩, .string ⟨#[102, 111, 114, 103, 101]⟩]
/-- The table of verbs lies at block 0. -/
def Verbs (w : World) : Prop := ∃ t fr, w.heap[0]? = some (.cells verbsA t fr)
theorem Verbs.below {w w' : World} {B : Nat} (h : Verbs w) (hb : Below B w w') (hB : 0 < B) : Verbs w' := by
  obtain ⟨t, fr, h⟩ := h
  exact ⟨t, fr, by rw [hb.block 0 hB]; exact h⟩

/-- The form of a kind. -/
def formP (k : Int) : Int := if k = 1 then 1 else if k = 2 then 2 else if k = 3 then 3 else if k = 4 ∨ k = 5 ∨ k = 6 then 4 else if k = 7 then 5 else if k = 10 ∨ k = 12 then 6 else if k = 13 then 7 else 0
/-- The fields of a form. -/
def flF (m : Int) : List Fl :=
  if m = 1 then [⟨0, 1, 64⟩, ⟨1, 0, 4095⟩, ⟨4, 32, 126⟩]
  else if m = 2 then [⟨0, 1, 64⟩, ⟨1, 0, 4095⟩]
  else if m = 3 then [⟨0, 0, 64⟩]
  else if m = 4 then [⟨1, 0, 2047⟩]
  else if m = 5 then [⟨1, 0, 2047⟩, ⟨2, 0, 63⟩, ⟨3, 1, 255⟩]
  else if m = 6 then [⟨1, 0, 262144⟩, ⟨2, 0, 262144⟩, ⟨3, 0, 255⟩]
  else if m = 7 then [⟨0, 0, 64⟩, ⟨5, 0, 64⟩]
  else []
theorem flF_form (k : Int) : flF (formP k) = fl k := by
  unfold formP fl
  repeat' split
  all_goals first | rfl | (exfalso; omega)
theorem form_one (k : Int) : formP k = 1 ↔ k = 1 := by
  unfold formP
  repeat' split
  all_goals first | omega | simp_all
theorem form_bd (k : Int) : 0 ≤ formP k ∧ formP k ≤ 7 := by
  unfold formP
  repeat' split
  all_goals omega

set_option maxRecDepth 100000 in
set_option maxHeartbeats 4000000 in
theorem formOf_any (k : Int) (w : World) (h0 : 0 ≤ k) (h13 : k ≤ 13) : Calls Tryd.prog 22 #[.int .i64 k] w fun e w' => e = .returned (.int .i64 (formP k)) ∧ w' = w := by
  have : k = 0 ∨ k = 1 ∨ k = 2 ∨ k = 3 ∨ k = 4 ∨ k = 5 ∨ k = 6 ∨ k = 7 ∨ k = 8 ∨ k = 9 ∨ k = 10 ∨ k = 11 ∨ k = 12 ∨ k = 13 := by omega
  clear h0 h13
  rcases this with rfl | rfl | rfl | rfl | rfl | rfl | rfl | rfl | rfl | rfl | rfl | rfl | rfl | rfl
  all_goals
    go_enter Tryd.func22, Tryd.ntmps22
    go_wp2
    go_ret
    exact ⟨rfl, rfl⟩

theorem sz_cF : Sz cF 3 := fun x => ⟨rfl, fun v hv => by simp [cF] at hv; rcases hv with rfl | rfl | rfl <;> rfl⟩

set_option maxRecDepth 100000 in
set_option maxHeartbeats 4000000 in
theorem fieldsOf_any (m : Int) (w : World) (h0 : 0 ≤ m) (h7 : m ≤ 7) : Calls Tryd.prog 24 #[.int .i64 m] w fun e w' => ∃ v, e = .returned v ∧ NL cF 3 59 w' w.heap.size v (flF m) ∧ Below w.heap.size w w' := by
  have : m = 0 ∨ m = 1 ∨ m = 2 ∨ m = 3 ∨ m = 4 ∨ m = 5 ∨ m = 6 ∨ m = 7 := by omega
  clear h0 h7
  rcases this with rfl | rfl | rfl | rfl | rfl | rfl | rfl | rfl
  · go_enter Tryd.func24, Tryd.ntmps24
    go_wp2
    go_ret
    exact ⟨_, rfl, NL.nil _ _, Below.refl _ _⟩
  all_goals
    go_enter Tryd.func24, Tryd.ntmps24
    go_wp2
    go_ret
    refine ⟨_, rfl, ⟨some w.heap.size, ⟨_, rfl, _, heap_alloc_new _ _, ?_, rfl, ?_, ?_, ?_⟩, fun g hg => by cases hg; exact Nat.le_refl _⟩, (Below.refl _ _).alloc (Nat.le_refl _) _⟩
    all_goals first | rfl | decide

end Go.Proofs.YtplmhilkehkeiaaDoor
