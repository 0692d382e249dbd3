/-
  Lists of ints and scripts that came in; num; blocks that are kept; site.
-/
import Derived.Test.YtocpfioifamkmabAg
namespace Go.Proofs.Ytocpfioifamkmab
open Go.RowKit
set_option linter.unusedVariables false

/-- A list of ints that came in. -/
def IsI (w : World) (a : Option Addr) (n c : Nat) (X : Nat → Int) : Prop :=
  n ≤ c ∧ c ≤ 9223372036854775807 ∧ (0 < n → ∃ b off, a = some ⟨b, off, none⟩ ∧ b < w.heap.size ∧ ∀ i, i < n → w.cell? ⟨b, off + i, none⟩ = some (.int .i64 (X i)))
theorem IsI.below {w w' : World} {B : Nat} {a : Option Addr} {n c : Nat} {X : Nat → Int} (h : IsI w a n c X) (hb : Below B w w') (hB : w.heap.size ≤ B) : IsI w' a n c X := by
  obtain ⟨h2, h3, h4⟩ := h
  refine ⟨h2, h3, fun hn => ?_⟩
  obtain ⟨b, off, e, hlt, hc⟩ := h4 hn
  refine ⟨b, off, e, Nat.lt_of_lt_of_le hlt hb.size, fun i hi => ?_⟩
  rw [hb.cell (p := ⟨b, off + i, none⟩) (Nat.lt_of_lt_of_le hlt hB)]
  exact hc i hi

/-- A step of a script. -/
structure OpV where
  kind : Int
  site : Int
  n : Int
def IsS (w : World) (a : Option Addr) (n c : Nat) (O : Nat → OpV) : Prop :=
  n ≤ c ∧ c ≤ 9223372036854775807 ∧ (0 < n → ∃ b off, a = some ⟨b, off, none⟩ ∧ b < w.heap.size ∧ ∀ i, i < n →
    w.cell? ⟨b, off + i * 3, none⟩ = some (.int .i64 (O i).kind) ∧ w.cell? ⟨b, off + i * 3 + 1, none⟩ = some (.int .i64 (O i).site) ∧ w.cell? ⟨b, off + i * 3 + 2, none⟩ = some (.int .i64 (O i).n))
theorem IsS.below {w w' : World} {B : Nat} {a : Option Addr} {n c : Nat} {O : Nat → OpV} (h : IsS w a n c O) (hb : Below B w w') (hB : w.heap.size ≤ B) : IsS w' a n c O := by
  obtain ⟨h2, h3, h4⟩ := h
  refine ⟨h2, h3, fun hn => ?_⟩
  obtain ⟨b, off, e, hlt, hc⟩ := h4 hn
  refine ⟨b, off, e, Nat.lt_of_lt_of_le hlt hb.size, fun i hi => ?_⟩
  obtain ⟨q0, q1, q2⟩ := hc i hi
  have hl := Nat.lt_of_lt_of_le hlt hB
  exact ⟨(hb.cell (p := ⟨b, off + i * 3, none⟩) hl).trans q0, (hb.cell (p := ⟨b, off + i * 3 + 1, none⟩) hl).trans q1, (hb.cell (p := ⟨b, off + i * 3 + 2, none⟩) hl).trans q2⟩

theorem num_any (e : Int) (w : World) : Calls Try.prog 11 #[.int .i64 e] w fun r w' => r = .returned (.int .i64 e) ∧ w' = w := by
  go_enter Try.func11, Try.ntmps11
  go_wp2
  go_ret
  exact ⟨rfl, rfl⟩

/-- The blocks of K are as they were. -/
def KP (K : Nat → Prop) (w w' : World) : Prop := ∀ k, K k → w'.heap[k]? = w.heap[k]?
theorem KP.refl (K : Nat → Prop) (w : World) : KP K w w := fun _ _ => rfl
theorem KP.trans {K : Nat → Prop} {a b c : World} (h : KP K a b) (h2 : KP K b c) : KP K a c := fun k hk => (h2 k hk).trans (h k hk)

def NoK : Nat → Prop := fun _ => False


end Go.Proofs.Ytocpfioifamkmab
