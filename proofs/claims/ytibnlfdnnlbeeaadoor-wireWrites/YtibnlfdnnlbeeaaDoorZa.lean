/-
  The answer of the document: asMsg, among.
-/
import Derived.Test.YtibnlfdnnlbeeaaDoorXc
import Derived.Test.YtibnlfdnnlbeeaaDoorXd
import Derived.Test.YtibnlfdnnlbeeaaDoorXe
import Derived.Test.YtibnlfdnnlbeeaaDoorYa
namespace Go.Proofs.YtibnlfdnnlbeeaaDoor
open Go.RowKit
set_option linter.unusedVariables false

/-- The fields of an item, in a message. -/
def MI (x : It) : Nat → Int := fun f => if f = 0 then 5 else if f = 1 then x.epoch else if f = 8 then x.tag else if f = 9 then x.ok else if f = 10 then x.pos else if f = 11 then x.ch else if f = 12 then x.cl else if f = 13 then x.sq else 0

set_option maxRecDepth 100000 in
set_option maxHeartbeats 2000000 in
theorem among_any (base len lb f : Nat) (w : World) (hl : IsL w lb base len) (h14 : base + len ≤ 14) :
    Calls Tryd.prog 27 #[.slice (some ⟨lb, 0, none⟩) len len, .int .i64 f] w fun e w' => e = .returned (.bool (decide (base ≤ f ∧ f < base + len))) ∧ w' = w := by
  obtain ⟨rr, hrr⟩ : ∃ r, decide (base ≤ f ∧ f < base + len) = r := ⟨_, rfl⟩
  rw [hrr]
  have HRR := hd hrr
  have HL := hd hl
  have S0 : Hid (∀ j, j < 0 → base + j ≠ f) := fun j hj => absurd hj (Nat.not_lt_zero _)
  clear hl hrr
  go_enter Tryd.func27, Tryd.ntmps27
  go_wp2
  go_loopw [5] (fun i wr => ∃ k : Nat, k ≤ len ∧ i = .int .i64 k ∧ wr = w ∧ Hid (∀ j, j < k → base + j ≠ f)) (fun i _ => len - (intOf i).toNat)
  case atStart => exact ⟨0, Nat.zero_le _, rfl, rfl, S0⟩
  case round =>
    obtain ⟨k, hk, rfl, rfl, hr⟩ := hrel
    clear S0
    by_cases hlt : k < len
    · have i1 : (k : Int) < (len : Int) := by omega
      have cl := HL.out.2 k hlt
      have bl := HL.out.1
      obtain ⟨g, hg⟩ : ∃ g, base + k = g := ⟨_, rfl⟩
      rw [hg] at cl
      by_cases he : g = f
      · subst he
        have Z : Hid (rr = true) := hd (by rw [← HRR.out]; simp; omega)
        clear hg hr
        go_wp2
        go_ret
        exact ⟨(by first | (rw [Z.out]; done) | (rw [Z.out]; rfl)), (by first | rfl | trivial)⟩
      · have h1 : ¬ (g : Int) = (f : Int) := by omega
        have S2 : Hid (∀ j, j < k + 1 → base + j ≠ f) := fun j hj => by
          by_cases e : j = k
          · subst e; omega
          · exact hr.out j (by omega)
        clear hg hr
        go_wp2
        exact ⟨⟨k + 1, by omega, by go_num, (by first | rfl | trivial), S2⟩, by simp [intOf]; omega⟩
    · obtain rfl : k = len := by omega
      have i1 : ¬ (k : Int) < (k : Int) := by omega
      have Z : Hid (rr = false) := hd (by
        rw [← HRR.out]
        simp
        intro hb
        rcases Nat.lt_or_ge f (base + k) with h | h
        · exact absurd (show base + (f - base) = f by omega) (hr.out (f - base) (by omega))
        · exact h)
      clear hr
      go_wp2
      go_ret
      exact ⟨(by first | (rw [Z.out]; done) | (rw [Z.out]; rfl)), (by first | rfl | trivial)⟩

end Go.Proofs.YtibnlfdnnlbeeaaDoor
