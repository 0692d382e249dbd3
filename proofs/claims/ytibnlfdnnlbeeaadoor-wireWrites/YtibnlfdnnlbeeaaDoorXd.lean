/-
  The answer of the document: itemFields, length.
-/
import Derived.Test.YtibnlfdnnlbeeaaDoorXa
namespace Go.Proofs.YtibnlfdnnlbeeaaDoor
open Go.RowKit
set_option linter.unusedVariables false

/-- The fields of a kind of items: they stand one behind the other. -/
def KL (nm base len : Nat) : Prop := (nm = 2 ∧ base = 1 ∧ len = 1) ∨ (nm = 16128 ∧ base = 8 ∧ len = 6)
theorem KL.start {nm base len : Nat} (h : KL nm base len) : posAt nm base = 1 := by
  rcases h with ⟨rfl, rfl, rfl⟩ | ⟨rfl, rfl, rfl⟩ <;> decide
theorem KL.stop {nm base len : Nat} (h : KL nm base len) : posAt nm (base + len) = sizeP nm := by
  rcases h with ⟨rfl, rfl, rfl⟩ | ⟨rfl, rfl, rfl⟩ <;> decide
theorem KL.has {nm base len : Nat} (h : KL nm base len) (i : Nat) (hi : i < len) : hasP nm (base + i) = true := by
  rcases h with ⟨rfl, rfl, rfl⟩ | ⟨rfl, rfl, rfl⟩
  · obtain rfl : i = 0 := by omega
    decide
  · have : i = 0 ∨ i = 1 ∨ i = 2 ∨ i = 3 ∨ i = 4 ∨ i = 5 := by omega
    rcases this with rfl | rfl | rfl | rfl | rfl | rfl <;> decide
theorem KL.fld {nm base len : Nat} (h : KL nm base len) (i : Nat) (hi : i < len) : base + i = 1 ∨ base + i = 8 ∨ base + i = 9 ∨ base + i = 10 ∨ base + i = 11 ∨ base + i = 12 ∨ base + i = 13 := by
  rcases h with ⟨rfl, rfl, rfl⟩ | ⟨rfl, rfl, rfl⟩ <;> omega
theorem KL.only {nm base len : Nat} (h : KL nm base len) (f : Nat) (hf : f < 14) (hp : hasP nm f = true) : base ≤ f ∧ f < base + len := by
  have cs : f = 0 ∨ f = 1 ∨ f = 2 ∨ f = 3 ∨ f = 4 ∨ f = 5 ∨ f = 6 ∨ f = 7 ∨ f = 8 ∨ f = 9 ∨ f = 10 ∨ f = 11 ∨ f = 12 ∨ f = 13 := by omega
  rcases h with ⟨rfl, rfl, rfl⟩ | ⟨rfl, rfl, rfl⟩ <;> rcases cs with rfl | rfl | rfl | rfl | rfl | rfl | rfl | rfl | rfl | rfl | rfl | rfl | rfl | rfl <;> first | omega | exact absurd hp (by decide)

/-- A list of fields in memory. -/
def IsL (w : World) (b base len : Nat) : Prop := b < w.heap.size ∧ ∀ i, i < len → w.cell? ⟨b, i, none⟩ = some (.int .i64 ((base + i : Nat) : Int))
theorem IsL.below {w w' : World} {b base len : Nat} (h : IsL w b base len) (hb : Below w.heap.size w w') : IsL w' b base len :=
  ⟨Nat.lt_of_lt_of_le h.1 hb.size, fun i hi => (hb.cell (p := ⟨b, i, none⟩) h.1).trans (h.2 i hi)⟩

set_option maxHeartbeats 1000000 in
theorem fields_none (k : Int) (w : World) (h : nmP k = 0) : Calls Tryd.prog 25 #[.int .i64 k] w fun e w' => e = .returned (.slice none 0 0) ∧ w' = w := by
  have h1 : ¬ k = 1 := by rintro rfl; exact absurd h (by decide)
  have h2 : ¬ k = 2 := by rintro rfl; exact absurd h (by decide)
  clear h
  go_enter Tryd.func25, Tryd.ntmps25
  go_wp2
  go_ret
  exact ⟨rfl, rfl⟩

set_option maxHeartbeats 1000000 in
theorem fields_some (k : Int) (w : World) (h : nmP k ≠ 0) : Calls Tryd.prog 25 #[.int .i64 k] w fun e w' => ∃ b base len, KL (nmP k) base len ∧ e = .returned (.slice (some ⟨b, 0, none⟩) len len) ∧ IsL w' b base len ∧ Below w.heap.size w w' := by
  rcases kind_of k h with rfl | rfl
  · have hn := heap_alloc_new w (.cells #[.int .i64 1] 3)
    have HN := hd hn
    clear hn h
    go_enter Tryd.func25, Tryd.ntmps25
    go_wp2
    go_ret
    refine ⟨_, 1, 1, .inl ⟨rfl, rfl, rfl⟩, rfl, ⟨by simp, fun i hi => ?_⟩, (Below.refl _ _).alloc (Nat.le_refl _) _⟩
    obtain rfl : i = 0 := by omega
    rw [cell_row HN.out]
    rfl
  · have hn := heap_alloc_new w (.cells #[.int .i64 8, .int .i64 9, .int .i64 10, .int .i64 11, .int .i64 12, .int .i64 13] 3)
    have HN := hd hn
    clear hn h
    go_enter Tryd.func25, Tryd.ntmps25
    go_wp2
    go_ret
    refine ⟨_, 8, 6, .inr ⟨rfl, rfl, rfl⟩, rfl, ⟨by simp, fun i hi => ?_⟩, (Below.refl _ _).alloc (Nat.le_refl _) _⟩
    rw [cell_row HN.out]
    have : i = 0 ∨ i = 1 ∨ i = 2 ∨ i = 3 ∨ i = 4 ∨ i = 5 := by omega
    rcases this with rfl | rfl | rfl | rfl | rfl | rfl <;> rfl

set_option maxHeartbeats 2000000 in
theorem length_any (nm base len b : Nat) (w : World) (hK : KL nm base len) (hL : IsL w b base len) : Calls Tryd.prog 31 #[.slice (some ⟨b, 0, none⟩) len len] w fun e w' => e = .returned (.int .i64 ((sizeP nm : Int) - 1)) ∧ w' = w := by
  have HK := hd hK
  have HL := hd hL
  have hl6 : len ≤ 6 := by rcases hK with ⟨-, -, rfl⟩ | ⟨-, -, rfl⟩ <;> omega
  have hs : Hid (posAt nm base = 1) := hK.start
  have hse : Hid (posAt nm (base + len) = sizeP nm) := hK.stop
  have hsz : sizeP nm ≤ 9 := by rcases hK with ⟨rfl, -, -⟩ | ⟨rfl, -, -⟩ <;> decide
  clear hK hL
  go_enter Tryd.func31, Tryd.ntmps31
  go_wp2_with fail
  go_loopw [3, 4] (fun x i wr => ∃ k : Nat, k ≤ len ∧ i = .int .i64 k ∧ x = .int .i64 ((posAt nm (base + k) : Int) - 1) ∧ wr = w) (fun _ i _ => len - (intOf i).toNat)
  case atStart => exact ⟨0, Nat.zero_le _, rfl, by rw [Nat.add_zero, hs.out]; rfl, rfl⟩
  case round =>
    obtain ⟨k, hk, rfl, rfl, rfl⟩ := hrel
    by_cases hlt : k < len
    · have i1 : (k : Int) < (len : Int) := by omega
      have i0 : (0 : Int) ≤ k := by omega
      have c := HL.out.2 k hlt
      have hf14 : base + k < 14 := by have := HK.out.fld k hlt; omega
      have hst := posAt_succ nm (base + k)
      have hw : wdt nm (base + k) = if hasP 1512 (base + k) then 2 else 1 := by simp [wdt, HK.out.has k hlt]
      rw [hw] at hst
      have hle : posAt nm (base + k + 1) ≤ 9 := Nat.le_trans (by rw [← hse.out]; exact posAt_mono nm (by omega)) hsz
      obtain ⟨f, hf⟩ : ∃ f, base + k = f := ⟨_, rfl⟩
      have HN : Hid (base + (k + 1) = f + 1) := hd (by omega)
      rw [hf] at c hf14 hst hle
      rw [hf]
      have CW := hd (wide_any f wr hf14)
      have hpp : posAt nm f ≤ 9 := by omega
      clear hw hf
      obtain ⟨b3, hb3⟩ : ∃ b, hasP 1512 f = b := ⟨_, rfl⟩
      rw [hb3] at CW hst
      obtain ⟨P, hP⟩ : ∃ P, posAt nm f = P := ⟨_, rfl⟩
      rw [hP] at hst hpp
      rw [hP]
      clear hb3 hP hle
      go_wp2_with fail
      refine CW.out.mono ?_
      rintro e w1 ⟨rfl, hw1⟩
      subst hw1
      cases b3 with
      | true =>
        have E : Hid ((posAt nm (f + 1) : Int) - 1 = (P : Int) - 1 + 2) := hd (by simp at hst; omega)
        clear hst
        go_wp2
        exact ⟨⟨k + 1, by omega, by go_num, by first | (rw [HN.out, E.out]; done) | (rw [HN.out, E.out]; simp), trivial⟩, by simp [intOf]; omega⟩
      | false =>
        have E : Hid ((posAt nm (f + 1) : Int) - 1 = (P : Int) - 1 + 1) := hd (by simp at hst; omega)
        clear hst
        go_wp2
        exact ⟨⟨k + 1, by omega, by go_num, by first | (rw [HN.out, E.out]; done) | (rw [HN.out, E.out]; simp), trivial⟩, by simp [intOf]; omega⟩
    · obtain rfl : k = len := by omega
      rw [hse.out]
      go_wp2
      go_ret
      exact ⟨rfl, rfl⟩

end Go.Proofs.YtibnlfdnnlbeeaaDoor
