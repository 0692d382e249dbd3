/-
  bytes.Clone, NewReader, Left, At, Err.
-/
import Derived.Test.YtibnlfdnnlbeeaaDoorRReader
import Derived.Deep.QuietTactic
import Derived.BigQuiet
namespace Go.Proofs.YtibnlfdnnlbeeaaDoor
open Go.RowKit
variable {D : Nat → Prop}

set_option maxHeartbeats 400000 in
theorem clone_nil (n c : Nat) (w : World) :
    Calls Tryd.prog 56 #[.slice none n c] w fun e w' => e = .returned (.slice none 0 0) ∧ w = w' := by
  have hq := fun wx a n c => Lib.run_eql_slice_nil (P := Tryd.prog) wx 22 5 a n c 0 0 Tryd.underlying22
  go_enter Tryd.func56, Tryd.ntmps56
  go_wp2
  go_ret
  exact ⟨rfl, rfl⟩

theorem cells_at {w : World} {ad : Addr} {n c : Nat} {xs : List Int} (h : IsB w (some ad) n c xs) : ∀ j v, (ints xs)[j]? = some v → w.cell? (ad.add j) = some v := by
  intro j v hj
  obtain ⟨h1, h2, h3, h4⟩ := h
  have hjl : j < n := by
    have := (List.getElem?_eq_some_iff.1 hj).1
    simpa [ints, h1] using this
  obtain ⟨b, off, e, hb, hc⟩ := h4 (by omega)
  obtain rfl := Option.some.inj e
  have := hc j hjl
  simp only [ints, List.getElem?_map] at hj
  rw [List.getElem?_eq_getElem (by omega)] at hj
  simp at hj
  subst hj
  have ea : (⟨b, off, none⟩ : Addr).add j = ⟨b, off + j, none⟩ := by
    by_cases h0 : j = 0
    · subst h0; simp [Addr.add]
    · simp [Addr.add, h0]
  rw [ea, this]
  simp [List.getElem?_eq_getElem (show j < xs.length by omega)]

set_option maxHeartbeats 400000 in
theorem clone_some (ad : Addr) (n c : Nat) (xs : List Int) (w : World) (h : IsB w (some ad) n c xs) (hn : n ≤ 140737488351232) :
    Calls Tryd.prog 56 #[.slice (some ad) n c] w fun e w' => ∃ v, e = .returned v ∧ OwnB w' w.heap.size v n xs ∧ Below w.heap.size w w' := by
  obtain ⟨i0, hi, hz0, hz1, hz2⟩ := info_parts Tryd.info5
  have hq := fun wx a n c => Lib.run_eql_slice_nil (P := Tryd.prog) wx 22 5 a n c 0 0 Tryd.underlying22
  have HH : Hid (IsB w (some ad) n c xs) := h
  have hl := h.1
  clear h
  have own0 : OwnB (w.alloc (.cells #[] 5)) w.heap.size (.slice (some ⟨w.heap.size, 0, none⟩) 0 0) 0 [] := World.ownsRow_lit w #[] 0 (Nat.le_refl _) (by omega) rfl
  have O := hd own0
  clear own0
  go_enter Tryd.func56, Tryd.ntmps56
  go_wp2_with (at_builtin; refine wpList_append_own _ rfl (.tmp 5) (.tmp 6) 22 rfl w.heap.size 5 i0 (.int .u8 0) 1 1 Tryd.underlying22 hi hz0 hz1 hz2 rfl (by decide) (.slice (some ⟨w.heap.size, 0, none⟩) 0 0) 0 (ints []) rfl O.out ad n c (ints xs) rfl (by simp [ints, hl]) (cells_at (HH.out.below ((Below.refl _ _).alloc (Nat.le_refl _) _))) (ints_oneCell _ _) (by unfold maxLen; omega) (by omega) (by simp) ?_; intro v' w' hown' hgrow _)
  have R : Hid (OwnB w' w.heap.size v' n xs ∧ Below w.heap.size w w') := by
    refine ⟨by simpa [OwnB, ints] using hown', ((Below.refl _ _).alloc (Nat.le_refl _) _).grown hgrow (by simp) (fun k hk => (World.ownsRow.lt O.out k hk).1)⟩
  clear hown' hgrow
  go_wp2
  go_ret
  exact ⟨_, rfl, R.out⟩

theorem clone_any (a : Option Addr) (n c : Nat) (xs : List Int) (w : World) (h : IsB w a n c xs) (hn : n ≤ 140737488351232) :
    Calls Tryd.prog 56 #[.slice a n c] w fun e w' => ∃ v, e = .returned v ∧ OwnB w' w.heap.size v n xs ∧ Below w.heap.size w w' := by
  cases a with
  | some ad => exact clone_some ad n c xs w h hn
  | none =>
    have hn0 : n = 0 := by
      rcases Nat.eq_zero_or_pos n with h0 | h0
      · exact h0
      · obtain ⟨_, _, e, _⟩ := h.2.2.2 h0
        cases e
    subst hn0
    obtain rfl : xs = [] := List.eq_nil_of_length_eq_zero h.1
    refine (clone_nil 0 c w).mono ?_
    rintro e w' ⟨rfl, rfl⟩
    exact ⟨_, rfl, World.ownsRow_nil _ _ _ _, Below.refl _ _⟩

set_option maxHeartbeats 400000 in
theorem newReader_any (a : Option Addr) (n c : Nat) (xs : List Int) (w : World) (h : IsB w a n c xs) (hn : n ≤ 140737488351232) :
    Calls Tryd.prog 40 #[.slice a n c] w fun e w' => ∃ r, e = .returned (.pointer (some ⟨r, 0, none⟩)) ∧ w.heap.size ≤ r ∧ r < w'.heap.size ∧ RD (fun b => w.heap.size ≤ b ∧ b < r) w' r xs 0 false ∧ Below w.heap.size w w' := by
  have HH : Hid (IsB w a n c xs) := h
  clear h
  go_enter Tryd.func40, Tryd.ntmps40
  go_wp2_with fail
  refine (clone_any a n c xs _ HH.out hn).mono ?_
  rintro e w1 ⟨v, rfl, hown, hbel⟩
  have hl := hown.lt
  obtain ⟨a1, c1, rfl, hb1⟩ := hown.isB
  have R : Hid (w.heap.size ≤ w1.heap.size ∧ w1.heap.size < (w1.alloc (.cells #[.slice a1 n c1, .int .i64 0, .bool false] 113)).heap.size ∧ RD (fun b => w.heap.size ≤ b ∧ b < w1.heap.size) (w1.alloc (.cells #[.slice a1 n c1, .int .i64 0, .bool false] 113)) w1.heap.size xs 0 false ∧ Below w.heap.size w (w1.alloc (.cells #[.slice a1 n c1, .int .i64 0, .bool false] 113))) := by
    refine ⟨hbel.size, by simp, ⟨a1, n, c1, heap_alloc_new _ _, hb1.below ((Below.refl _ _).alloc (Nat.le_refl _) _), ?_, Nat.zero_le _, hn⟩, hbel.alloc hbel.size _⟩
    intro b off e
    subst e
    have := hl b rfl
    exact ⟨by omega, by omega⟩
  clear hown hbel hb1 hl
  go_wp2
  go_ret
  exact ⟨_, rfl, R.out⟩

set_option maxHeartbeats 400000 in
theorem left_any (r : Nat) (xs : List Int) (p : Nat) (f : Bool) (w : World) (h : RD D w r xs p f) :
    Calls Tryd.prog 67 #[.pointer (some ⟨r, 0, none⟩)] w fun e w' => e = .returned (.int .i64 ((xs.length : Int) - p)) ∧ ∃ m, w' = w.drewN m := by
  obtain ⟨a, n, c, hh, hB, hr, h1, h2⟩ := h
  have c0 := cell_row hh 0
  have c1 := cell_row hh 1
  simp at c0 c1
  have hl := hB.1
  rw [hl]
  clear hh hB hr hl
  go_enter Tryd.func67, Tryd.ntmps67
  go_wp2
  go_quiet (fail)
  go_wp2
  go_ret
  exact ⟨rfl, _, rfl⟩

set_option maxHeartbeats 400000 in
theorem at_any (r : Nat) (xs : List Int) (p : Nat) (f : Bool) (w : World) (h : RD D w r xs p f) :
    Calls Tryd.prog 43 #[.pointer (some ⟨r, 0, none⟩)] w fun e w' => e = .returned (.int .i64 p) ∧ w = w' := by
  obtain ⟨a, n, c, hh, hB, hr, h1, h2⟩ := h
  have c1 := cell_row hh 1
  simp at c1
  clear hh hB hr
  go_enter Tryd.func43, Tryd.ntmps43
  go_wp2
  go_ret
  exact ⟨rfl, rfl⟩

end Go.Proofs.YtibnlfdnnlbeeaaDoor
