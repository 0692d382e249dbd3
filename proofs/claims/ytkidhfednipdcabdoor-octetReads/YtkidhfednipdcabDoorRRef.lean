/-
  The reader of the document.
-/
import Derived.Test.YtkidhfednipdcabDoorRWalkU
namespace Go.Proofs.YtkidhfednipdcabDoor
open Go.RowKit
variable {D : Nat → Prop}

set_option maxHeartbeats 400000 in
theorem copied_any (a : Option Addr) (n c : Nat) (xs : List Int) (w : World) (h : IsB w a n c xs) (hn : n ≤ 1000000) :
    Calls Tryd.prog 33 #[.slice a n c] w fun e w' => ∃ v, e = .returned v ∧ OwnB w' w.heap.size v n xs ∧ Below w.heap.size w w' := by
  obtain ⟨h1, h2, h3, h4⟩ := h
  obtain ⟨i0, hi, hz0, hz1, hz2⟩ := info_parts Tryd.info5
  go_enter Tryd.func33, Tryd.ntmps33
  go_wp2_with (first | (at_make; refine wpList_make_full _ rfl _ _ 22 rfl w.heap.size 5 i0 (.int .u8 0) 1 Tryd.underlying22 hi hz0 hz1 _ _ _ _ n rfl rfl rfl rfl (by rw [hz2]; omega) (by unfold maxLen; omega) (Nat.le_refl _) ?_; intro w1 hown hgrow) | go_in)
  have hbel : Below w.heap.size w w1 := (Below.refl _ _).grown hgrow (Nat.le_refl _) (by simp)
  have hown0 : w1.ownsRow w.heap.size 5 1 (.slice (some ⟨w.heap.size, 0, none⟩) n n) n (ints (xs.take 0 ++ List.replicate (n - 0) 0)) := by
    have e : (madeCells (Value.int .u8 0).cells (n * 1)).toList = ints (xs.take 0 ++ List.replicate (n - 0) 0) := by
      rw [show (Value.int .u8 0).cells = #[Value.int .u8 0] from rfl, toList_madeCells_one]
      simp [ints]
    rw [← e]
    exact hown
  clear hown hgrow hi hz0 hz1 hz2
  go_loopw [4] (fun i wr => ∃ k : Nat, k ≤ n ∧ i = .int .i64 k ∧ wr.ownsRow w.heap.size 5 1 (.slice (some ⟨w.heap.size, 0, none⟩) n n) n (ints (xs.take k ++ List.replicate (n - k) 0)) ∧ Below w.heap.size w wr) (fun i _ => n - (intOf i).toNat)
  case atStart => exact ⟨0, Nat.zero_le _, rfl, hown0, hbel⟩
  case round =>
    obtain ⟨k, hk, rfl, hown, hbl⟩ := hrel
    clear hown0 hbel
    by_cases hlt : k < n
    · obtain ⟨b, off, rfl, hb, hc⟩ := h4 (by omega)
      have e1 : wr.cell? ⟨b, off + k, none⟩ = some (.int .u8 (xs.getD k 0)) := (hbl.cell (p := ⟨b, off + k, none⟩) hb).trans (hc k hlt)
      have hi : (k : Int) < (n : Int) := by omega
      have hfr : wr.frozen? ⟨w.heap.size, k, none⟩ = false := hown.frozenAt k
      have hcl : ∃ u, wr.cell? ⟨w.heap.size, k, none⟩ = some u := by
        rw [hown.cellAt k (by omega)]
        exact ⟨_, List.getElem?_eq_getElem (by rw [hown.1]; omega)⟩
      obtain ⟨u, hu⟩ := hcl
      have st := hown.stored k (.int .u8 (xs.getD k 0))
      rw [fill_step xs n k h1 hlt] at st
      generalize xs.getD k 0 = x at e1 st
      have ST : Hid _ := st
      have HB : Hid _ := hbl
      clear hc h4 st hown hbl
      go_wp2
      go_roundw
      case rel => exact ⟨k + 1, by omega, by go_num, ST.out.1, HB.out.grown ST.out.2 HB.out.size (by simp)⟩
      case measure => simp [intOf]; omega
    · have e : xs.take k ++ List.replicate (n - k) 0 = xs := by
        rw [show n - k = 0 from by omega, List.take_of_length_le (by omega), List.replicate_zero, List.append_nil]
      have R : Hid (OwnB wr w.heap.size (.slice (some ⟨w.heap.size, 0, none⟩) n n) n xs ∧ Below w.heap.size w wr) := by
        rw [e] at hown
        exact ⟨hown, hbl⟩
      clear h4 hown hbl e
      go_wp2
      go_ret
      exact ⟨_, rfl, R.out⟩


/-- The number of the error of the document, and its place. -/
def codeOf (f : Bool) : Int := if f then 10 else 0
def badOf (f : Bool) (p : Nat) : Int := if f then (p : Int) else -1

/-- The reader of the document at block s. -/
def RF (D : Nat → Prop) (w : World) (s : Nat) (xs : List Int) (p : Nat) (f : Bool) : Prop :=
  ∃ a n c, w.heap[s]? = some (.cells #[.slice a n c, .int .i64 p, .int .i64 (codeOf f), .int .i64 (badOf f p)] 59 (0, 0)) ∧ IsB w a n c xs ∧ (∀ b off, a = some ⟨b, off, none⟩ → b ≠ s ∧ D b) ∧ p ≤ n ∧ n ≤ 1000000

theorem RF.lt {w : World} {s : Nat} {xs : List Int} {p : Nat} {f : Bool} (h : RF D w s xs p f) : s < w.heap.size := by
  obtain ⟨a, n, c, hh, _⟩ := h
  exact block_lt hh
theorem RF.but {w w' : World} {r s : Nat} {xs : List Int} {p : Nat} {f : Bool} (h : RF D w r xs p f) (hb : But s w w') (hne : r ≠ s) (hD : ∀ b, D b → b ≠ s) : RF D w' r xs p f := by
  obtain ⟨a, n, c, hh, hB, hr, h1, h2⟩ := h
  exact ⟨a, n, c, (hb.block r (block_lt hh) hne).trans hh, hB.but hb (fun b off e => hD b (hr b off e).2), hr, h1, h2⟩
theorem RF.below {w w' : World} {r : Nat} {xs : List Int} {p : Nat} {f : Bool} (h : RF D w r xs p f) (hb : Below w.heap.size w w') : RF D w' r xs p f := by
  obtain ⟨a, n, c, hh, hB, hr, h1, h2⟩ := h
  exact ⟨a, n, c, (hb.block r (block_lt hh)).trans hh, hB.below hb, hr, h1, h2⟩
theorem RF.drewN {w : World} {r : Nat} {xs : List Int} {p : Nat} {f : Bool} (h : RF D w r xs p f) (m : Nat) : RF D (w.drewN m) r xs p f :=
  h.below (below_drewN (Below.refl _ _) m)
theorem RF.fail {w : World} {r : Nat} {xs : List Int} {p : Nat} (h : RF D w r xs p false) : RF D ((w.setCell ⟨r, 2, none⟩ (.int .i64 10)).setCell ⟨r, 3, none⟩ (.int .i64 p)) r xs p true := by
  obtain ⟨a, n, c, hh, hB, hr, h1, h2⟩ := h
  refine ⟨a, n, c, ?_, (hB.but (But.setCell r w 2 _) (fun b off e => (hr b off e).1)).but (But.setCell r _ 3 _) (fun b off e => (hr b off e).1), hr, h1, h2⟩
  rw [set_row (set_row hh 2 _)]
  simp [codeOf, badOf]
theorem RF.move {w : World} {r : Nat} {xs : List Int} {p : Nat} (h : RF D w r xs p false) (k : Nat) (hk : k ≤ xs.length) : RF D (w.setCell ⟨r, 1, none⟩ (.int .i64 k)) r xs k false := by
  obtain ⟨a, n, c, hh, hB, hr, h1, h2⟩ := h
  refine ⟨a, n, c, ?_, hB.but (But.setCell r w 1 _) (fun b off e => (hr b off e).1), hr, by rw [← hB.1]; exact hk, h2⟩
  rw [set_row hh]
  simp [codeOf, badOf]

def FBad (D : Nat → Prop) (w w' : World) (r : Nat) (xs : List Int) (p : Nat) : Prop := RF D w' r xs p true ∧ But r w w'
def FGood (D : Nat → Prop) (w w' : World) (r : Nat) (xs : List Int) (p k : Nat) : Prop := RF D w' r xs (p + k) false ∧ But r w w'

theorem OwnB.but {w w' : World} {base r : Nat} {v : Value} {n : Nat} {xs : List Int} (h : OwnB w base v n xs) (hb : But r w w') (hr : r < base) : OwnB w' base v n xs := by
  refine ⟨h.1, ?_⟩
  rcases h.2 with h0 | ⟨g, cap, cur, e, hbg, hh, q⟩
  · exact .inl h0
  · exact .inr ⟨g, cap, cur, e, hbg, (hb.block g (block_lt hh) (by omega)).trans hh, q⟩

set_option maxHeartbeats 400000 in
theorem refNew_any (a : Option Addr) (n c : Nat) (xs : List Int) (w : World) (h : IsB w a n c xs) (hn : n ≤ 1000000) :
    Calls Tryd.prog 21 #[.slice a n c] w fun e w' => ∃ r, e = .returned (.pointer (some ⟨r, 0, none⟩)) ∧ w.heap.size ≤ r ∧ r < w'.heap.size ∧ RF (fun b => w.heap.size ≤ b ∧ b < r) w' r xs 0 false ∧ Below w.heap.size w w' := by
  have HH : Hid (IsB w a n c xs) := h
  clear h
  go_enter Tryd.func21, Tryd.ntmps21
  go_wp2_with fail
  refine (copied_any a n c xs _ HH.out hn).mono ?_
  rintro e w1 ⟨v, rfl, hown, hbel⟩
  have hl := hown.lt
  obtain ⟨a1, c1, rfl, hb1⟩ := hown.isB
  have R : Hid (w.heap.size ≤ w1.heap.size ∧ w1.heap.size < (w1.alloc (.cells #[.slice a1 n c1, .int .i64 0, .int .i64 0, .int .i64 (-1)] 59)).heap.size ∧ RF (fun b => w.heap.size ≤ b ∧ b < w1.heap.size) (w1.alloc (.cells #[.slice a1 n c1, .int .i64 0, .int .i64 0, .int .i64 (-1)] 59)) w1.heap.size xs 0 false ∧ Below w.heap.size w (w1.alloc (.cells #[.slice a1 n c1, .int .i64 0, .int .i64 0, .int .i64 (-1)] 59))) := by
    refine ⟨hbel.size, by simp, ⟨a1, n, c1, heap_alloc_new _ _, hb1.below ((Below.refl _ _).alloc (Nat.le_refl _) _), ?_, Nat.zero_le _, hn⟩, hbel.alloc hbel.size _⟩
    intro b off e
    subst e
    have := hl b rfl
    exact ⟨by omega, by omega⟩
  clear hown hbel hb1 hl
  go_wp2
  go_ret
  exact ⟨_, rfl, R.out⟩

set_option maxHeartbeats 400000 in
theorem refLeft_any (r : Nat) (xs : List Int) (p : Nat) (f : Bool) (w : World) (h : RF D w r xs p f) :
    Calls Tryd.prog 39 #[.pointer (some ⟨r, 0, none⟩)] w fun e w' => e = .returned (.int .i64 ((xs.length : Int) - p)) ∧ ∃ m, w' = w.drewN m := by
  obtain ⟨a, n, c, hh, hB, hr, h1, h2⟩ := h
  have c0 := cell_row hh 0
  have c1 := cell_row hh 1
  simp at c0 c1
  have hl := hB.1
  rw [hl]
  clear hh hB hr hl
  go_enter Tryd.func39, Tryd.ntmps39
  go_wp2
  go_quiet (fail)
  go_wp2
  go_ret
  exact ⟨rfl, _, rfl⟩

set_option maxHeartbeats 400000 in
theorem refAt_any (r : Nat) (xs : List Int) (p : Nat) (f : Bool) (w : World) (h : RF D w r xs p f) :
    Calls Tryd.prog 38 #[.pointer (some ⟨r, 0, none⟩)] w fun e w' => e = .returned (.int .i64 p) ∧ w = w' := by
  obtain ⟨a, n, c, hh, hB, hr, h1, h2⟩ := h
  have c1 := cell_row hh 1
  simp at c1
  clear hh hB hr
  go_enter Tryd.func38, Tryd.ntmps38
  go_wp2
  go_ret
  exact ⟨rfl, rfl⟩

set_option maxHeartbeats 400000 in
theorem refErr_any (r : Nat) (xs : List Int) (p : Nat) (f : Bool) (w : World) (h : RF D w r xs p f) :
    Calls Tryd.prog 40 #[.pointer (some ⟨r, 0, none⟩)] w fun e w' => e = .returned (.tuple #[.int .i64 (codeOf f), .int .i64 (badOf f p)]) ∧ ∃ m, w' = w.drewN m := by
  obtain ⟨a, n, c, hh, hB, hr, h1, h2⟩ := h
  have c2 := cell_row hh 2
  have c3 := cell_row hh 3
  simp at c2 c3
  clear hh hB hr
  generalize codeOf f = cd at *
  generalize badOf f p = bd at *
  go_enter Tryd.func40, Tryd.ntmps40
  go_wp2
  go_quiet (fail)
  go_wp2
  go_ret2
  exact ⟨rfl, _, rfl⟩

set_option maxHeartbeats 400000 in
theorem refTake_still (r : Nat) (xs : List Int) (p : Nat) (n : Int) (w : World) (h : RF D w r xs p true) :
    Calls Tryd.prog 37 #[.pointer (some ⟨r, 0, none⟩), .int .i64 n] w fun e w' => e = .returned (.slice none 0 0) ∧ FBad D w w' r xs p := by
  have H := hd h
  obtain ⟨a, k, c, hh, hB, hr, h1, h2⟩ := h
  have c2 := cell_row hh 2
  simp [codeOf] at c2
  clear hh hB hr
  go_enter Tryd.func37, Tryd.ntmps37
  go_wp2
  go_ret
  exact ⟨rfl, H.out, But.refl _ _⟩

set_option maxHeartbeats 400000 in
theorem refTake_neg (r : Nat) (xs : List Int) (p : Nat) (n : Int) (w : World) (h : RF D w r xs p false) (hn : n < 0) :
    Calls Tryd.prog 37 #[.pointer (some ⟨r, 0, none⟩), .int .i64 n] w fun e w' => e = .returned (.slice none 0 0) ∧ FBad D w w' r xs p := by
  have H := hd h
  obtain ⟨a, k, c, hh, hB, hr, h1, h2⟩ := h
  have c2 := cell_row hh 2
  simp [codeOf] at c2
  clear hh hB hr
  go_enter Tryd.func37, Tryd.ntmps37
  go_wp2
  go_quiet (fail)
  have R := hd (And.intro (H.out.drewN nq).fail (((But.drewN r w nq).trans (But.setCell r _ 2 (.int .i64 10))).trans (But.setCell r _ 3 (.int .i64 p))))
  obtain ⟨a, k, c, hh, hB, hr, h1, h2⟩ := H.out.drewN nq
  have e2 := cell_row hh 2
  have g2 := frozen_row hh 2
  have e1 := cell_row (set_row hh 2 (.int .i64 10)) 1
  have e3 := cell_row (set_row hh 2 (.int .i64 10)) 3
  have g3 := frozen_row (set_row hh 2 (.int .i64 10)) 3
  simp at e1 e2 e3 g2 g3
  clear hh hB hr H c2
  go_wp2
  go_ret
  exact ⟨rfl, R.out⟩


set_option maxHeartbeats 400000 in
theorem refTake_over (r : Nat) (xs : List Int) (p : Nat) (n : Int) (w : World) (h : RF D w r xs p false) (hn : 0 ≤ n) (hx : (xs.length : Int) - p < n) :
    Calls Tryd.prog 37 #[.pointer (some ⟨r, 0, none⟩), .int .i64 n] w fun e w' => e = .returned (.slice none 0 0) ∧ FBad D w w' r xs p := by
  have H := hd h
  obtain ⟨a, k, c, hh, hB, hr, h1, h2⟩ := h
  have c2 := cell_row hh 2
  have c0 := cell_row hh 0
  have c1 := cell_row hh 1
  simp [codeOf] at c2
  simp at c0 c1
  rw [hB.1] at hx
  have hn0 : decide (n < 0) = false := by simpa using hn
  clear hh hB hr
  go_enter Tryd.func37, Tryd.ntmps37
  go_wp2
  go_quiet (fail)
  have R := hd (And.intro (H.out.drewN nq).fail (((But.drewN r w nq).trans (But.setCell r _ 2 (.int .i64 10))).trans (But.setCell r _ 3 (.int .i64 p))))
  obtain ⟨a, k, c, hh, hB, hr, h1, h2⟩ := H.out.drewN nq
  have e2 := cell_row hh 2
  have g2 := frozen_row hh 2
  have e1 := cell_row (set_row hh 2 (.int .i64 10)) 1
  have e3 := cell_row (set_row hh 2 (.int .i64 10)) 3
  have g3 := frozen_row (set_row hh 2 (.int .i64 10)) 3
  simp at e1 e2 e3 g2 g3
  clear hh hB hr H c0 c1 c2
  go_wp2
  go_ret
  exact ⟨rfl, R.out⟩


end Go.Proofs.YtkidhfednipdcabDoor
