/-
  next.
-/
import Derived.Test.YtibnlfdnnlbeeaaDoorRWalkR
namespace Go.Proofs.YtibnlfdnnlbeeaaDoor
open Go.RowKit
variable {D : Nat → Prop}

theorem RD.drewN {w : World} {r : Nat} {xs : List Int} {p : Nat} {f : Bool} (h : RD D w r xs p f) (m : Nat) : RD D (w.drewN m) r xs p f :=
  h.below (below_drewN (Below.refl _ _) m)

theorem IsB.sub {w : World} {a : Option Addr} {n c : Nat} {xs : List Int} (h : IsB w a n c xs) (p k : Nat) (hp : p + k ≤ n) : IsB w (if c = p then a else a.map fun x => x.add p) k (c - p) ((xs.drop p).take k) := by
  obtain ⟨h1, h2, h3, h4⟩ := h
  refine ⟨by simp; omega, by omega, by omega, fun hk => ?_⟩
  obtain ⟨b, off, rfl, hb, hc⟩ := h4 (by omega)
  refine ⟨b, off + p, ?_, hb, fun i hi => ?_⟩
  · rw [if_neg (by omega)]
    by_cases h0 : p = 0
    · subst h0; simp [Addr.add]
    · simp [Addr.add, h0]
  · have := hc (p + i) (by omega)
    rw [Nat.add_assoc, this]
    simp [hi]

theorem RD.fail {w : World} {r : Nat} {xs : List Int} {p : Nat} {f : Bool} (h : RD D w r xs p f) : RD D (w.setCell ⟨r, 2, none⟩ (.bool true)) r xs p true := by
  obtain ⟨a, n, c, hh, hB, hr, h1, h2⟩ := h
  refine ⟨a, n, c, ?_, hB.but (But.setCell r w 2 _) (fun b off e => (hr b off e).1), hr, h1, h2⟩
  rw [set_row hh]
  simp

theorem RD.move {w : World} {r : Nat} {xs : List Int} {p : Nat} {f : Bool} (h : RD D w r xs p f) (k : Nat) (hk : k ≤ xs.length) : RD D (w.setCell ⟨r, 1, none⟩ (.int .i64 k)) r xs k f := by
  obtain ⟨a, n, c, hh, hB, hr, h1, h2⟩ := h
  refine ⟨a, n, c, ?_, hB.but (But.setCell r w 1 _) (fun b off e => (hr b off e).1), hr, by rw [← hB.1]; exact hk, h2⟩
  rw [set_row hh]
  simp

/-- What a read beyond the end comes to. -/
def Bad (D : Nat → Prop) (w w' : World) (r : Nat) (xs : List Int) (p : Nat) : Prop := RD D w' r xs p true ∧ But r w w'

set_option maxHeartbeats 400000 in
theorem next_neg (r : Nat) (xs : List Int) (p : Nat) (f : Bool) (n : Int) (w : World) (h : RD D w r xs p f) (hn : n < 0) :
    Calls Tryd.prog 65 #[.pointer (some ⟨r, 0, none⟩), .int .i64 n] w fun e w' => e = .returned (.slice none 0 0) ∧ Bad D w w' r xs p := by
  have R := hd (And.intro h.fail (But.setCell r w 2 (.bool true)))
  obtain ⟨a, m, c, hh, hB, hr, h1, h2⟩ := h
  have c2 := cell_row hh 2
  have f2 := frozen_row hh 2
  have d2 := cell_row (set_row hh 2 (.bool true)) 2
  simp at c2 d2
  clear hh hB hr
  go_enter Tryd.func65, Tryd.ntmps65
  go_wp2
  go_ret
  exact ⟨rfl, R.out⟩

set_option maxHeartbeats 400000 in
theorem next_over (r : Nat) (xs : List Int) (p : Nat) (f : Bool) (n : Int) (w : World) (h : RD D w r xs p f) (hn : 0 ≤ n) (hx : (xs.length : Int) - p < n) :
    Calls Tryd.prog 65 #[.pointer (some ⟨r, 0, none⟩), .int .i64 n] w fun e w' => e = .returned (.slice none 0 0) ∧ Bad D w w' r xs p := by
  have H := hd h
  clear h
  go_enter Tryd.func65, Tryd.ntmps65
  go_wp2_with fail
  refine (left_any r xs p f _ H.out).mono ?_
  rintro e w1 ⟨rfl, m, rfl⟩
  have R := hd (And.intro (H.out.drewN m).fail ((But.drewN r w m).trans (But.setCell r _ 2 (.bool true))))
  obtain ⟨a, k, c, hh, hB, hr, h1, h2⟩ := H.out.drewN m
  have c2 := cell_row hh 2
  have f2 := frozen_row hh 2
  have d2 := cell_row (set_row hh 2 (.bool true)) 2
  simp at c2 d2 f2
  clear hh hB hr H
  go_wp2
  go_ret
  exact ⟨rfl, R.out⟩

set_option maxHeartbeats 400000 in
theorem next_still (r : Nat) (xs : List Int) (p : Nat) (n : Int) (w : World) (h : RD D w r xs p true) (hn : 0 ≤ n) (hx : ¬ (xs.length : Int) - p < n) :
    Calls Tryd.prog 65 #[.pointer (some ⟨r, 0, none⟩), .int .i64 n] w fun e w' => e = .returned (.slice none 0 0) ∧ Bad D w w' r xs p := by
  have H := hd h
  clear h
  go_enter Tryd.func65, Tryd.ntmps65
  go_wp2_with fail
  refine (left_any r xs p true _ H.out).mono ?_
  rintro e w1 ⟨rfl, m, rfl⟩
  have R := hd (And.intro (H.out.drewN m) (But.drewN r w m))
  obtain ⟨a, k, c, hh, hB, hr, h1, h2⟩ := H.out.drewN m
  have c2 := cell_row hh 2
  simp at c2
  clear hh hB hr H
  go_wp2
  go_ret
  exact ⟨rfl, R.out⟩

theorem next_bad (r : Nat) (xs : List Int) (p : Nat) (f : Bool) (n : Int) (w : World) (h : RD D w r xs p f) (hb : f = true ∨ n < 0 ∨ (xs.length : Int) - p < n) :
    Calls Tryd.prog 65 #[.pointer (some ⟨r, 0, none⟩), .int .i64 n] w fun e w' => e = .returned (.slice none 0 0) ∧ Bad D w w' r xs p := by
  by_cases hn : n < 0
  · exact next_neg r xs p f n w h hn
  · by_cases hx : (xs.length : Int) - p < n
    · exact next_over r xs p f n w h (by omega) hx
    · have hf : f = true := by rcases hb with h1 | h1 | h1 <;> first | exact h1 | omega
      subst hf
      exact next_still r xs p n w h (by omega) hx

/-- What a read of k bytes comes to. -/
def Good (D : Nat → Prop) (w w' : World) (r : Nat) (xs : List Int) (p k : Nat) : Prop := RD D w' r xs (p + k) false ∧ But r w w'

set_option maxHeartbeats 400000 in
theorem next_good (r : Nat) (xs : List Int) (p k : Nat) (w : World) (h : RD D w r xs p false) (hx : p + k ≤ xs.length) :
    Calls Tryd.prog 65 #[.pointer (some ⟨r, 0, none⟩), .int .i64 k] w fun e w' => ∃ a c, e = .returned (.slice a k c) ∧ IsB w' a k c ((xs.drop p).take k) ∧ Good D w w' r xs p k := by
  have H := hd h
  clear h
  have hx1 : ¬ (xs.length : Int) - p < k := by omega
  go_enter Tryd.func65, Tryd.ntmps65
  go_wp2_with fail
  refine (left_any r xs p false _ H.out).mono ?_
  rintro e w1 ⟨rfl, m, rfl⟩
  have R := hd (And.intro ((H.out.drewN m).move (p + k) hx) ((But.drewN r w m).trans (But.setCell r _ 1 (.int .i64 (p + k : Nat)))))
  obtain ⟨a, n, c, hh, hB, hr, h1, h2⟩ := H.out.drewN m
  have c0 := cell_row hh 0
  have c1 := cell_row hh 1
  have c2 := cell_row hh 2
  have f1 := frozen_row hh 1
  have d0 := cell_row (set_row hh 1 (.int .i64 (p + k : Nat))) 0
  have d1 := cell_row (set_row hh 1 (.int .i64 (p + k : Nat))) 1
  simp at c0 c1 c2 d0 d1 f1
  have hl := hB.1
  have hnc := hB.2.1
  have hc3 := hB.2.2.1
  have HB := hd (hB.but (But.setCell r _ 1 (.int .i64 (p + k : Nat))) (fun b off e => (hr b off e).1))
  clear hh hB hr H
  simp only [Int.natCast_add] at R HB
  go_wp2
  generalize (w.drewN m).setCell ⟨r, 1, none⟩ (.int .i64 (p + k)) = W2 at *
  go_quiet (fail)
  have ek : p + k - p = k := by omega
  rw [ek]
  have HS := hd ((HB.out.sub p k (by omega)).below (below_drewN (Below.refl _ _) nq))
  have RR := hd (And.intro (R.out.1.drewN nq) (R.out.2.trans (But.drewN r _ nq)))
  clear ek R HB
  generalize (if c = p then a else a.map fun x => x.add p) = A at HS ⊢
  go_wp2
  go_ret
  exact ⟨_, _, rfl, HS.out, RR.out⟩

end Go.Proofs.YtibnlfdnnlbeeaaDoor
