/-
  read: Take, At, Left, Err; stands.
-/
import Derived.Test.YtkidhfednipdcabDoorRRead
namespace Go.Proofs.YtkidhfednipdcabDoor
open Go.RowKit
variable {D E : Nat → Prop}

/-- The place and the length in the box of the operation, behind a turn of a reader. -/
theorem box_n {w w1 : World} {r : Nat} {k N num : Int} {which : Bool} (h : But r (w.alloc (.cells #[.int .i64 k, .bool which, .int .i64 N, .int .u64 num] 38)) w1) (hr : r < w.heap.size) :
    w1.cell? ⟨w.heap.size, 2, none⟩ = some (.int .i64 N) := by
  rw [h.cell (p := ⟨w.heap.size, 2, none⟩) (by simp) (by simp; omega)]
  simp

theorem isB_nil (w : World) : IsB w none 0 0 [] := ⟨rfl, Nat.le_refl _, by omega, fun h => by omega⟩

set_option maxHeartbeats 1000000 in
theorem read4g (r s : Nat) (xs : List Int) (p k : Nat) (num : Int) (which : Bool) (w : World) (h : PR D E w r s xs p false) (hx : p + k ≤ xs.length) :
    Calls Tryd.prog 22 #[.pointer (some ⟨r, 0, none⟩), .pointer (some ⟨s, 0, none⟩), .agg #[.int .i64 4, .bool which, .int .i64 k, .int .u64 num]] w fun e w' => e = .returned (.bool true) ∧ Both D E w w' r s xs := by
  have H := hd h
  have HB : Hid (Below w.heap.size w (w.alloc (.cells #[.int .i64 4, .bool which, .int .i64 k, .int .u64 num] 38))) := (Below.refl _ _).alloc (Nat.le_refl _) _
  have hrl := h.rd.lt
  have hsl := h.rf.lt
  clear h
  go_enter Tryd.func22, Tryd.ntmps22
  go_wp2_with fail
  refine (take_good r xs p k _ (H.out.rd.below HB.out) hx).mono ?_
  rintro e w1 ⟨v1, rfl, hown, hg⟩
  have hbx := box_n hg.2 hrl
  have G1 := hd hg
  have O1 := hd hown
  clear hg hown
  go_wp2_with fail
  refine (refTake_good s xs p k _ ((H.out.rf.below HB.out).but G1.out.2 H.out.ne.symm H.out.er) hx).mono ?_
  rintro e w2 ⟨v2, rfl, hown2, hg⟩
  obtain ⟨a2, c2, rfl, hB2⟩ := hown2.isB
  obtain ⟨a1, c1, rfl, hB1⟩ := (O1.out.but hg.2 (by simp; omega)).isB
  have R := hd (both_good H.out HB.out G1.out hg)
  have B1 := hd hB1
  have B2 := hd hB2
  clear hg G1 H HB hown2 hB1 hB2 O1 hbx
  go_wp2_with fail
  refine (same_true a1 a2 k c1 c2 _ _ B1.out B2.out).mono ?_
  rintro e w3 ⟨rfl, m, rfl⟩
  have R2 := hd (R.out.more (below_drewN (Below.refl _ _) m))
  clear R B1 B2
  go_wp2
  go_ret
  exact ⟨rfl, R2.out⟩

set_option maxHeartbeats 1000000 in
theorem read4b (r s : Nat) (xs : List Int) (p : Nat) (f : Bool) (num N : Int) (which : Bool) (w : World) (h : PR D E w r s xs p f) (hb : f = true ∨ N < 0 ∨ (xs.length : Int) - p < N) :
    Calls Tryd.prog 22 #[.pointer (some ⟨r, 0, none⟩), .pointer (some ⟨s, 0, none⟩), .agg #[.int .i64 4, .bool which, .int .i64 N, .int .u64 num]] w fun e w' => e = .returned (.bool true) ∧ Both D E w w' r s xs := by
  have H := hd h
  have HX := hd hb
  have HB : Hid (Below w.heap.size w (w.alloc (.cells #[.int .i64 4, .bool which, .int .i64 N, .int .u64 num] 38))) := (Below.refl _ _).alloc (Nat.le_refl _) _
  have hrl := h.rd.lt
  clear h hb
  go_enter Tryd.func22, Tryd.ntmps22
  go_wp2_with fail
  refine (take_bad r xs p f N _ (H.out.rd.below HB.out) HX.out).mono ?_
  rintro e w1 ⟨rfl, hg⟩
  have hbx := box_n hg.2 hrl
  have G1 := hd hg
  clear hg
  go_wp2_with fail
  refine (refTake_bad s xs p f N _ ((H.out.rf.below HB.out).but G1.out.2 H.out.ne.symm H.out.er) HX.out).mono ?_
  rintro e w2 ⟨rfl, hg⟩
  have R := hd (both_bad H.out HB.out G1.out hg)
  clear hg G1 H HB hbx HX
  go_wp2_with fail
  refine (same_true none none 0 0 0 _ _ (isB_nil _) (isB_nil _)).mono ?_
  rintro e w3 ⟨rfl, m, rfl⟩
  have R2 := hd (R.out.more (below_drewN (Below.refl _ _) m))
  clear R
  go_wp2
  go_ret
  exact ⟨rfl, R2.out⟩

theorem read4 (r s : Nat) (xs : List Int) (p : Nat) (f : Bool) (num N : Int) (which : Bool) (w : World) (h : PR D E w r s xs p f) :
    Calls Tryd.prog 22 #[.pointer (some ⟨r, 0, none⟩), .pointer (some ⟨s, 0, none⟩), .agg #[.int .i64 4, .bool which, .int .i64 N, .int .u64 num]] w fun e w' => e = .returned (.bool true) ∧ Both D E w w' r s xs := by
  by_cases hc : f = true ∨ N < 0 ∨ (xs.length : Int) - p < N
  · exact read4b r s xs p f num N which w h hc
  · have hf : f = false := by
      cases f
      · rfl
      · exact absurd (.inl rfl) hc
    have h0 : ¬ N < 0 := fun h => hc (.inr (.inl h))
    have h1 : ¬ (xs.length : Int) - p < N := fun h => hc (.inr (.inr h))
    subst hf
    obtain ⟨k, rfl⟩ := Int.eq_ofNat_of_zero_le (show 0 ≤ N by omega)
    exact read4g r s xs p k num which w h (by omega)

set_option maxHeartbeats 1000000 in
theorem read5 (r s : Nat) (xs : List Int) (p : Nat) (f : Bool) (num N : Int) (which : Bool) (w : World) (h : PR D E w r s xs p f) :
    Calls Tryd.prog 22 #[.pointer (some ⟨r, 0, none⟩), .pointer (some ⟨s, 0, none⟩), .agg #[.int .i64 5, .bool which, .int .i64 N, .int .u64 num]] w fun e w' => e = .returned (.bool true) ∧ Both D E w w' r s xs := by
  have HB : Hid (Below w.heap.size w (w.alloc (.cells #[.int .i64 5, .bool which, .int .i64 N, .int .u64 num] 38))) := (Below.refl _ _).alloc (Nat.le_refl _) _
  have H := hd (h.below HB.out)
  clear h
  go_enter Tryd.func22, Tryd.ntmps22
  go_wp2_with fail
  refine (at_any r xs p f _ H.out.rd).mono ?_
  rintro e w1 ⟨rfl, rfl⟩
  go_wp2_with fail
  refine (refAt_any s xs p f _ H.out.rf).mono ?_
  rintro e w2 ⟨rfl, rfl⟩
  go_wp2
  go_ret
  exact ⟨by simp, p, f, H.out, But2.of_below HB.out⟩

set_option maxHeartbeats 1000000 in
theorem read6 (r s : Nat) (xs : List Int) (p : Nat) (f : Bool) (num N : Int) (which : Bool) (w : World) (h : PR D E w r s xs p f) :
    Calls Tryd.prog 22 #[.pointer (some ⟨r, 0, none⟩), .pointer (some ⟨s, 0, none⟩), .agg #[.int .i64 6, .bool which, .int .i64 N, .int .u64 num]] w fun e w' => e = .returned (.bool true) ∧ Both D E w w' r s xs := by
  have HB : Hid (Below w.heap.size w (w.alloc (.cells #[.int .i64 6, .bool which, .int .i64 N, .int .u64 num] 38))) := (Below.refl _ _).alloc (Nat.le_refl _) _
  have H := hd (h.below HB.out)
  clear h
  go_enter Tryd.func22, Tryd.ntmps22
  go_wp2_with fail
  refine (left_any r xs p f _ H.out.rd).mono ?_
  rintro e w1 ⟨rfl, m1, rfl⟩
  go_wp2_with fail
  refine (refLeft_any s xs p f _ (H.out.rf.drewN m1)).mono ?_
  rintro e w2 ⟨rfl, m2, rfl⟩
  go_wp2
  go_ret
  exact ⟨by simp, p, f, H.out.below (below_drewN (Below.refl _ _) _), (But2.of_below HB.out).trans (But2.of_below (below_drewN (Below.refl _ _) _))⟩

theorem told10 (p : Int) (w : World) (hg : Handle w) :
    Calls Tryd.prog 12 #[.iface 62 (.pointer (some ⟨w.heap.size, 0, none⟩)), .int .i64 10, .int .i64 p] (w.alloc (.cells #[.int .i64 p, .iface 53 (.int .i64 10)] 64)) fun e w' => e = .returned (.bool true) ∧ Below w.heap.size w w' := by
  have hb : Below w.heap.size w (w.alloc (.cells #[.int .i64 p, .iface 53 (.int .i64 10)] 64)) := (Below.refl _ _).alloc (Nat.le_refl _) _
  refine (told_some w.heap.size 0 10 p _ (hg.below hb hg.pos) (by simp) (by simp) rfl).mono ?_
  rintro e w' ⟨rfl, h⟩
  exact ⟨rfl, hb.trans (h.mono (by simp))⟩

theorem refErr_no (r : Nat) (xs : List Int) (p : Nat) (w : World) (h : RF E w r xs p false) :
    Calls Tryd.prog 40 #[.pointer (some ⟨r, 0, none⟩)] w fun e w' => e = .returned (.tuple #[.int .i64 0, .int .i64 (-1)]) ∧ ∃ m, w' = w.drewN m := by
  have := refErr_any r xs p false w h
  simpa [codeOf, badOf] using this
theorem refErr_yes (r : Nat) (xs : List Int) (p : Nat) (w : World) (h : RF E w r xs p true) :
    Calls Tryd.prog 40 #[.pointer (some ⟨r, 0, none⟩)] w fun e w' => e = .returned (.tuple #[.int .i64 10, .int .i64 p]) ∧ ∃ m, w' = w.drewN m := by
  have := refErr_any r xs p true w h
  simpa [codeOf, badOf] using this

set_option maxHeartbeats 1000000 in
theorem read7n (r s : Nat) (xs : List Int) (p : Nat) (num N : Int) (which : Bool) (w : World) (h : PR D E w r s xs p false) :
    Calls Tryd.prog 22 #[.pointer (some ⟨r, 0, none⟩), .pointer (some ⟨s, 0, none⟩), .agg #[.int .i64 7, .bool which, .int .i64 N, .int .u64 num]] w fun e w' => e = .returned (.bool true) ∧ Both D E w w' r s xs := by
  have HB : Hid (Below w.heap.size w (w.alloc (.cells #[.int .i64 7, .bool which, .int .i64 N, .int .u64 num] 38))) := (Below.refl _ _).alloc (Nat.le_refl _) _
  have H := hd (h.below HB.out)
  clear h
  go_enter Tryd.func22, Tryd.ntmps22
  go_wp2_with fail
  refine (refErr_no s xs p _ H.out.rf).mono ?_
  rintro e w1 ⟨rfl, m1, rfl⟩
  go_wp2_with fail
  refine (err_none r xs p _ (H.out.rd.drewN m1)).mono ?_
  rintro e w2 ⟨rfl, rfl⟩
  go_wp2_with fail
  refine (told_none _ _).mono ?_
  rintro e w2 ⟨rfl, rfl⟩
  go_wp2
  go_ret
  exact ⟨rfl, p, false, H.out.below (below_drewN (Below.refl _ _) _), (But2.of_below HB.out).trans (But2.of_below (below_drewN (Below.refl _ _) _))⟩

set_option maxHeartbeats 1000000 in
theorem read7y (r s : Nat) (xs : List Int) (p : Nat) (num N : Int) (which : Bool) (w : World) (h : PR D E w r s xs p true) (hg : Handle w) :
    Calls Tryd.prog 22 #[.pointer (some ⟨r, 0, none⟩), .pointer (some ⟨s, 0, none⟩), .agg #[.int .i64 7, .bool which, .int .i64 N, .int .u64 num]] w fun e w' => e = .returned (.bool true) ∧ Both D E w w' r s xs := by
  have HB : Hid (Below w.heap.size w (w.alloc (.cells #[.int .i64 7, .bool which, .int .i64 N, .int .u64 num] 38))) := (Below.refl _ _).alloc (Nat.le_refl _) _
  have H := hd (h.below HB.out)
  have HG := hd (hg.below HB.out hg.pos)
  clear h hg
  go_enter Tryd.func22, Tryd.ntmps22
  go_wp2_with fail
  refine (refErr_yes s xs p _ H.out.rf).mono ?_
  rintro e w1 ⟨rfl, m1, rfl⟩
  have H1 := hd (H.out.below (below_drewN (Below.refl _ _) m1))
  have HG1 := hd (HG.out.below (below_drewN (Below.refl _ _) m1) HG.out.pos)
  have HB1 := hd (below_drewN HB.out m1)
  clear H HG HB
  generalize (w.alloc (.cells #[.int .i64 7, .bool which, .int .i64 N, .int .u64 num] 38)).drewN m1 = w1 at *
  go_wp2_with fail
  refine (err_some r xs p _ H1.out.rd).mono ?_
  rintro e w2 ⟨rfl, rfl⟩
  go_wp2_with fail
  refine (told10 p _ HG1.out).mono ?_
  rintro e w2 ⟨rfl, hbel⟩
  have R : Hid (Both D E w w2 r s xs) := ⟨p, true, H1.out.below hbel, (But2.of_below HB1.out).trans (But2.of_below hbel)⟩
  clear hbel H1 HB1 HG1
  go_wp2
  go_ret
  exact ⟨rfl, R.out⟩

set_option maxHeartbeats 1000000 in
theorem read_any (r s : Nat) (xs : List Int) (p : Nat) (f : Bool) (kind num N : Int) (which : Bool) (w : World) (h : PR D E w r s xs p f) (hr : Rng xs) (hg : Handle w) :
    Calls Tryd.prog 22 #[.pointer (some ⟨r, 0, none⟩), .pointer (some ⟨s, 0, none⟩), .agg #[.int .i64 kind, .bool which, .int .i64 N, .int .u64 num]] w fun e w' => e = .returned (.bool true) ∧ Both D E w w' r s xs := by
  by_cases h1 : kind = 1
  · subst h1; exact read1 r s xs p f num N which w h hr
  by_cases h2 : kind = 2
  · subst h2; exact read2 r s xs p f num N which w h hr
  by_cases h3 : kind = 3
  · subst h3; exact read3 r s xs p f num N which w h hr
  by_cases h4 : kind = 4
  · subst h4; exact read4 r s xs p f num N which w h
  by_cases h5 : kind = 5
  · subst h5; exact read5 r s xs p f num N which w h
  by_cases h6 : kind = 6
  · subst h6; exact read6 r s xs p f num N which w h
  by_cases h7 : kind = 7
  · subst h7
    cases f
    · exact read7n r s xs p num N which w h
    · exact read7y r s xs p num N which w h hg
  have b1 : (kind == 1) = false := by simpa using h1
  have b2 : (kind == 2) = false := by simpa using h2
  have b3 : (kind == 3) = false := by simpa using h3
  have b4 : (kind == 4) = false := by simpa using h4
  have b5 : (kind == 5) = false := by simpa using h5
  have b6 : (kind == 6) = false := by simpa using h6
  have b7 : (kind == 7) = false := by simpa using h7
  have HB : Hid (Below w.heap.size w (w.alloc (.cells #[.int .i64 kind, .bool which, .int .i64 N, .int .u64 num] 38))) := (Below.refl _ _).alloc (Nat.le_refl _) _
  have H := hd (h.below HB.out)
  clear h1 h2 h3 h4 h5 h6 h7 h hr hg
  go_enter Tryd.func22, Tryd.ntmps22
  go_wp2
  go_ret
  exact ⟨rfl, p, f, H.out, But2.of_below HB.out⟩

/-- What stands comes to. -/
theorem stands_any (r s : Nat) (xs : List Int) (p : Nat) (f : Bool) (w : World) (h : PR D E w r s xs p f) (hg : Handle w) :
    Calls Tryd.prog 23 #[.pointer (some ⟨r, 0, none⟩), .pointer (some ⟨s, 0, none⟩)] w fun e w' => e = .returned (.bool true) ∧ Below w.heap.size w w' := by
  have H := hd h
  have HG := hd hg
  clear h hg
  cases f
  · go_enter Tryd.func23, Tryd.ntmps23
    go_wp2_with fail
    refine (refErr_no s xs p _ H.out.rf).mono ?_
    rintro e w1 ⟨rfl, m1, rfl⟩
    have H1 := hd (H.out.below (below_drewN (Below.refl _ _) m1))
    have B1 : Hid (Below w.heap.size w (w.drewN m1)) := below_drewN (Below.refl _ _) m1
    clear H
    generalize w.drewN m1 = w1 at *
    go_wp2_with fail
    refine (at_any r xs p false _ H1.out.rd).mono ?_
    rintro e w2 ⟨rfl, rfl⟩
    go_wp2_with fail
    refine (refAt_any s xs p false _ H1.out.rf).mono ?_
    rintro e w2 ⟨rfl, rfl⟩
    go_wp2_with fail
    refine (left_any r xs p false _ H1.out.rd).mono ?_
    rintro e w2 ⟨rfl, m2, rfl⟩
    have H2 := hd (H1.out.below (below_drewN (Below.refl _ _) m2))
    have B2 := hd (below_drewN B1.out m2)
    clear H1 B1
    generalize w1.drewN m2 = w2 at *
    go_wp2_with fail
    refine (refLeft_any s xs p false _ H2.out.rf).mono ?_
    rintro e w3 ⟨rfl, m3, rfl⟩
    have H3 := hd (H2.out.below (below_drewN (Below.refl _ _) m3))
    have B3 := hd (below_drewN B2.out m3)
    clear H2 B2
    generalize w2.drewN m3 = w3 at *
    go_wp2_with fail
    refine (err_none r xs p _ H3.out.rd).mono ?_
    rintro e w4 ⟨rfl, rfl⟩
    go_wp2_with fail
    refine (told_none _ _).mono ?_
    rintro e w4 ⟨rfl, rfl⟩
    go_wp2
    go_ret
    exact ⟨rfl, B3.out⟩
  · go_enter Tryd.func23, Tryd.ntmps23
    go_wp2_with fail
    refine (refErr_yes s xs p _ H.out.rf).mono ?_
    rintro e w1 ⟨rfl, m1, rfl⟩
    have H1 := hd (H.out.below (below_drewN (Below.refl _ _) m1))
    have B1 : Hid (Below w.heap.size w (w.drewN m1)) := below_drewN (Below.refl _ _) m1
    clear H
    generalize w.drewN m1 = w1 at *
    go_wp2_with fail
    refine (at_any r xs p true _ H1.out.rd).mono ?_
    rintro e w2 ⟨rfl, rfl⟩
    go_wp2_with fail
    refine (refAt_any s xs p true _ H1.out.rf).mono ?_
    rintro e w2 ⟨rfl, rfl⟩
    go_wp2_with fail
    refine (left_any r xs p true _ H1.out.rd).mono ?_
    rintro e w2 ⟨rfl, m2, rfl⟩
    have H2 := hd (H1.out.below (below_drewN (Below.refl _ _) m2))
    have B2 := hd (below_drewN B1.out m2)
    clear H1 B1
    generalize w1.drewN m2 = w2 at *
    go_wp2_with fail
    refine (refLeft_any s xs p true _ H2.out.rf).mono ?_
    rintro e w3 ⟨rfl, m3, rfl⟩
    have H3 := hd (H2.out.below (below_drewN (Below.refl _ _) m3))
    have B3 := hd (below_drewN B2.out m3)
    clear H2 B2
    generalize w2.drewN m3 = w3 at *
    go_wp2_with fail
    refine (err_some r xs p _ H3.out.rd).mono ?_
    rintro e w4 ⟨rfl, rfl⟩
    go_wp2_with fail
    refine (told10 p _ (HG.out.below B3.out HG.out.pos)).mono ?_
    rintro e w4 ⟨rfl, hbel⟩
    have B4 := hd (B3.out.trans (hbel.mono B3.out.size))
    clear hbel H3 B3
    go_wp2
    go_ret
    exact ⟨rfl, B4.out⟩

end Go.Proofs.YtkidhfednipdcabDoor
