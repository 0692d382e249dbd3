/-
  The reader of the document: numbers.
-/
import Derived.Test.YtkidhfednipdcabDoorRRefG
namespace Go.Proofs.YtkidhfednipdcabDoor
open Go.RowKit
variable {D : Nat → Prop}

theorem refTake_bad (r : Nat) (xs : List Int) (p : Nat) (f : Bool) (n : Int) (w : World) (h : RF D w r xs p f) (hb : f = true ∨ n < 0 ∨ (xs.length : Int) - p < n) :
    Calls Tryd.prog 37 #[.pointer (some ⟨r, 0, none⟩), .int .i64 n] w fun e w' => e = .returned (.slice none 0 0) ∧ FBad D w w' r xs p := by
  cases f with
  | true => exact refTake_still r xs p n w h
  | false =>
    by_cases hn : n < 0
    · exact refTake_neg r xs p n w h hn
    · exact refTake_over r xs p n w h (by omega) (by rcases hb with h1 | h1 | h1 <;> first | cases h1 | omega)

set_option maxHeartbeats 400000 in
theorem refNumber_bad (r : Nat) (xs : List Int) (p : Nat) (f : Bool) (n : Int) (w : World) (h : RF D w r xs p f) (hb : f = true ∨ n < 0 ∨ (xs.length : Int) - p < n) :
    Calls Tryd.prog 43 #[.pointer (some ⟨r, 0, none⟩), .int .i64 n] w fun e w' => e = .returned (.int .i64 0) ∧ FBad D w w' r xs p := by
  have H := hd h
  have HX := hd hb
  clear h hb
  go_enter Tryd.func43, Tryd.ntmps43
  go_wp2_with fail
  refine (refTake_bad r xs p f n _ H.out HX.out).mono ?_
  rintro e w1 ⟨rfl, hbad⟩
  have R := hd hbad
  clear hbad
  go_wp2
  refine wp_loop_rounds 1 ?_
  rw [rounds_succ]
  go_wp2
  go_ret
  exact ⟨rfl, R.out⟩

set_option maxHeartbeats 400000 in
theorem refNumber_good (r : Nat) (xs : List Int) (p k : Nat) (w : World) (h : RF D w r xs p false) (hx : p + k ≤ xs.length) (hk : k ≤ 4) (hr : Rng xs) :
    Calls Tryd.prog 43 #[.pointer (some ⟨r, 0, none⟩), .int .i64 k] w fun e w' => e = .returned (.int .i64 (be ((xs.drop p).take k))) ∧ FGood D w w' r xs p k := by
  have H := hd h
  have HRn := hd hr
  clear h hr
  go_enter Tryd.func43, Tryd.ntmps43
  go_wp2_with fail
  refine (refTake_good r xs p k _ H.out hx).mono ?_
  rintro e w1 ⟨v, rfl, hown, hg⟩
  obtain ⟨a, c, rfl, hB⟩ := hown.isB
  have HB := hd hB
  have HG := hd hg
  clear hB hg hown
  have hlen : ((xs.drop p).take k).length = k := HB.out.1
  have HRy := hd ((HRn.out.drop p).take k)
  generalize he : (xs.drop p).take k = ys at *
  have HE := hd he
  clear he
  go_wp2
  go_loopw [6, 7] (fun v i wr => ∃ j : Nat, j ≤ k ∧ i = .int .i64 j ∧ v = .int .i64 (be (ys.take j)) ∧ wr = w1) (fun _ i _ => k - (intOf i).toNat)
  case atStart => exact ⟨0, Nat.zero_le _, rfl, rfl, rfl⟩
  case round =>
    obtain ⟨j, hj, rfl, rfl, rfl⟩ := hrel
    by_cases hlt : j < k
    · obtain ⟨b, off, rfl, hb, hc⟩ := HB.out.2.2.2 (by omega)
      have e1 := hc j hlt
      have hi : (j : Int) < (k : Int) := by omega
      clear hc
      have hb1 := be_bound (ys.take j) (HRy.out.take j)
      have hb2 := hb1.2.1 (by simp; omega)
      have hb0 := hb1.1
      have hxr := HRy.out.get j
      have hx0 := hxr.1
      have hx1 := hxr.2
      have hsn : be (ys.take (j + 1)) = be (ys.take j) * 256 + ys.getD j 0 := by rw [take_snoc ys j (by omega), be_snoc]
      have HO := hd hsn
      clear hsn hb1 hxr
      generalize ys.getD j 0 = x at *
      generalize be (ys.take j) = v at *
      go_wp2
      exact ⟨⟨j + 1, by omega, by go_num, by rw [HO.out], trivial⟩, by simp [intOf]; omega⟩
    · obtain rfl : j = k := by omega
      have e : ys.take j = ys := List.take_of_length_le (by omega)
      rw [e]
      clear e
      go_wp2
      go_ret
      rw [HE.out]
      exact ⟨rfl, HG.out⟩

theorem refNumber1 (r : Nat) (xs : List Int) (p : Nat) (w : World) (h : RF D w r xs p false) (hx : p + 1 ≤ xs.length) (hr : Rng xs) :
    Calls Tryd.prog 43 #[.pointer (some ⟨r, 0, none⟩), .int .i64 1] w fun e w' => e = .returned (.int .i64 (be ((xs.drop p).take 1))) ∧ FGood D w w' r xs p 1 :=
  refNumber_good r xs p 1 w h hx (by omega) hr

set_option maxHeartbeats 400000 in
theorem refU8_good (r : Nat) (xs : List Int) (p : Nat) (w : World) (h : RF D w r xs p false) (hx : p + 1 ≤ xs.length) (hr : Rng xs) :
    Calls Tryd.prog 34 #[.pointer (some ⟨r, 0, none⟩)] w fun e w' => e = .returned (.int .i64 (be ((xs.drop p).take 1))) ∧ FGood D w w' r xs p 1 := by
  have H := hd h
  have HR := hd hr
  have hb := be_bound ((xs.drop p).take 1) ((hr.drop p).take 1)
  have hb0 := hb.1
  have hb4 := hb.2.2 (by simp; omega)
  clear h hr hb
  go_enter Tryd.func34, Tryd.ntmps34
  go_wp2_with fail
  refine (refNumber1 r xs p _ H.out hx HR.out).mono ?_
  rintro e w1 ⟨rfl, hg⟩
  have R := hd hg
  clear hg
  generalize hv : be ((xs.drop p).take 1) = v at *
  have HV := hd hv
  clear hv
  go_wp2
  go_ret
  rw [HV.out]
  exact ⟨rfl, R.out⟩

set_option maxHeartbeats 400000 in
theorem refU8_bad (r : Nat) (xs : List Int) (p : Nat) (f : Bool) (w : World) (h : RF D w r xs p f) (hb : f = true ∨ (xs.length : Int) - p < 1) :
    Calls Tryd.prog 34 #[.pointer (some ⟨r, 0, none⟩)] w fun e w' => e = .returned (.int .i64 0) ∧ FBad D w w' r xs p := by
  have H := hd h
  have HX := hd hb
  clear h hb
  go_enter Tryd.func34, Tryd.ntmps34
  go_wp2_with fail
  refine (refNumber_bad r xs p f 1 _ H.out (by rcases HX.out with h | h; exact .inl h; exact .inr (.inr h))).mono ?_
  rintro e w1 ⟨rfl, hbad⟩
  have R := hd hbad
  clear hbad
  go_wp2
  go_ret
  exact ⟨rfl, R.out⟩

theorem refNumber2 (r : Nat) (xs : List Int) (p : Nat) (w : World) (h : RF D w r xs p false) (hx : p + 2 ≤ xs.length) (hr : Rng xs) :
    Calls Tryd.prog 43 #[.pointer (some ⟨r, 0, none⟩), .int .i64 2] w fun e w' => e = .returned (.int .i64 (be ((xs.drop p).take 2))) ∧ FGood D w w' r xs p 2 :=
  refNumber_good r xs p 2 w h hx (by omega) hr

set_option maxHeartbeats 400000 in
theorem refU16_good (r : Nat) (xs : List Int) (p : Nat) (w : World) (h : RF D w r xs p false) (hx : p + 2 ≤ xs.length) (hr : Rng xs) :
    Calls Tryd.prog 35 #[.pointer (some ⟨r, 0, none⟩)] w fun e w' => e = .returned (.int .i64 (be ((xs.drop p).take 2))) ∧ FGood D w w' r xs p 2 := by
  have H := hd h
  have HR := hd hr
  have hb := be_bound ((xs.drop p).take 2) ((hr.drop p).take 2)
  have hb0 := hb.1
  have hb4 := hb.2.2 (by simp; omega)
  clear h hr hb
  go_enter Tryd.func35, Tryd.ntmps35
  go_wp2_with fail
  refine (refNumber2 r xs p _ H.out hx HR.out).mono ?_
  rintro e w1 ⟨rfl, hg⟩
  have R := hd hg
  clear hg
  generalize hv : be ((xs.drop p).take 2) = v at *
  have HV := hd hv
  clear hv
  go_wp2
  go_ret
  rw [HV.out]
  exact ⟨rfl, R.out⟩

set_option maxHeartbeats 400000 in
theorem refU16_bad (r : Nat) (xs : List Int) (p : Nat) (f : Bool) (w : World) (h : RF D w r xs p f) (hb : f = true ∨ (xs.length : Int) - p < 2) :
    Calls Tryd.prog 35 #[.pointer (some ⟨r, 0, none⟩)] w fun e w' => e = .returned (.int .i64 0) ∧ FBad D w w' r xs p := by
  have H := hd h
  have HX := hd hb
  clear h hb
  go_enter Tryd.func35, Tryd.ntmps35
  go_wp2_with fail
  refine (refNumber_bad r xs p f 2 _ H.out (by rcases HX.out with h | h; exact .inl h; exact .inr (.inr h))).mono ?_
  rintro e w1 ⟨rfl, hbad⟩
  have R := hd hbad
  clear hbad
  go_wp2
  go_ret
  exact ⟨rfl, R.out⟩

theorem refNumber4 (r : Nat) (xs : List Int) (p : Nat) (w : World) (h : RF D w r xs p false) (hx : p + 4 ≤ xs.length) (hr : Rng xs) :
    Calls Tryd.prog 43 #[.pointer (some ⟨r, 0, none⟩), .int .i64 4] w fun e w' => e = .returned (.int .i64 (be ((xs.drop p).take 4))) ∧ FGood D w w' r xs p 4 :=
  refNumber_good r xs p 4 w h hx (by omega) hr

set_option maxHeartbeats 400000 in
theorem refU32_good (r : Nat) (xs : List Int) (p : Nat) (w : World) (h : RF D w r xs p false) (hx : p + 4 ≤ xs.length) (hr : Rng xs) :
    Calls Tryd.prog 36 #[.pointer (some ⟨r, 0, none⟩)] w fun e w' => e = .returned (.int .u32 (be ((xs.drop p).take 4))) ∧ FGood D w w' r xs p 4 := by
  have H := hd h
  have HR := hd hr
  have hb := be_bound ((xs.drop p).take 4) ((hr.drop p).take 4)
  have hb0 := hb.1
  have hb4 := hb.2.2 (by simp; omega)
  clear h hr hb
  go_enter Tryd.func36, Tryd.ntmps36
  go_wp2_with fail
  refine (refNumber4 r xs p _ H.out hx HR.out).mono ?_
  rintro e w1 ⟨rfl, hg⟩
  have R := hd hg
  clear hg
  generalize hv : be ((xs.drop p).take 4) = v at *
  have HV := hd hv
  clear hv
  go_wp2
  go_ret
  rw [HV.out]
  exact ⟨rfl, R.out⟩

set_option maxHeartbeats 400000 in
theorem refU32_bad (r : Nat) (xs : List Int) (p : Nat) (f : Bool) (w : World) (h : RF D w r xs p f) (hb : f = true ∨ (xs.length : Int) - p < 4) :
    Calls Tryd.prog 36 #[.pointer (some ⟨r, 0, none⟩)] w fun e w' => e = .returned (.int .u32 0) ∧ FBad D w w' r xs p := by
  have H := hd h
  have HX := hd hb
  clear h hb
  go_enter Tryd.func36, Tryd.ntmps36
  go_wp2_with fail
  refine (refNumber_bad r xs p f 4 _ H.out (by rcases HX.out with h | h; exact .inl h; exact .inr (.inr h))).mono ?_
  rintro e w1 ⟨rfl, hbad⟩
  have R := hd hbad
  clear hbad
  go_wp2
  go_ret
  exact ⟨rfl, R.out⟩

end Go.Proofs.YtkidhfednipdcabDoor
