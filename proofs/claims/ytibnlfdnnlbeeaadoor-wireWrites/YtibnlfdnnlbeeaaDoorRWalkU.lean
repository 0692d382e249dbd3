/-
  number at a reader that can, U8, U16, U32.
-/
import Derived.Test.YtibnlfdnnlbeeaaDoorRWalkN
namespace Go.Proofs.YtibnlfdnnlbeeaaDoor
open Go.RowKit
variable {D : Nat → Prop}

/-- The number in bytes, the highest first. -/
def be (xs : List Int) : Int := xs.foldl (fun v c => v * 256 + c) 0
def Rng (xs : List Int) : Prop := ∀ x ∈ xs, 0 ≤ x ∧ x ≤ 255

theorem be_snoc (l : List Int) (x : Int) : be (l ++ [x]) = be l * 256 + x := by simp [be]
theorem be_nil : be [] = 0 := rfl
theorem take_snoc (l : List Int) (j : Nat) (h : j < l.length) : l.take (j + 1) = l.take j ++ [l.getD j 0] := by
  rw [List.take_succ_eq_append_getElem h]
  simp [List.getD, List.getElem?_eq_getElem h]
theorem Rng.take {l : List Int} (h : Rng l) (j : Nat) : Rng (l.take j) := fun x hx => h x (List.mem_of_mem_take hx)
theorem Rng.drop {l : List Int} (h : Rng l) (j : Nat) : Rng (l.drop j) := fun x hx => h x (List.mem_of_mem_drop hx)
theorem Rng.get {l : List Int} (h : Rng l) (j : Nat) : 0 ≤ l.getD j 0 ∧ l.getD j 0 ≤ 255 := by
  by_cases hj : j < l.length
  · have := h l[j] (List.getElem_mem hj)
    simpa [List.getD, List.getElem?_eq_getElem hj] using this
  · simp [List.getD, List.getElem?_eq_none (Nat.le_of_not_lt hj)]
theorem be_bound (l : List Int) (h : Rng l) : 0 ≤ be l ∧ (l.length ≤ 3 → be l < 16777216) ∧ (l.length ≤ 4 → be l < 4294967296) := by
  have key : ∀ (n : Nat) (l : List Int), l.length = n → Rng l → 0 ≤ be l ∧ be l < 256 ^ n := by
    intro n
    induction n with
    | zero =>
      intro l hl _
      obtain rfl := List.eq_nil_of_length_eq_zero hl
      simp [be]
    | succ n ih =>
      intro l hl hr
      have e : l = l.take n ++ [l.getD n 0] := by
        rw [← take_snoc l n (by omega), List.take_of_length_le (by omega)]
      have b := ih (l.take n) (by simp; omega) (hr.take n)
      have g := hr.get n
      rw [e, be_snoc, Int.pow_succ]
      omega
  obtain ⟨b0, b1⟩ := key l.length l rfl h
  have p0 : (256 : Int) ^ 0 = 1 := rfl
  have p1 : (256 : Int) ^ 1 = 256 := rfl
  have p2 : (256 : Int) ^ 2 = 65536 := rfl
  have p3 : (256 : Int) ^ 3 = 16777216 := rfl
  have p4 : (256 : Int) ^ 4 = 4294967296 := rfl
  refine ⟨b0, fun hj => ?_, fun hj => ?_⟩
  · rcases (show l.length = 0 ∨ l.length = 1 ∨ l.length = 2 ∨ l.length = 3 from by omega) with e | e | e | e <;> rw [e] at b1 <;> omega
  · rcases (show l.length = 0 ∨ l.length = 1 ∨ l.length = 2 ∨ l.length = 3 ∨ l.length = 4 from by omega) with e | e | e | e | e <;> rw [e] at b1 <;> omega
theorem or_step (v x : Int) (hv : 0 ≤ v ∧ v < 16777216) (hx : 0 ≤ x ∧ x ≤ 255) : bits .or .u32 (v * 256 % 4294967296) (x % 4294967296) = v * 256 + x := by
  obtain ⟨a, rfl⟩ := Int.eq_ofNat_of_zero_le hv.1
  obtain ⟨b, rfl⟩ := Int.eq_ofNat_of_zero_le hx.1
  have e1 : (a : Int) * 256 % 4294967296 = ((a * 256 : Nat) : Int) := by omega
  have e2 : (b : Int) % 4294967296 = (b : Int) := by omega
  rw [e1, e2, u32_or_nat _ _ (by omega) (by omega)]
  have e3 : a * 256 ||| b = a * 256 + b := by
    have := Nat.two_pow_add_eq_or_of_lt (i := 8) (b := b) (by omega) a
    rw [Nat.mul_comm a 256]
    exact this.symm
  rw [e3]
  omega

set_option maxHeartbeats 400000 in
theorem number_good (r : Nat) (xs : List Int) (p k : Nat) (w : World) (h : RD D w r xs p false) (hx : p + k ≤ xs.length) (hk : k ≤ 4) (hr : Rng xs) :
    Calls Tryd.prog 57 #[.pointer (some ⟨r, 0, none⟩), .int .i64 k] w fun e w' => e = .returned (.int .u32 (be ((xs.drop p).take k))) ∧ Good D w w' r xs p k := by
  have H := hd h
  have HRn := hd hr
  clear h hr
  go_enter Tryd.func57, Tryd.ntmps57
  go_wp2_with fail
  refine (next_good r xs p k _ H.out hx).mono ?_
  rintro e w1 ⟨a, c, rfl, hB, hg⟩
  have HB := hd hB
  have HG := hd hg
  clear hB hg
  have hlen : ((xs.drop p).take k).length = k := HB.out.1
  have HRy := hd ((HRn.out.drop p).take k)
  generalize he : (xs.drop p).take k = ys at *
  have HE := hd he
  clear he
  go_wp2
  go_loopw [5, 7, 12] (fun v _ i wr => ∃ j : Nat, j ≤ k ∧ i = .int .i64 j ∧ v = .int .u32 (be (ys.take j)) ∧ wr = w1) (fun _ _ i _ => k - (intOf i).toNat)
  case atStart => exact ⟨0, Nat.zero_le _, rfl, rfl, rfl⟩
  case round =>
    obtain ⟨j, hj, rfl, rfl, rfl⟩ := hrel
    by_cases hlt : j < k
    · obtain ⟨b, off, rfl, hb, hc⟩ := HB.out.2.2.2 (by omega)
      have e1 := hc j hlt
      have hi : (j : Int) < (k : Int) := by omega
      clear hc
      have hb1 := be_bound (ys.take j) (HRy.out.take j)
      have hb2 := hb1.2.1 (by simp; omega)
      have hxr := HRy.out.get j
      have hsn : be (ys.take (j + 1)) = be (ys.take j) * 256 + ys.getD j 0 := by rw [take_snoc ys j (by omega), be_snoc]
      have hor := or_step (be (ys.take j)) (ys.getD j 0) ⟨hb1.1, by omega⟩ hxr
      rw [← hsn] at hor
      have HO := hd hor
      clear hor hsn hb1 hb2 hxr
      generalize ys.getD j 0 = x at e1 HO
      generalize be (ys.take j) = v at HO ⊢
      go_wp2
      exact ⟨⟨j + 1, by omega, by go_num, by rw [HO.out], trivial⟩, by simp [intOf]; omega⟩
    · obtain rfl : j = k := by omega
      have e : ys.take j = ys := List.take_of_length_le (by omega)
      rw [e]
      clear e
      go_wp2
      go_ret
      rw [HE.out]
      exact ⟨rfl, HG.out⟩

theorem number1 (r : Nat) (xs : List Int) (p : Nat) (w : World) (h : RD D w r xs p false) (hx : p + 1 ≤ xs.length) (hr : Rng xs) :
    Calls Tryd.prog 57 #[.pointer (some ⟨r, 0, none⟩), .int .i64 1] w fun e w' => e = .returned (.int .u32 (be ((xs.drop p).take 1))) ∧ Good D w w' r xs p 1 :=
  number_good r xs p 1 w h hx (by omega) hr

set_option maxHeartbeats 400000 in
theorem u8_good (r : Nat) (xs : List Int) (p : Nat) (w : World) (h : RD D w r xs p false) (hx : p + 1 ≤ xs.length) (hr : Rng xs) :
    Calls Tryd.prog 41 #[.pointer (some ⟨r, 0, none⟩)] w fun e w' => e = .returned (.int .i64 (be ((xs.drop p).take 1))) ∧ Good D w w' r xs p 1 := by
  have H := hd h
  have HR := hd hr
  have hb := be_bound ((xs.drop p).take 1) ((hr.drop p).take 1)
  have hb0 := hb.1
  have hb4 := hb.2.2 (by simp; omega)
  clear h hr hb
  go_enter Tryd.func41, Tryd.ntmps41
  go_wp2_with fail
  refine (number1 r xs p _ H.out hx HR.out).mono ?_
  rintro e w1 ⟨rfl, hg⟩
  have R := hd hg
  clear hg
  generalize hv : be ((xs.drop p).take 1) = v at *
  have HV := hd hv
  clear hv
  go_wp2
  go_ret
  rw [HV.out]
  exact ⟨rfl, R.out⟩

theorem number2 (r : Nat) (xs : List Int) (p : Nat) (w : World) (h : RD D w r xs p false) (hx : p + 2 ≤ xs.length) (hr : Rng xs) :
    Calls Tryd.prog 57 #[.pointer (some ⟨r, 0, none⟩), .int .i64 2] w fun e w' => e = .returned (.int .u32 (be ((xs.drop p).take 2))) ∧ Good D w w' r xs p 2 :=
  number_good r xs p 2 w h hx (by omega) hr

set_option maxHeartbeats 400000 in
theorem u16_good (r : Nat) (xs : List Int) (p : Nat) (w : World) (h : RD D w r xs p false) (hx : p + 2 ≤ xs.length) (hr : Rng xs) :
    Calls Tryd.prog 59 #[.pointer (some ⟨r, 0, none⟩)] w fun e w' => e = .returned (.int .i64 (be ((xs.drop p).take 2))) ∧ Good D w w' r xs p 2 := by
  have H := hd h
  have HR := hd hr
  have hb := be_bound ((xs.drop p).take 2) ((hr.drop p).take 2)
  have hb0 := hb.1
  have hb4 := hb.2.2 (by simp; omega)
  clear h hr hb
  go_enter Tryd.func59, Tryd.ntmps59
  go_wp2_with fail
  refine (number2 r xs p _ H.out hx HR.out).mono ?_
  rintro e w1 ⟨rfl, hg⟩
  have R := hd hg
  clear hg
  generalize hv : be ((xs.drop p).take 2) = v at *
  have HV := hd hv
  clear hv
  go_wp2
  go_ret
  rw [HV.out]
  exact ⟨rfl, R.out⟩

end Go.Proofs.YtibnlfdnnlbeeaaDoor
