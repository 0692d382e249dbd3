/-
  The law filled.
-/
import Derived.Test.YtmbnimlibnheeaaDoorSe
namespace Go.Proofs.YtmbnimlibnheeaaDoor
open Go.RowKit
set_option linter.unusedVariables false

/-- Operations with the marks st, 2 st, .. -/
def qOf (st : Int) : Nat → List OpE → List (Int × OpE)
  | _, [] => []
  | n, o :: l => (((n : Int) + 1) * st, o) :: qOf st (n + 1) l
theorem qOf_snoc (st : Int) (l : List OpE) : ∀ n o, qOf st n (l ++ [o]) = qOf st n l ++ [(((n + l.length : Nat) : Int) * st + st, o)] := by
  induction l with
  | nil => intro n o; simp [qOf, Int.add_mul]
  | cons x l ih =>
    intro n o
    simp only [List.cons_append, qOf, ih, List.length_cons]
    rw [show n + 1 + l.length = n + (l.length + 1) by omega]
theorem qOf_len (st : Int) (l : List OpE) : ∀ n, (qOf st n l).length = l.length := by
  induction l with
  | nil => intro n; rfl
  | cons x l ih => intro n; simp [qOf, ih]
theorem qOf_os (st : Int) (l : List OpE) : ∀ n, (qOf st n l).map (·.2) = l := by
  induction l with
  | nil => intro n; rfl
  | cons x l ih => intro n; simp [qOf, ih]
theorem qOf_get (st : Int) (l : List OpE) : ∀ n i (h : i < (qOf st n l).length), ((qOf st n l)[i]).1 = ((n : Int) + i + 1) * st := by
  induction l with
  | nil => intro n i h; simp [qOf] at h
  | cons x l ih =>
    intro n i h
    cases i with
    | zero => simp [qOf]
    | succ i =>
      simp only [qOf, List.getElem_cons_succ]
      rw [ih (n + 1) i (by simpa [qOf] using h)]
      congr 1
      omega

/-- The valid ones of the first j. -/
def vsP (xs : List OpE) (j : Nat) : List OpE := (xs.take j).filter (fun o => decide (validP o = 0))
theorem vsP_zero (xs : List OpE) : vsP xs 0 = [] := by simp [vsP]
theorem vsP_good (xs : List OpE) (j : Nat) (h : j < xs.length) (hv : validP xs[j] = 0) : vsP xs (j + 1) = vsP xs j ++ [xs[j]] := by
  unfold vsP
  rw [List.take_succ_eq_append_getElem h, List.filter_append]
  simp [hv]
theorem vsP_bad (xs : List OpE) (j : Nat) (h : j < xs.length) (hv : validP xs[j] ≠ 0) : vsP xs (j + 1) = vsP xs j := by
  unfold vsP
  rw [List.take_succ_eq_append_getElem h, List.filter_append]
  simp [hv]
theorem vsP_len (xs : List OpE) (j : Nat) : (vsP xs j).length ≤ j := by
  unfold vsP
  have := List.length_filter_le (fun o => decide (validP o = 0)) (xs.take j)
  have := List.length_take_le j xs
  omega
theorem vsP_valid (xs : List OpE) (j : Nat) : ∀ o ∈ vsP xs j, validP o = 0 := by
  intro o ho
  simpa using (List.mem_filter.1 ho).2
def fillP (f : Bool) (st : Int) (L : List OpE) : Sp := ⟨f, qOf st 0 L, (L.length : Int) * st⟩

theorem setO_twice (F : Nat → Thg) (i : Nat) (G H : Thg) : setO (setO F i G) i H = setO F i H := by
  funext j
  unfold setO
  split <;> rfl
theorem keep_fill (f : Bool) (st : Int) (L : List OpE) (o : OpE) (h1 : 1 ≤ st) (h2 : st ≤ 60) (hL : L.length ≤ 60) :
    keepE (fillP f st L) (((L.length : Int) + 1) * st) o = validP o ∧ (validP o = 0 → keepS (fillP f st L) (((L.length : Int) + 1) * st) o = fillP f st (L ++ [o])) ∧ (validP o ≠ 0 → keepS (fillP f st L) (((L.length : Int) + 1) * st) o = fillP f st L) := by
  have e1 : ((L.length : Int) + 1) * st = (L.length : Int) * st + st := by rw [Int.add_mul]; simp
  have b1 : (L.length : Int) * st ≤ 60 * 60 := by
    have := Int.mul_le_mul (show (L.length : Int) ≤ 60 by omega) h2 (by omega) (by omega)
    exact this
  have hE : keepE (fillP f st L) (((L.length : Int) + 1) * st) o = validP o := by
    unfold keepE fillP
    simp only
    split
    · rfl
    · rw [if_neg (by rw [e1]; omega)]
      omega
  refine ⟨hE, fun hv => ?_, fun hv => ?_⟩
  · unfold keepS
    rw [if_pos (by rw [hE]; exact hv)]
    unfold fillP
    rw [qOf_snoc, e1]
    simp [Int.add_mul]
  · unfold keepS
    rw [if_neg (by rw [hE]; exact hv)]

set_option maxRecDepth 100000 in
set_option maxHeartbeats 4000000 in
theorem filled_1 {w0 w : World} {K : Nat → Prop} {F : Nat → Thg} (i : Nat) (f : Bool) (a : Option Addr) (N c : Nat) (xs : List OpE) (h : MO w0 w K F) (hE : IsO w0 a N c xs) (hO : OkO xs) :
    Calls Tryd.prog 16 #[.bool f, .slice a N c, .int .i64 1] w fun e w' => ∃ (x n : Nat) (L : List OpE), e = .returned (.tuple #[.pointer (some ⟨x, 0, none⟩), .int .i64 n, .bool true]) ∧ n = L.length ∧ n ≤ 60 ∧ L = vsP xs 60 ∧ MO w0 w' K (setO F i (spO x (fillP f 1 L))) ∧ KP K w w' := by
  have HM := hd h
  have HE := hd hE
  have HO := hd hO
  have hN : xs.length = N := hE.1
  have HN := hd hN
  have hc1 : N ≤ c := hE.2.1
  have hc2 : c ≤ 9223372036854775807 := hE.2.2.1
  clear h hE hO hN
  go_enter Tryd.func16, Tryd.ntmps16
  go_wp2_with fail
  refine (mo_new HM.out i f).mono ?_
  rintro e w1 ⟨x, rfl, h1, b1⟩
  have S0 : Hid (MO w0 w1 K (setO F i (spO x (fillP f 1 (vsP xs 0)))) ∧ KP K w w1) := by
    refine ⟨?_, HM.out.kp b1⟩
    rw [vsP_zero]
    exact h1
  clear h1 b1
  go_wp2
  go_loopw [10, 11] (fun v u wr => ∃ j n : Nat, j ≤ N ∧ j ≤ 60 ∧ n ≤ j ∧ u = .int .i64 j ∧ v = .int .i64 n ∧ Hid (n = (vsP xs j).length) ∧ Hid (MO w0 wr K (setO F i (spO x (fillP f 1 (vsP xs j)))) ∧ KP K w wr)) (fun _ u _ => N - (intOf u).toNat)
  case atStart => exact ⟨0, 0, Nat.zero_le _, by omega, Nat.le_refl _, rfl, rfl, by rw [vsP_zero]; rfl, S0⟩
  case round =>
    obtain ⟨j, n, hj, hj6, hnj, rfl, rfl, hn, hr⟩ := hrel
    clear S0
    by_cases hlt : j < N ∧ j < 60
    · obtain ⟨hlt, hlt6⟩ := hlt
      have jx : j < xs.length := by have := HN.out; omega
      obtain ⟨b, off, rfl, -⟩ := HE.out.addr (by omega)
      have hB := hr.out.1.base
      obtain ⟨p0, p1, p2, p3, p4⟩ := (HE.out.fr (S := fun _ => False) ⟨hB.os, hB.tape, hB.output, hB.size, fun k hk _ => hB.block k hk⟩ (fun _ _ _ _ h => h)).at j hlt jx
      have hok := HO.out xs[j] (List.getElem_mem jx)
      obtain ⟨k1, k2, k3⟩ := keep_fill f 1 (vsP xs j) xs[j] (by omega) (by omega) (by rw [← hn.out]; omega)
      have hmul : (((vsP xs j).length : Int) + 1) * 1 = (n : Int) + 1 := by rw [← hn.out]; omega
      rw [hmul] at k1 k2 k3
      have g1 := vsP_good xs j jx
      have g2 := vsP_bad xs j jx
      have HK := hd (And.intro k1 (And.intro k2 (And.intro k3 (And.intro g1 (And.intro g2 hok)))))
      have C2 : Hid (∀ U, Below wr.heap.size wr U → Calls Tryd.prog 9 #[.pointer (some ⟨x, 0, none⟩), .int .i64 ((n : Int) + 1), xs[j].val] U fun e w' => e = .returned (.int .i64 (validP xs[j])) ∧ MO w0 w' K (setO F i (spO x (fillP f 1 (vsP xs (j + 1))))) ∧ KP K w w') := by
        intro U hU
        have hM := hr.out.1.below hU
        refine (mo_keep hM i (setO_same _ _ _) _ xs[j] hok).mono ?_
        rintro e w' ⟨rfl, h1, h2⟩
        rw [k1]
        refine ⟨rfl, ?_, hr.out.2.trans ((hr.out.1.kp hU).trans h2)⟩
        rw [setO_twice] at h1
        by_cases hv : validP xs[j] = 0
        · rw [k2 hv] at h1
          rw [g1 hv]
          exact h1
        · rw [k3 hv] at h1
          rw [g2 hv]
          exact h1
      have HL : Hid ((validP xs[j] = 0 → n + 1 = (vsP xs (j + 1)).length) ∧ (validP xs[j] ≠ 0 → n = (vsP xs (j + 1)).length)) := by
        refine ⟨fun hv => ?_, fun hv => ?_⟩
        · rw [g1 hv, List.length_append, ← hn.out]
          rfl
        · rw [g2 hv]
          exact hn.out
      clear k1 k2 k3 g1 g2 hmul hB
      have HKc := hd hok
      clear hok HK
      generalize xs[j] = z at *
      obtain ⟨zk, zp, zc, zl, zs⟩ := z
      simp only [OpE.val] at C2
      simp only at p0 p1 p2 p3 p4
      obtain ⟨V, hV⟩ : ∃ V, validP ⟨zk, zp, zc, zl, zs⟩ = V := ⟨_, rfl⟩
      rw [hV] at C2 HL
      have HV := hd hV
      clear hV jx
      have i1 : (j : Int) < (N : Int) := by omega
      have i2 : (j : Int) < 60 := by omega
      have bl : b < wr.heap.size := cell_in p0
      go_wp2_with fail
      refine (valid_any zk zp zc zl zs wr HKc.out.1 HKc.out.2).mono ?_
      rintro e w2 ⟨rfl, b2⟩
      rw [HV.out]
      have cb : ∀ o, w2.cell? ⟨b, o, none⟩ = wr.cell? ⟨b, o, none⟩ := fun o => b2.cell (p := ⟨b, o, none⟩) bl
      rw [← cb] at p0 p1 p2 p3 p4
      have B2 := hd b2
      clear b2 cb
      go_wp2_with fail
      refine (C2.out w2 B2.out).mono ?_
      rintro e w3 ⟨rfl, h3, h4⟩
      have Z := hd (And.intro h3 h4)
      clear h3 h4 p0 p1 p2 p3 p4 bl hr hn C2
      by_cases hv : V = 0
      · subst hv
        go_wp2
        exact ⟨⟨j + 1, n + 1, by omega, by omega, by omega, by go_num, by go_num, HL.out.1 (by first | rfl | trivial), Z⟩, by simp [intOf]; omega⟩
      · have hv' : (V == 0) = false := by simpa using hv
        go_wp2
        exact ⟨⟨j + 1, n, by omega, by omega, by omega, by go_num, by go_num, HL.out.2 hv, Z⟩, by simp [intOf]; omega⟩
    · have hend : vsP xs j = vsP xs 60 := by
        by_cases h6 : j = 60
        · rw [h6]
        · have hjN : j = N := by omega
          have := HN.out
          unfold vsP
          rw [List.take_of_length_le (by omega), List.take_of_length_le (by omega)]
      rw [hend] at hr hn
      have HR := hd hr.out
      have C1 : Hid (Calls Tryd.prog 10 #[.pointer (some ⟨x, 0, none⟩)] wr fun e w' => ∃ g c, e = .returned (.slice (some ⟨g, 0, none⟩) n c) ∧ c ≤ 9223372036854775807 ∧ n ≤ c ∧ MO w0 w' K (setO F i (spO x (fillP f 1 (vsP xs 60)))) ∧ KP K w w') := by
        refine (mo_queue HR.out.1 i (setO_same _ _ _)).mono ?_
        rintro e w' ⟨u, rfl, h1, h2, h3, -⟩
        obtain ⟨g, c, rfl, -, -, h4, h5⟩ := h1.form
        have hl : (fillP f 1 (vsP xs 60)).q.length = n := by simp only [fillP]; rw [qOf_len, hn.out]
        rw [hl] at h5 ⊢
        exact ⟨g, c, rfl, h4, h5, h2.less (fun k hk => .inl hk), HR.out.2.trans h3⟩
      have hend2 : ¬ ((j : Int) < (N : Int) ∧ (j : Int) < 60) := by omega
      clear hr HE HO hend
      rcases (by omega : (¬ (j : Int) < (N : Int)) ∨ ((j : Int) < (N : Int) ∧ ¬ (j : Int) < 60)) with i1 | ⟨i1, i2⟩ <;>
      · clear hend2 hlt
        go_wp2_with fail
        refine C1.out.mono ?_
        rintro e w2 ⟨g, cq, rfl, q1, q2, h2, h3⟩
        have H2 := hd h2
        have H3 := hd h3
        clear h2 h3
        go_wp2_with fail
        refine (mo_last H2.out i (setO_same _ _ _)).mono ?_
        rintro e w3 ⟨rfl, hw3⟩
        subst hw3
        rw [show (fillP f 1 (vsP xs 60)).last = (n : Int) from by simp only [fillP]; rw [← hn.out]; omega]
        go_wp2
        refine bodyPost_ret (v := .tuple #[.pointer (some ⟨x, 0, none⟩), .int .i64 n, .bool true]) (by simp [results, Tryd.results16, go_sem]) rfl ?_
        exact ⟨x, n, _, rfl, hn.out, by omega, rfl, H2.out, H3.out⟩

set_option maxRecDepth 100000 in
set_option maxHeartbeats 4000000 in
theorem filled_3 {w0 w : World} {K : Nat → Prop} {F : Nat → Thg} (i : Nat) (f : Bool) (a : Option Addr) (N c : Nat) (xs : List OpE) (h : MO w0 w K F) (hE : IsO w0 a N c xs) (hO : OkO xs) :
    Calls Tryd.prog 16 #[.bool f, .slice a N c, .int .i64 3] w fun e w' => ∃ (x n : Nat) (L : List OpE), e = .returned (.tuple #[.pointer (some ⟨x, 0, none⟩), .int .i64 n, .bool true]) ∧ n = L.length ∧ n ≤ 60 ∧ L = vsP xs 60 ∧ MO w0 w' K (setO F i (spO x (fillP f 3 L))) ∧ KP K w w' := by
  have HM := hd h
  have HE := hd hE
  have HO := hd hO
  have hN : xs.length = N := hE.1
  have HN := hd hN
  have hc1 : N ≤ c := hE.2.1
  have hc2 : c ≤ 9223372036854775807 := hE.2.2.1
  clear h hE hO hN
  go_enter Tryd.func16, Tryd.ntmps16
  go_wp2_with fail
  refine (mo_new HM.out i f).mono ?_
  rintro e w1 ⟨x, rfl, h1, b1⟩
  have S0 : Hid (MO w0 w1 K (setO F i (spO x (fillP f 3 (vsP xs 0)))) ∧ KP K w w1) := by
    refine ⟨?_, HM.out.kp b1⟩
    rw [vsP_zero]
    exact h1
  clear h1 b1
  go_wp2
  go_loopw [10, 11] (fun v u wr => ∃ j n : Nat, j ≤ N ∧ j ≤ 60 ∧ n ≤ j ∧ u = .int .i64 j ∧ v = .int .i64 n ∧ Hid (n = (vsP xs j).length) ∧ Hid (MO w0 wr K (setO F i (spO x (fillP f 3 (vsP xs j)))) ∧ KP K w wr)) (fun _ u _ => N - (intOf u).toNat)
  case atStart => exact ⟨0, 0, Nat.zero_le _, by omega, Nat.le_refl _, rfl, rfl, by rw [vsP_zero]; rfl, S0⟩
  case round =>
    obtain ⟨j, n, hj, hj6, hnj, rfl, rfl, hn, hr⟩ := hrel
    clear S0
    by_cases hlt : j < N ∧ j < 60
    · obtain ⟨hlt, hlt6⟩ := hlt
      have jx : j < xs.length := by have := HN.out; omega
      obtain ⟨b, off, rfl, -⟩ := HE.out.addr (by omega)
      have hB := hr.out.1.base
      obtain ⟨p0, p1, p2, p3, p4⟩ := (HE.out.fr (S := fun _ => False) ⟨hB.os, hB.tape, hB.output, hB.size, fun k hk _ => hB.block k hk⟩ (fun _ _ _ _ h => h)).at j hlt jx
      have hok := HO.out xs[j] (List.getElem_mem jx)
      obtain ⟨k1, k2, k3⟩ := keep_fill f 3 (vsP xs j) xs[j] (by omega) (by omega) (by rw [← hn.out]; omega)
      have hmul : (((vsP xs j).length : Int) + 1) * 3 = ((n : Int) + 1) * 3 := by rw [← hn.out]
      rw [hmul] at k1 k2 k3
      have g1 := vsP_good xs j jx
      have g2 := vsP_bad xs j jx
      have HK := hd (And.intro k1 (And.intro k2 (And.intro k3 (And.intro g1 (And.intro g2 hok)))))
      have C2 : Hid (∀ U, Below wr.heap.size wr U → Calls Tryd.prog 9 #[.pointer (some ⟨x, 0, none⟩), .int .i64 (((n : Int) + 1) * 3), xs[j].val] U fun e w' => e = .returned (.int .i64 (validP xs[j])) ∧ MO w0 w' K (setO F i (spO x (fillP f 3 (vsP xs (j + 1))))) ∧ KP K w w') := by
        intro U hU
        have hM := hr.out.1.below hU
        refine (mo_keep hM i (setO_same _ _ _) _ xs[j] hok).mono ?_
        rintro e w' ⟨rfl, h1, h2⟩
        rw [k1]
        refine ⟨rfl, ?_, hr.out.2.trans ((hr.out.1.kp hU).trans h2)⟩
        rw [setO_twice] at h1
        by_cases hv : validP xs[j] = 0
        · rw [k2 hv] at h1
          rw [g1 hv]
          exact h1
        · rw [k3 hv] at h1
          rw [g2 hv]
          exact h1
      have HL : Hid ((validP xs[j] = 0 → n + 1 = (vsP xs (j + 1)).length) ∧ (validP xs[j] ≠ 0 → n = (vsP xs (j + 1)).length)) := by
        refine ⟨fun hv => ?_, fun hv => ?_⟩
        · rw [g1 hv, List.length_append, ← hn.out]
          rfl
        · rw [g2 hv]
          exact hn.out
      clear k1 k2 k3 g1 g2 hmul hB
      have HKc := hd hok
      clear hok HK
      generalize xs[j] = z at *
      obtain ⟨zk, zp, zc, zl, zs⟩ := z
      simp only [OpE.val] at C2
      simp only at p0 p1 p2 p3 p4
      obtain ⟨V, hV⟩ : ∃ V, validP ⟨zk, zp, zc, zl, zs⟩ = V := ⟨_, rfl⟩
      rw [hV] at C2 HL
      have HV := hd hV
      clear hV jx
      have i1 : (j : Int) < (N : Int) := by omega
      have i2 : (j : Int) < 60 := by omega
      have bl : b < wr.heap.size := cell_in p0
      go_wp2_with fail
      refine (valid_any zk zp zc zl zs wr HKc.out.1 HKc.out.2).mono ?_
      rintro e w2 ⟨rfl, b2⟩
      rw [HV.out]
      have cb : ∀ o, w2.cell? ⟨b, o, none⟩ = wr.cell? ⟨b, o, none⟩ := fun o => b2.cell (p := ⟨b, o, none⟩) bl
      rw [← cb] at p0 p1 p2 p3 p4
      have B2 := hd b2
      clear b2 cb
      go_wp2_with fail
      refine (C2.out w2 B2.out).mono ?_
      rintro e w3 ⟨rfl, h3, h4⟩
      have Z := hd (And.intro h3 h4)
      clear h3 h4 p0 p1 p2 p3 p4 bl hr hn C2
      by_cases hv : V = 0
      · subst hv
        go_wp2
        exact ⟨⟨j + 1, n + 1, by omega, by omega, by omega, by go_num, by go_num, HL.out.1 (by first | rfl | trivial), Z⟩, by simp [intOf]; omega⟩
      · have hv' : (V == 0) = false := by simpa using hv
        go_wp2
        exact ⟨⟨j + 1, n, by omega, by omega, by omega, by go_num, by go_num, HL.out.2 hv, Z⟩, by simp [intOf]; omega⟩
    · have hend : vsP xs j = vsP xs 60 := by
        by_cases h6 : j = 60
        · rw [h6]
        · have hjN : j = N := by omega
          have := HN.out
          unfold vsP
          rw [List.take_of_length_le (by omega), List.take_of_length_le (by omega)]
      rw [hend] at hr hn
      have HR := hd hr.out
      have C1 : Hid (Calls Tryd.prog 10 #[.pointer (some ⟨x, 0, none⟩)] wr fun e w' => ∃ g c, e = .returned (.slice (some ⟨g, 0, none⟩) n c) ∧ c ≤ 9223372036854775807 ∧ n ≤ c ∧ MO w0 w' K (setO F i (spO x (fillP f 3 (vsP xs 60)))) ∧ KP K w w') := by
        refine (mo_queue HR.out.1 i (setO_same _ _ _)).mono ?_
        rintro e w' ⟨u, rfl, h1, h2, h3, -⟩
        obtain ⟨g, c, rfl, -, -, h4, h5⟩ := h1.form
        have hl : (fillP f 3 (vsP xs 60)).q.length = n := by simp only [fillP]; rw [qOf_len, hn.out]
        rw [hl] at h5 ⊢
        exact ⟨g, c, rfl, h4, h5, h2.less (fun k hk => .inl hk), HR.out.2.trans h3⟩
      have hend2 : ¬ ((j : Int) < (N : Int) ∧ (j : Int) < 60) := by omega
      clear hr HE HO hend
      rcases (by omega : (¬ (j : Int) < (N : Int)) ∨ ((j : Int) < (N : Int) ∧ ¬ (j : Int) < 60)) with i1 | ⟨i1, i2⟩ <;>
      · clear hend2 hlt
        go_wp2_with fail
        refine C1.out.mono ?_
        rintro e w2 ⟨g, cq, rfl, q1, q2, h2, h3⟩
        have H2 := hd h2
        have H3 := hd h3
        clear h2 h3
        go_wp2_with fail
        refine (mo_last H2.out i (setO_same _ _ _)).mono ?_
        rintro e w3 ⟨rfl, hw3⟩
        subst hw3
        rw [show (fillP f 3 (vsP xs 60)).last = (n : Int) * 3 from by simp only [fillP]; rw [← hn.out]]
        go_wp2
        refine bodyPost_ret (v := .tuple #[.pointer (some ⟨x, 0, none⟩), .int .i64 n, .bool true]) (by simp [results, Tryd.results16, go_sem]) rfl ?_
        exact ⟨x, n, _, rfl, hn.out, by omega, rfl, H2.out, H3.out⟩

set_option maxRecDepth 100000 in
set_option maxHeartbeats 4000000 in
theorem filled_5 {w0 w : World} {K : Nat → Prop} {F : Nat → Thg} (i : Nat) (f : Bool) (a : Option Addr) (N c : Nat) (xs : List OpE) (h : MO w0 w K F) (hE : IsO w0 a N c xs) (hO : OkO xs) :
    Calls Tryd.prog 16 #[.bool f, .slice a N c, .int .i64 5] w fun e w' => ∃ (x n : Nat) (L : List OpE), e = .returned (.tuple #[.pointer (some ⟨x, 0, none⟩), .int .i64 n, .bool true]) ∧ n = L.length ∧ n ≤ 60 ∧ L = vsP xs 60 ∧ MO w0 w' K (setO F i (spO x (fillP f 5 L))) ∧ KP K w w' := by
  have HM := hd h
  have HE := hd hE
  have HO := hd hO
  have hN : xs.length = N := hE.1
  have HN := hd hN
  have hc1 : N ≤ c := hE.2.1
  have hc2 : c ≤ 9223372036854775807 := hE.2.2.1
  clear h hE hO hN
  go_enter Tryd.func16, Tryd.ntmps16
  go_wp2_with fail
  refine (mo_new HM.out i f).mono ?_
  rintro e w1 ⟨x, rfl, h1, b1⟩
  have S0 : Hid (MO w0 w1 K (setO F i (spO x (fillP f 5 (vsP xs 0)))) ∧ KP K w w1) := by
    refine ⟨?_, HM.out.kp b1⟩
    rw [vsP_zero]
    exact h1
  clear h1 b1
  go_wp2
  go_loopw [10, 11] (fun v u wr => ∃ j n : Nat, j ≤ N ∧ j ≤ 60 ∧ n ≤ j ∧ u = .int .i64 j ∧ v = .int .i64 n ∧ Hid (n = (vsP xs j).length) ∧ Hid (MO w0 wr K (setO F i (spO x (fillP f 5 (vsP xs j)))) ∧ KP K w wr)) (fun _ u _ => N - (intOf u).toNat)
  case atStart => exact ⟨0, 0, Nat.zero_le _, by omega, Nat.le_refl _, rfl, rfl, by rw [vsP_zero]; rfl, S0⟩
  case round =>
    obtain ⟨j, n, hj, hj6, hnj, rfl, rfl, hn, hr⟩ := hrel
    clear S0
    by_cases hlt : j < N ∧ j < 60
    · obtain ⟨hlt, hlt6⟩ := hlt
      have jx : j < xs.length := by have := HN.out; omega
      obtain ⟨b, off, rfl, -⟩ := HE.out.addr (by omega)
      have hB := hr.out.1.base
      obtain ⟨p0, p1, p2, p3, p4⟩ := (HE.out.fr (S := fun _ => False) ⟨hB.os, hB.tape, hB.output, hB.size, fun k hk _ => hB.block k hk⟩ (fun _ _ _ _ h => h)).at j hlt jx
      have hok := HO.out xs[j] (List.getElem_mem jx)
      obtain ⟨k1, k2, k3⟩ := keep_fill f 5 (vsP xs j) xs[j] (by omega) (by omega) (by rw [← hn.out]; omega)
      have hmul : (((vsP xs j).length : Int) + 1) * 5 = ((n : Int) + 1) * 5 := by rw [← hn.out]
      rw [hmul] at k1 k2 k3
      have g1 := vsP_good xs j jx
      have g2 := vsP_bad xs j jx
      have HK := hd (And.intro k1 (And.intro k2 (And.intro k3 (And.intro g1 (And.intro g2 hok)))))
      have C2 : Hid (∀ U, Below wr.heap.size wr U → Calls Tryd.prog 9 #[.pointer (some ⟨x, 0, none⟩), .int .i64 (((n : Int) + 1) * 5), xs[j].val] U fun e w' => e = .returned (.int .i64 (validP xs[j])) ∧ MO w0 w' K (setO F i (spO x (fillP f 5 (vsP xs (j + 1))))) ∧ KP K w w') := by
        intro U hU
        have hM := hr.out.1.below hU
        refine (mo_keep hM i (setO_same _ _ _) _ xs[j] hok).mono ?_
        rintro e w' ⟨rfl, h1, h2⟩
        rw [k1]
        refine ⟨rfl, ?_, hr.out.2.trans ((hr.out.1.kp hU).trans h2)⟩
        rw [setO_twice] at h1
        by_cases hv : validP xs[j] = 0
        · rw [k2 hv] at h1
          rw [g1 hv]
          exact h1
        · rw [k3 hv] at h1
          rw [g2 hv]
          exact h1
      have HL : Hid ((validP xs[j] = 0 → n + 1 = (vsP xs (j + 1)).length) ∧ (validP xs[j] ≠ 0 → n = (vsP xs (j + 1)).length)) := by
        refine ⟨fun hv => ?_, fun hv => ?_⟩
        · rw [g1 hv, List.length_append, ← hn.out]
          rfl
        · rw [g2 hv]
          exact hn.out
      clear k1 k2 k3 g1 g2 hmul hB
      have HKc := hd hok
      clear hok HK
      generalize xs[j] = z at *
      obtain ⟨zk, zp, zc, zl, zs⟩ := z
      simp only [OpE.val] at C2
      simp only at p0 p1 p2 p3 p4
      obtain ⟨V, hV⟩ : ∃ V, validP ⟨zk, zp, zc, zl, zs⟩ = V := ⟨_, rfl⟩
      rw [hV] at C2 HL
      have HV := hd hV
      clear hV jx
      have i1 : (j : Int) < (N : Int) := by omega
      have i2 : (j : Int) < 60 := by omega
      have bl : b < wr.heap.size := cell_in p0
      go_wp2_with fail
      refine (valid_any zk zp zc zl zs wr HKc.out.1 HKc.out.2).mono ?_
      rintro e w2 ⟨rfl, b2⟩
      rw [HV.out]
      have cb : ∀ o, w2.cell? ⟨b, o, none⟩ = wr.cell? ⟨b, o, none⟩ := fun o => b2.cell (p := ⟨b, o, none⟩) bl
      rw [← cb] at p0 p1 p2 p3 p4
      have B2 := hd b2
      clear b2 cb
      go_wp2_with fail
      refine (C2.out w2 B2.out).mono ?_
      rintro e w3 ⟨rfl, h3, h4⟩
      have Z := hd (And.intro h3 h4)
      clear h3 h4 p0 p1 p2 p3 p4 bl hr hn C2
      by_cases hv : V = 0
      · subst hv
        go_wp2
        exact ⟨⟨j + 1, n + 1, by omega, by omega, by omega, by go_num, by go_num, HL.out.1 (by first | rfl | trivial), Z⟩, by simp [intOf]; omega⟩
      · have hv' : (V == 0) = false := by simpa using hv
        go_wp2
        exact ⟨⟨j + 1, n, by omega, by omega, by omega, by go_num, by go_num, HL.out.2 hv, Z⟩, by simp [intOf]; omega⟩
    · have hend : vsP xs j = vsP xs 60 := by
        by_cases h6 : j = 60
        · rw [h6]
        · have hjN : j = N := by omega
          have := HN.out
          unfold vsP
          rw [List.take_of_length_le (by omega), List.take_of_length_le (by omega)]
      rw [hend] at hr hn
      have HR := hd hr.out
      have C1 : Hid (Calls Tryd.prog 10 #[.pointer (some ⟨x, 0, none⟩)] wr fun e w' => ∃ g c, e = .returned (.slice (some ⟨g, 0, none⟩) n c) ∧ c ≤ 9223372036854775807 ∧ n ≤ c ∧ MO w0 w' K (setO F i (spO x (fillP f 5 (vsP xs 60)))) ∧ KP K w w') := by
        refine (mo_queue HR.out.1 i (setO_same _ _ _)).mono ?_
        rintro e w' ⟨u, rfl, h1, h2, h3, -⟩
        obtain ⟨g, c, rfl, -, -, h4, h5⟩ := h1.form
        have hl : (fillP f 5 (vsP xs 60)).q.length = n := by simp only [fillP]; rw [qOf_len, hn.out]
        rw [hl] at h5 ⊢
        exact ⟨g, c, rfl, h4, h5, h2.less (fun k hk => .inl hk), HR.out.2.trans h3⟩
      have hend2 : ¬ ((j : Int) < (N : Int) ∧ (j : Int) < 60) := by omega
      clear hr HE HO hend
      rcases (by omega : (¬ (j : Int) < (N : Int)) ∨ ((j : Int) < (N : Int) ∧ ¬ (j : Int) < 60)) with i1 | ⟨i1, i2⟩ <;>
      · clear hend2 hlt
        go_wp2_with fail
        refine C1.out.mono ?_
        rintro e w2 ⟨g, cq, rfl, q1, q2, h2, h3⟩
        have H2 := hd h2
        have H3 := hd h3
        clear h2 h3
        go_wp2_with fail
        refine (mo_last H2.out i (setO_same _ _ _)).mono ?_
        rintro e w3 ⟨rfl, hw3⟩
        subst hw3
        rw [show (fillP f 5 (vsP xs 60)).last = (n : Int) * 5 from by simp only [fillP]; rw [← hn.out]]
        go_wp2
        refine bodyPost_ret (v := .tuple #[.pointer (some ⟨x, 0, none⟩), .int .i64 n, .bool true]) (by simp [results, Tryd.results16, go_sem]) rfl ?_
        exact ⟨x, n, _, rfl, hn.out, by omega, rfl, H2.out, H3.out⟩

end Go.Proofs.YtmbnimlibnheeaaDoor
