/-
  SpaceDrops: the walk.
-/
import Derived.Test.YtmbnimlibnheeaaSf
namespace Go.Proofs.Ytmbnimlibnheeaa
open Go.RowKit
set_option linter.unusedVariables false

def nopE : OpE := ⟨0, 0, 0, 1, 1⟩
theorem nop_valid : validP nopE = 0 := by decide
theorem take_none {α : Type} (p : α → Bool) (l : List α) (x : α) (hx : p x = false) : (l.dropWhile p ++ [x]).takeWhile p = [] := by
  induction l with
  | nil => simp [hx]
  | cons y l ih =>
    by_cases hy : p y = true
    · rw [List.dropWhile_cons_of_pos hy]
      exact ih
    · rw [List.dropWhile_cons_of_neg hy, List.cons_append, List.takeWhile_cons_of_neg hy]
theorem qOf_mark (st : Int) (l : List OpE) (n : Nat) (hst : 0 ≤ st) : ∀ x ∈ qOf st n l, x.1 ≤ ((n : Int) + l.length) * st := by
  induction l generalizing n with
  | nil => intro x hx; simp [qOf] at hx
  | cons y l ih =>
    intro x hx
    simp only [qOf, List.mem_cons] at hx
    rcases hx with rfl | hx
    · simp only [List.length_cons]
      exact Int.mul_le_mul_of_nonneg_right (by omega) hst
    · have := ih (n + 1) x hx
      rw [show ((n : Int) + ((y :: l).length : Nat)) = ((n + 1 : Nat) : Int) + (l.length : Nat) by simp; omega]
      exact this

/-- What SpaceDrops asks of the numbers. -/
theorem drops_pure (f : Bool) (L : List OpE) (mark : Int) (hn : L.length ≤ 60) :
    let p := dropS (fillP f 5 L) mark
    keepE p (5 * (L.length : Int)) nopE = 100 ∧ keepE p 4097 nopE = 100 ∧ keepE p (5 * (L.length : Int) + 1) nopE = 0 ∧
    (5 * (L.length : Int) + 1 ≤ mark → dropN (keepS p (5 * (L.length : Int) + 1) nopE) mark = 1 ∧ (dropS (keepS p (5 * (L.length : Int) + 1) nopE) mark).q = []) ∧
    (¬ 5 * (L.length : Int) + 1 ≤ mark → dropN (keepS p (5 * (L.length : Int) + 1) nopE) mark = 0 ∧ (dropS (keepS p (5 * (L.length : Int) + 1) nopE) mark).q.length = L.length - dropN (fillP f 5 L) mark + 1 ∧ (dropS (keepS p (5 * (L.length : Int) + 1) nopE) mark).last = 5 * (L.length : Int) + 1) := by
  intro p
  have hl : p.last = (L.length : Int) * 5 := rfl
  have e1 : keepE p (5 * (L.length : Int)) nopE = 100 := by
    unfold keepE
    rw [nop_valid, if_neg (by simp), if_pos (by rw [hl]; omega)]
  have e2 : keepE p 4097 nopE = 100 := by
    unfold keepE
    rw [nop_valid, if_neg (by simp), if_pos (by omega)]
  have e3 : keepE p (5 * (L.length : Int) + 1) nopE = 0 := by
    unfold keepE
    rw [nop_valid, if_neg (by simp), if_neg (by rw [hl]; omega)]
  have e4 : keepS p (5 * (L.length : Int) + 1) nopE = ⟨f, dropQ (qOf 5 0 L) mark ++ [(5 * (L.length : Int) + 1, nopE)], 5 * (L.length : Int) + 1⟩ := by
    unfold keepS
    rw [if_pos e3]
    rfl
  refine ⟨e1, e2, e3, fun hm => ?_, fun hm => ?_⟩
  · have e5 : dropQ (qOf 5 0 L) mark = [] := dropQ_all (fun x hx => by
      have := qOf_mark 5 L 0 (by omega) x hx
      simp at this
      omega)
    rw [e4, e5]
    unfold dropN dropS dropQ
    simp [hm]
  · rw [e4]
    have e6 := take_none (fun x : Int × OpE => decide (x.1 ≤ mark)) (qOf 5 0 L) (5 * (L.length : Int) + 1, nopE) (by simpa using hm)
    have e7 : dropN ⟨f, dropQ (qOf 5 0 L) mark ++ [(5 * (L.length : Int) + 1, nopE)], 5 * (L.length : Int) + 1⟩ mark = 0 := by
      unfold dropN dropQ
      simp only
      rw [e6]
      rfl
    refine ⟨e7, ?_, rfl⟩
    unfold dropS
    simp only
    rw [dropQ_drop]
    unfold dropQ
    rw [e6]
    simp only [List.length_nil, List.drop_zero, List.length_append, List.length_cons]
    have := congrArg List.length (dropQ_drop (qOf 5 0 L) mark)
    unfold dropQ at this
    rw [this, List.length_drop, qOf_len]
    rfl

theorem setO_self (F : Nat → Thg) (i : Nat) (G : Thg) (h : F i = G) : setO F i G = F := by
  funext j
  unfold setO
  split
  · next hj => rw [hj, h]
  · rfl
/-- A Keep that is refused. -/
theorem mo_keep_bad {w0 w : World} {K : Nat → Prop} {F : Nat → Thg} {x : Nat} {p : Sp} (h : MO w0 w K F) (i : Nat) (hi : F i = spO x p) (m : Int) (o : OpE) (ho : OkOp o) (r : Int) (hr : keepE p m o = r) (h0 : r ≠ 0) :
    Calls Try.prog 9 #[.pointer (some ⟨x, 0, none⟩), .int .i64 m, o.val] w fun e w' => e = .returned (.int .i64 r) ∧ MO w0 w' K F ∧ KP K w w' := by
  refine (mo_keep h i hi m o ho).mono ?_
  rintro e w' ⟨rfl, h1, h2⟩
  rw [keepS, if_neg (by rw [hr]; exact h0), setO_self F i _ hi] at h1
  exact ⟨by rw [hr], h1, h2⟩

set_option maxRecDepth 100000 in
set_option maxHeartbeats 8000000 in
theorem spaceDrops_any (f : Bool) (a : Option Addr) (N c : Nat) (xs : List OpE) (mark : Int) (w : World) (hE : IsO w a N c xs) (hO : OkO xs) :
    Calls Try.prog 3 #[.bool f, .slice a N c, .int .i64 mark] w fun e w' => e = .returned (.bool true) ∧ Below w.heap.size w w' := by
  have HE := hd hE
  have HO := hd hO
  clear hE hO
  go_enter Try.func3, Try.ntmps3
  go_wp2_with fail
  refine (filled_5 0 f a N c xs (MO.nil w) HE.out HO.out).mono ?_
  rintro e w1 ⟨x, n, L, rfl, hn, hn6, -, hM1, -⟩
  have HP := hd (drops_pure f L mark (by omega))
  rw [← hn] at HP
  obtain ⟨p0, hp0⟩ : ∃ p, p = fillP f 5 L := ⟨_, rfl⟩
  have hq0 : p0.q.length = n := by rw [hp0]; simp only [fillP]; rw [qOf_len, hn]
  have hl0 : p0.last = (n : Int) * 5 := by rw [hp0, hn]; rfl
  rw [← hp0] at hM1 HP
  have HM1 := hd hM1
  have HQ0 := hd hq0
  have HL0 := hd hl0
  clear HE HO hM1 hn hq0 hl0 hp0
  go_wp2_with fail
  refine (mo_queue HM1.out 0 (setO_same _ _ _)).mono ?_
  rintro e w2 ⟨u, rfl, hb, hM2, -, -⟩
  obtain ⟨g, cb, rfl, hR, hg, hcb1, hcb2⟩ := hb.form
  rw [HQ0.out] at hR hcb2 ⊢
  have HR := hd hR
  have HG := hd hg
  have HM2 := hd hM2
  have HU := hd (And.intro (upN_le p0.ms mark) (And.intro (upN_lt p0.ms mark) (upN_end p0.ms mark)))
  have HDN := hd (dropN_up p0 mark)
  have HDQ := hd (congrArg List.length (dropQ_drop p0.q mark))
  have HDK := hd (dropQ_drop p0.q mark)
  obtain ⟨U, hU⟩ : ∃ U, upN p0.ms mark = U := ⟨_, rfl⟩
  rw [hU] at HU HDN
  have hUn : U ≤ n := by have := HU.out.1; rw [Sp.ms_len, HQ0.out] at this; exact this
  clear hb hR hg hM2 HM1 hU
  go_wp2
  go_loopw [11] (fun i wr => ∃ j : Nat, j ≤ U ∧ i = .int .i64 j ∧ wr = w2) (fun i _ => U - (intOf i).toNat)
  case atStart => exact ⟨0, Nat.zero_le _, rfl, rfl⟩
  case round =>
    obtain ⟨j, hj, rfl, rfl⟩ := hrel
    by_cases hju : j < U
    · have jq : j < p0.q.length := by have := HQ0.out; omega
      have jm : j < p0.ms.length := by rw [Sp.ms_len]; exact jq
      have hle : p0.q[j].1 ≤ mark := by
        have := HU.out.2.1 j hju jm
        simpa [Sp.ms] using this
      have hcell := HR.out.cell sz_mkd j 0 jq (by omega)
      simp [mkd] at hcell
      generalize p0.q[j] = pj at *
      obtain ⟨mj, oj⟩ := pj
      simp only at hle hcell
      have i1 : (j : Int) < (n : Int) := by omega
      clear jq jm
      go_wp2
      exact ⟨⟨j + 1, by omega, by go_num, by first | rfl | trivial⟩, by simp [intOf]; omega⟩
    · obtain rfl : j = U := by omega
      -- the loop's end: the same from here on
      have C3 : Hid (Calls Try.prog 6 #[.pointer (some ⟨x, 0, none⟩), .int .i64 mark] wr fun e w' => e = .returned (.int .i64 (j : Int)) ∧ RowF mkd 6 w' g n cb 31 p0.q ∧ MO w w' (fun k => NoK k ∨ (w1.heap.size ≤ k ∧ k < wr.heap.size)) (setO (fun _ => noObj) 0 (spO x (dropS p0 mark)))) := by
        refine (mo_drop HM2.out 0 (setO_same _ _ _) mark).mono ?_
        rintro e w' ⟨rfl, h1, h2⟩
        rw [setO_twice] at h1
        refine ⟨by rw [HDN.out], ?_, h1⟩
        obtain ⟨cur, hh, r⟩ := HR.out
        exact ⟨cur, (h2 g (.inr ⟨HG.out, HR.out.lt⟩)).trans hh, r⟩
      have hway : (¬ (j : Int) < (n : Int)) ∨ ((j : Int) < (n : Int) ∧ ∃ mj : Int, wr.cell? ⟨g, j * 6, none⟩ = some (.int .i64 mj) ∧ ¬ mj ≤ mark) := by
        by_cases hjn : j < n
        · have jq : j < p0.q.length := by have := HQ0.out; omega
          have jm : j < p0.ms.length := by rw [Sp.ms_len]; exact jq
          have hgt := HU.out.2.2 j jm rfl
          have hcell := HR.out.cell sz_mkd j 0 jq (by omega)
          simp [mkd] at hcell
          refine .inr ⟨by omega, p0.q[j].1, hcell, ?_⟩
          simpa [Sp.ms] using hgt
        · exact .inl (by omega)
      have l1 : (dropS p0 mark).q.length = n - j := by
        have h := HDQ.out
        rw [List.length_drop, HQ0.out] at h
        rw [← HDN.out]
        exact h
      have l2 : (dropS p0 mark).q = p0.q.drop j := by
        have h := HDK.out
        rw [← HDN.out]
        exact h
      have l3 : (dropS p0 mark).last = (n : Int) * 5 := HL0.out
      have HL := hd (And.intro l1 (And.intro l2 l3))
      have hdn : dropN p0 mark = j := HDN.out
      rw [hdn] at HP
      generalize dropS p0 mark = p1 at *
      clear l1 l2 l3 hdn HU HDN HDQ HDK HM2 hju
      by_cases hcd : cb = j
      · obtain rfl : n = j := by omega
        have hcd' : n = cb := hcd.symm
        subst hcd'
        clear hcd
        rcases hway with i1 | ⟨i1, mj, hcell, hle⟩
        · clear hj
          rw [Nat.sub_self] at HL
          rw [Nat.sub_self] at HP
          go_wp2_with fail
          refine C3.out.mono ?_
          rintro e w3 ⟨rfl, hR3, hM3⟩
          have HR3 := hd hR3
          have HM3 := hd hM3
          clear hR3 hM3 C3 HR
          go_wp2_with fail
          refine (mo_queue HM3.out 0 (setO_same _ _ _)).mono ?_
          rintro e w4 ⟨u, rfl, hA, hM4, -, b4⟩
          obtain ⟨g2, ca, rfl, hRa, -, hca1, hca2⟩ := hA.form
          rw [HL.out.1] at hRa hca2 ⊢
          have hR4 := HR3.out.fr (S := fun _ => False) (Fr.of_below b4) (fun h => h)
          have CQ : Hid (Calls Try.prog 7 #[.slice (some ⟨g2, 0, none⟩) 0 ca, .slice (some ⟨g, 0, none⟩) 0 0] w4 fun e w' => e = .returned (.bool true) ∧ Below w4.heap.size w4 w') := by
            have l1 := HL.out.1
            have l2 := HL.out.2.1
            exact queues_true _ _ 0 ca 0 p1.q w4 (RowF.isK hRa) (⟨by rw [l1], Nat.le_refl _, by omega, fun h => absurd h (by omega)⟩)
          have HM4 := hd (hM4.less (K' := NoK) (fun k hk => hk.elim))
          clear hA hM4 b4 hRa hR4 HR3 HM3
          go_wp2_with fail
          refine CQ.out.mono ?_
          rintro e w5 ⟨rfl, b5⟩
          have HM5 := hd (HM4.out.below b5)
          clear b5 CQ HM4
          go_wp2_with fail
          refine (mo_last HM5.out 0 (setO_same _ _ _)).mono ?_
          rintro e w6 ⟨rfl, hw6⟩
          subst hw6
          rw [HL.out.2.2]
          obtain ⟨P1, P2, P3, P4, P5⟩ := HP.out
          have HP1 := hd P1
          have HP2 := hd P2
          have HP3 := hd P3
          have HP4 := hd P4
          have HP5 := hd P5
          clear P1 P2 P3 P4 P5 HP
          have okn : OkOp nopE := ⟨by decide, by decide⟩
          have b7 : Below w6.heap.size w6 (w6.alloc (.cells #[.int .i64 0, .int .i64 0, .int .u8 0, .int .i64 1, .int .i64 1] 29)) := (Below.refl _ _).alloc (Nat.le_refl _) _
          have HM7 := hd (HM5.out.adds (K' := (· = w6.heap.size)) b7 (fun k hk => .inr (by omega)) (fun k hk => by simp; omega))
          have HX7 := hd (heap_alloc_new w6 (.cells #[.int .i64 0, .int .i64 0, .int .u8 0, .int .i64 1, .int .i64 1] 29))
          clear b7 HM5
          go_wp2_with fail
          refine (mo_keep_bad HM7.out 0 (setO_same _ _ _) (5 * (n : Int)) nopE okn 100 HP1.out (by decide)).mono ?_
          rintro e w8 ⟨rfl, hM8, k8⟩
          have X8 := (k8 _ rfl).trans HX7.out
          obtain ⟨⟨y0, y1, y2, y3, y4⟩, -⟩ := cells5 X8
          have HM8 := hd hM8
          have HX8 := hd X8
          clear hM8 k8 X8 HX7 HM7
          go_wp2_with fail
          refine (mo_keep_bad HM8.out 0 (setO_same _ _ _) 4097 nopE okn 100 HP2.out (by decide)).mono ?_
          rintro e w9 ⟨rfl, hM9, k9⟩
          have X9 := (k9 _ rfl).trans HX8.out
          have HM9 := hd hM9
          have HX9 := hd X9
          clear hM9 k9 X9 HX8 HM8 y0 y1 y2 y3 y4
          go_wp2_with fail
          refine (mo_queue HM9.out 0 (setO_same _ _ _)).mono ?_
          rintro e w10 ⟨u, rfl, hA, hM10, -, b10⟩
          obtain ⟨g3, cc, rfl, -, -, hcc1, hcc2⟩ := hA.form
          rw [HL.out.1] at hcc2 ⊢
          have X10 := (b10.block _ (block_lt HX9.out)).trans HX9.out
          obtain ⟨⟨y0, y1, y2, y3, y4⟩, -⟩ := cells5 X10
          have HM10 := hd (hM10.less (K' := NoK) (fun k hk => hk.elim))
          clear hA hM10 b10 X10 HX9 HM9
          go_wp2_with fail
          refine (mo_keep HM10.out 0 (setO_same _ _ _) (5 * (n : Int) + 1) nopE okn).mono ?_
          rintro e w11 ⟨rfl, hM11, -⟩
          rw [setO_twice] at hM11
          rw [HP3.out]
          have HM11 := hd hM11
          clear hM11 HM10 y0 y1 y2 y3 y4
          go_wp2_with fail
          refine (mo_drop HM11.out 0 (setO_same _ _ _) mark).mono ?_
          rintro e w12 ⟨rfl, hM12, -⟩
          rw [setO_twice] at hM12
          have HM12 := hd hM12
          clear hM12 HM11
          by_cases hm : 5 * (n : Int) + 1 ≤ mark
          · obtain ⟨e1, e2⟩ := HP4.out hm
            rw [e1]
            clear HP4 HP5 HP3 HP2 HP1
            generalize dropS (keepS p1 (5 * (n : Int) + 1) nopE) mark = p3 at *
            have E2 := hd e2
            clear e1 e2
            go_wp2_with fail
            refine (mo_queue HM12.out 0 (setO_same _ _ _)).mono ?_
            rintro e w13 ⟨u, rfl, hA, hM13, -, b13⟩
            obtain ⟨g4, cd, rfl, -, -, hcd1, hcd2⟩ := hA.form
            rw [E2.out] at hcd2 ⊢
            have HB := hd hM13.base
            clear hA hM13 b13
            go_wp2
            go_ret
            exact ⟨rfl, HB.out⟩
          · obtain ⟨e1, e2, e3⟩ := HP5.out (by omega)
            rw [e1]
            clear HP4 HP5 HP3 HP2 HP1
            generalize dropS (keepS p1 (5 * (n : Int) + 1) nopE) mark = p3 at *
            have E2 := hd e2
            have E3 := hd e3
            clear e1 e2 e3
            go_wp2_with fail
            refine (mo_queue HM12.out 0 (setO_same _ _ _)).mono ?_
            rintro e w13 ⟨u, rfl, hA, hM13, -, b13⟩
            obtain ⟨g4, cd, rfl, -, -, hcd1, hcd2⟩ := hA.form
            rw [E2.out] at hcd2 ⊢
            have HM13 := hd hM13
            clear hA hM13 b13 HM12
            go_wp2_with fail
            refine (mo_last HM13.out 0 (setO_same _ _ _)).mono ?_
            rintro e w14 ⟨rfl, hw14⟩
            subst hw14
            rw [E3.out]
            go_wp2
            go_ret
            exact ⟨rfl, HM13.out.base⟩
        · exact absurd i1 (by omega)
      · rcases hway with i1 | ⟨i1, mj, hcell, hle⟩
        · clear hj
          go_wp2_with fail
          refine C3.out.mono ?_
          rintro e w3 ⟨rfl, hR3, hM3⟩
          have HR3 := hd hR3
          have HM3 := hd hM3
          clear hR3 hM3 C3 HR
          go_wp2_with fail
          refine (mo_queue HM3.out 0 (setO_same _ _ _)).mono ?_
          rintro e w4 ⟨u, rfl, hA, hM4, -, b4⟩
          obtain ⟨g2, ca, rfl, hRa, -, hca1, hca2⟩ := hA.form
          rw [HL.out.1] at hRa hca2 ⊢
          have hR4 := HR3.out.fr (S := fun _ => False) (Fr.of_below b4) (fun h => h)
          have CQ : Hid (Calls Try.prog 7 #[.slice (some ⟨g2, 0, none⟩) (n - j) ca, .slice (some ⟨g, j * 6, none⟩) (n - j) (cb - j)] w4 fun e w' => e = .returned (.bool true) ∧ Below w4.heap.size w4 w') := by
            have l1 := HL.out.1
            have l2 := HL.out.2.1
            exact queues_true _ _ (n - j) ca (cb - j) p1.q w4 (RowF.isK hRa) (by rw [l2]; have := RowF.isK hR4; have := IsK.drop this j (by omega); rwa [Nat.zero_add] at this)
          have HM4 := hd (hM4.less (K' := NoK) (fun k hk => hk.elim))
          clear hA hM4 b4 hRa hR4 HR3 HM3
          go_wp2_with fail
          refine CQ.out.mono ?_
          rintro e w5 ⟨rfl, b5⟩
          have HM5 := hd (HM4.out.below b5)
          clear b5 CQ HM4
          go_wp2_with fail
          refine (mo_last HM5.out 0 (setO_same _ _ _)).mono ?_
          rintro e w6 ⟨rfl, hw6⟩
          subst hw6
          rw [HL.out.2.2]
          obtain ⟨P1, P2, P3, P4, P5⟩ := HP.out
          have HP1 := hd P1
          have HP2 := hd P2
          have HP3 := hd P3
          have HP4 := hd P4
          have HP5 := hd P5
          clear P1 P2 P3 P4 P5 HP
          have okn : OkOp nopE := ⟨by decide, by decide⟩
          have b7 : Below w6.heap.size w6 (w6.alloc (.cells #[.int .i64 0, .int .i64 0, .int .u8 0, .int .i64 1, .int .i64 1] 29)) := (Below.refl _ _).alloc (Nat.le_refl _) _
          have HM7 := hd (HM5.out.adds (K' := (· = w6.heap.size)) b7 (fun k hk => .inr (by omega)) (fun k hk => by simp; omega))
          have HX7 := hd (heap_alloc_new w6 (.cells #[.int .i64 0, .int .i64 0, .int .u8 0, .int .i64 1, .int .i64 1] 29))
          clear b7 HM5
          go_wp2_with fail
          refine (mo_keep_bad HM7.out 0 (setO_same _ _ _) (5 * (n : Int)) nopE okn 100 HP1.out (by decide)).mono ?_
          rintro e w8 ⟨rfl, hM8, k8⟩
          have X8 := (k8 _ rfl).trans HX7.out
          obtain ⟨⟨y0, y1, y2, y3, y4⟩, -⟩ := cells5 X8
          have HM8 := hd hM8
          have HX8 := hd X8
          clear hM8 k8 X8 HX7 HM7
          go_wp2_with fail
          refine (mo_keep_bad HM8.out 0 (setO_same _ _ _) 4097 nopE okn 100 HP2.out (by decide)).mono ?_
          rintro e w9 ⟨rfl, hM9, k9⟩
          have X9 := (k9 _ rfl).trans HX8.out
          have HM9 := hd hM9
          have HX9 := hd X9
          clear hM9 k9 X9 HX8 HM8 y0 y1 y2 y3 y4
          go_wp2_with fail
          refine (mo_queue HM9.out 0 (setO_same _ _ _)).mono ?_
          rintro e w10 ⟨u, rfl, hA, hM10, -, b10⟩
          obtain ⟨g3, cc, rfl, -, -, hcc1, hcc2⟩ := hA.form
          rw [HL.out.1] at hcc2 ⊢
          have X10 := (b10.block _ (block_lt HX9.out)).trans HX9.out
          obtain ⟨⟨y0, y1, y2, y3, y4⟩, -⟩ := cells5 X10
          have HM10 := hd (hM10.less (K' := NoK) (fun k hk => hk.elim))
          clear hA hM10 b10 X10 HX9 HM9
          go_wp2_with fail
          refine (mo_keep HM10.out 0 (setO_same _ _ _) (5 * (n : Int) + 1) nopE okn).mono ?_
          rintro e w11 ⟨rfl, hM11, -⟩
          rw [setO_twice] at hM11
          rw [HP3.out]
          have HM11 := hd hM11
          clear hM11 HM10 y0 y1 y2 y3 y4
          go_wp2_with fail
          refine (mo_drop HM11.out 0 (setO_same _ _ _) mark).mono ?_
          rintro e w12 ⟨rfl, hM12, -⟩
          rw [setO_twice] at hM12
          have HM12 := hd hM12
          clear hM12 HM11
          by_cases hm : 5 * (n : Int) + 1 ≤ mark
          · obtain ⟨e1, e2⟩ := HP4.out hm
            rw [e1]
            clear HP4 HP5 HP3 HP2 HP1
            generalize dropS (keepS p1 (5 * (n : Int) + 1) nopE) mark = p3 at *
            have E2 := hd e2
            clear e1 e2
            go_wp2_with fail
            refine (mo_queue HM12.out 0 (setO_same _ _ _)).mono ?_
            rintro e w13 ⟨u, rfl, hA, hM13, -, b13⟩
            obtain ⟨g4, cd, rfl, -, -, hcd1, hcd2⟩ := hA.form
            rw [E2.out] at hcd2 ⊢
            have HB := hd hM13.base
            clear hA hM13 b13
            go_wp2
            go_ret
            exact ⟨rfl, HB.out⟩
          · obtain ⟨e1, e2, e3⟩ := HP5.out (by omega)
            rw [e1]
            clear HP4 HP5 HP3 HP2 HP1
            generalize dropS (keepS p1 (5 * (n : Int) + 1) nopE) mark = p3 at *
            have E2 := hd e2
            have E3 := hd e3
            clear e1 e2 e3
            go_wp2_with fail
            refine (mo_queue HM12.out 0 (setO_same _ _ _)).mono ?_
            rintro e w13 ⟨u, rfl, hA, hM13, -, b13⟩
            obtain ⟨g4, cd, rfl, -, -, hcd1, hcd2⟩ := hA.form
            rw [E2.out] at hcd2 ⊢
            have HM13 := hd hM13
            clear hA hM13 b13 HM12
            go_wp2_with fail
            refine (mo_last HM13.out 0 (setO_same _ _ _)).mono ?_
            rintro e w14 ⟨rfl, hw14⟩
            subst hw14
            rw [E3.out]
            go_wp2
            go_ret
            exact ⟨rfl, HM13.out.base⟩
        · clear hj
          go_wp2_with fail
          refine C3.out.mono ?_
          rintro e w3 ⟨rfl, hR3, hM3⟩
          have HR3 := hd hR3
          have HM3 := hd hM3
          clear hR3 hM3 C3 HR
          go_wp2_with fail
          refine (mo_queue HM3.out 0 (setO_same _ _ _)).mono ?_
          rintro e w4 ⟨u, rfl, hA, hM4, -, b4⟩
          obtain ⟨g2, ca, rfl, hRa, -, hca1, hca2⟩ := hA.form
          rw [HL.out.1] at hRa hca2 ⊢
          have hR4 := HR3.out.fr (S := fun _ => False) (Fr.of_below b4) (fun h => h)
          have CQ : Hid (Calls Try.prog 7 #[.slice (some ⟨g2, 0, none⟩) (n - j) ca, .slice (some ⟨g, j * 6, none⟩) (n - j) (cb - j)] w4 fun e w' => e = .returned (.bool true) ∧ Below w4.heap.size w4 w') := by
            have l1 := HL.out.1
            have l2 := HL.out.2.1
            exact queues_true _ _ (n - j) ca (cb - j) p1.q w4 (RowF.isK hRa) (by rw [l2]; have := RowF.isK hR4; have := IsK.drop this j (by omega); rwa [Nat.zero_add] at this)
          have HM4 := hd (hM4.less (K' := NoK) (fun k hk => hk.elim))
          clear hA hM4 b4 hRa hR4 HR3 HM3
          go_wp2_with fail
          refine CQ.out.mono ?_
          rintro e w5 ⟨rfl, b5⟩
          have HM5 := hd (HM4.out.below b5)
          clear b5 CQ HM4
          go_wp2_with fail
          refine (mo_last HM5.out 0 (setO_same _ _ _)).mono ?_
          rintro e w6 ⟨rfl, hw6⟩
          subst hw6
          rw [HL.out.2.2]
          obtain ⟨P1, P2, P3, P4, P5⟩ := HP.out
          have HP1 := hd P1
          have HP2 := hd P2
          have HP3 := hd P3
          have HP4 := hd P4
          have HP5 := hd P5
          clear P1 P2 P3 P4 P5 HP
          have okn : OkOp nopE := ⟨by decide, by decide⟩
          have b7 : Below w6.heap.size w6 (w6.alloc (.cells #[.int .i64 0, .int .i64 0, .int .u8 0, .int .i64 1, .int .i64 1] 29)) := (Below.refl _ _).alloc (Nat.le_refl _) _
          have HM7 := hd (HM5.out.adds (K' := (· = w6.heap.size)) b7 (fun k hk => .inr (by omega)) (fun k hk => by simp; omega))
          have HX7 := hd (heap_alloc_new w6 (.cells #[.int .i64 0, .int .i64 0, .int .u8 0, .int .i64 1, .int .i64 1] 29))
          clear b7 HM5
          go_wp2_with fail
          refine (mo_keep_bad HM7.out 0 (setO_same _ _ _) (5 * (n : Int)) nopE okn 100 HP1.out (by decide)).mono ?_
          rintro e w8 ⟨rfl, hM8, k8⟩
          have X8 := (k8 _ rfl).trans HX7.out
          obtain ⟨⟨y0, y1, y2, y3, y4⟩, -⟩ := cells5 X8
          have HM8 := hd hM8
          have HX8 := hd X8
          clear hM8 k8 X8 HX7 HM7
          go_wp2_with fail
          refine (mo_keep_bad HM8.out 0 (setO_same _ _ _) 4097 nopE okn 100 HP2.out (by decide)).mono ?_
          rintro e w9 ⟨rfl, hM9, k9⟩
          have X9 := (k9 _ rfl).trans HX8.out
          have HM9 := hd hM9
          have HX9 := hd X9
          clear hM9 k9 X9 HX8 HM8 y0 y1 y2 y3 y4
          go_wp2_with fail
          refine (mo_queue HM9.out 0 (setO_same _ _ _)).mono ?_
          rintro e w10 ⟨u, rfl, hA, hM10, -, b10⟩
          obtain ⟨g3, cc, rfl, -, -, hcc1, hcc2⟩ := hA.form
          rw [HL.out.1] at hcc2 ⊢
          have X10 := (b10.block _ (block_lt HX9.out)).trans HX9.out
          obtain ⟨⟨y0, y1, y2, y3, y4⟩, -⟩ := cells5 X10
          have HM10 := hd (hM10.less (K' := NoK) (fun k hk => hk.elim))
          clear hA hM10 b10 X10 HX9 HM9
          go_wp2_with fail
          refine (mo_keep HM10.out 0 (setO_same _ _ _) (5 * (n : Int) + 1) nopE okn).mono ?_
          rintro e w11 ⟨rfl, hM11, -⟩
          rw [setO_twice] at hM11
          rw [HP3.out]
          have HM11 := hd hM11
          clear hM11 HM10 y0 y1 y2 y3 y4
          go_wp2_with fail
          refine (mo_drop HM11.out 0 (setO_same _ _ _) mark).mono ?_
          rintro e w12 ⟨rfl, hM12, -⟩
          rw [setO_twice] at hM12
          have HM12 := hd hM12
          clear hM12 HM11
          by_cases hm : 5 * (n : Int) + 1 ≤ mark
          · obtain ⟨e1, e2⟩ := HP4.out hm
            rw [e1]
            clear HP4 HP5 HP3 HP2 HP1
            generalize dropS (keepS p1 (5 * (n : Int) + 1) nopE) mark = p3 at *
            have E2 := hd e2
            clear e1 e2
            go_wp2_with fail
            refine (mo_queue HM12.out 0 (setO_same _ _ _)).mono ?_
            rintro e w13 ⟨u, rfl, hA, hM13, -, b13⟩
            obtain ⟨g4, cd, rfl, -, -, hcd1, hcd2⟩ := hA.form
            rw [E2.out] at hcd2 ⊢
            have HB := hd hM13.base
            clear hA hM13 b13
            go_wp2
            go_ret
            exact ⟨rfl, HB.out⟩
          · obtain ⟨e1, e2, e3⟩ := HP5.out (by omega)
            rw [e1]
            clear HP4 HP5 HP3 HP2 HP1
            generalize dropS (keepS p1 (5 * (n : Int) + 1) nopE) mark = p3 at *
            have E2 := hd e2
            have E3 := hd e3
            clear e1 e2 e3
            go_wp2_with fail
            refine (mo_queue HM12.out 0 (setO_same _ _ _)).mono ?_
            rintro e w13 ⟨u, rfl, hA, hM13, -, b13⟩
            obtain ⟨g4, cd, rfl, -, -, hcd1, hcd2⟩ := hA.form
            rw [E2.out] at hcd2 ⊢
            have HM13 := hd hM13
            clear hA hM13 b13 HM12
            go_wp2_with fail
            refine (mo_last HM13.out 0 (setO_same _ _ _)).mono ?_
            rintro e w14 ⟨rfl, hw14⟩
            subst hw14
            rw [E3.out]
            go_wp2
            go_ret
            exact ⟨rfl, HM13.out.base⟩
end Go.Proofs.Ytmbnimlibnheeaa
