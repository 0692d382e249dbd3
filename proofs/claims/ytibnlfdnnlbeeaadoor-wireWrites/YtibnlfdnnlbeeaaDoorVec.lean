/-
  wire.read, of items: a part of the walk.
-/
import Derived.Test.YtibnlfdnnlbeeaaDoorVe
namespace Go.Proofs.YtibnlfdnnlbeeaaDoor
open Go.RowKit
set_option linter.unusedVariables false

set_option maxRecDepth 100000 in
set_option maxHeartbeats 8000000 in
theorem read_edit (a : Option Addr) (n c : Nat) (bs : List Int) (w : World) (hB : IsB w a n c bs) (hR : Rng bs) (hn : n ≤ 140737488351232) (hL : Lims w) (hz : ¬ n = 0) (hkd : nmP (bs.getD 0 0) = 16128) :
    Calls Tryd.prog 23 #[.slice a n c, .func (Fn.func 22) #[] #[]] w (ReadO w bs) := by
  suffices h : ∀ Q : Ending → World → Prop, (∀ e w', ReadO w bs e w' → Q e w') → Calls Tryd.prog 23 #[.slice a n c, .func (Fn.func 22) #[] #[]] w Q from h _ (fun _ _ h => h)
  intro Q hQ
  have HQ := hd hQ
  clear hQ
  have bz : Below w.heap.size w (w.alloc (.cells #[.int .i64 0, .int .i64 0, .int .i64 0, .int .i64 0, .int .i64 0, .int .i64 0, .int .i64 0, .int .i64 0, .int .i64 0, .int .i64 0, .int .i64 0, .int .i64 0, .int .i64 0, .int .i64 0] 52)) := (Below.refl _ _).alloc (Nat.le_refl _) _
  have hv : VB (w.alloc (.cells #[.int .i64 0, .int .i64 0, .int .i64 0, .int .i64 0, .int .i64 0, .int .i64 0, .int .i64 0, .int .i64 0, .int .i64 0, .int .i64 0, .int .i64 0, .int .i64 0, .int .i64 0, .int .i64 0] 52)) w.heap.size (fun _ => 0) := heap_alloc_new _ _
  have HL := hd (hL.below bz hL.lt)
  have HB := hd (hB.below bz)
  have BZ := hd bz
  have HV := hd hv
  have HR := hd hR
  have hl0 := hL.lt
  have hbn := hB.1
  have HBN := hd hbn
  have hsz : (w.alloc (.cells #[.int .i64 0, .int .i64 0, .int .i64 0, .int .i64 0, .int .i64 0, .int .i64 0, .int .i64 0, .int .i64 0, .int .i64 0, .int .i64 0, .int .i64 0, .int .i64 0, .int .i64 0, .int .i64 0] 52)).heap.size = w.heap.size + 1 := by simp
  have HKD := hd hkd
  clear bz hv hL hB hR hkd
  go_enter Tryd.func23, Tryd.ntmps23
  have hz' : ¬ (n : Int) = 0 := by omega
  have hne : bs ≠ [] := by rintro rfl; simp at hbn; omega
  obtain ⟨rb, hrb⟩ : ∃ rb, w.heap.size = rb := ⟨_, rfl⟩
  go_wp2_with fail
  generalize w.alloc (.cells #[.int .i64 0, .int .i64 0, .int .i64 0, .int .i64 0, .int .i64 0, .int .i64 0, .int .i64 0, .int .i64 0, .int .i64 0, .int .i64 0, .int .i64 0, .int .i64 0, .int .i64 0, .int .i64 0] 52) = w0 at *
  refine (newReader_any a n c bs _ HB.out hn).mono ?_
  rintro e w1 ⟨r, rfl, hr1, hr2, hrd, b1⟩
  have RD1 : Hid (RD (fun b => w.heap.size < b ∧ b < r) w1 r bs 0 false) := hd (by
    obtain ⟨a', n', c', q1, q2, q3, q4⟩ := hrd
    exact ⟨a', n', c', q1, q2, fun b off e => ⟨(q3 b off e).1, by have := (q3 b off e).2; omega⟩, q4⟩)
  clear hrd
  go_wp2_with fail
  refine (u8_good r bs 0 _ RD1.out (by omega) HR.out).mono ?_
  rintro e w2 ⟨rfl, hg⟩
  rw [be_one bs 0 (by omega)]
  obtain ⟨k0, hk0⟩ : ∃ k0, bs.getD 0 0 = k0 := ⟨_, rfl⟩
  have HK0 := hd hk0
  rw [hk0]
  clear hk0
  have S1 : Hid (∀ w3, Below (w2.heap.size + 1) (w2.alloc (.cells #[.int .i64 k0, .int .i64 0, .int .i64 0, .int .i64 0, .int .i64 0, .int .i64 0, .int .i64 0, .int .i64 0, .int .i64 0, .int .i64 0, .int .i64 0, .int .i64 0, .int .i64 0, .int .i64 0] 52)) w3 →
      RS w (w3.alloc (.cells #[.int .u16 (nmP k0), .bool false] 79)) rb r w2.heap.size w3.heap.size (nmP k0) bs (valsTo (nmP k0) bs 0) (posAt (nmP k0) 0)) := fun w3 b3 => by
    have hw1 := HV.out.below b1
    have hr3 := hg.2.size
    have hw2 := hw1.but hg.2 (by omega)
    have hl2 := (HL.out.below b1 (by omega)).but hg.2 (by omega)
    have bb : Below w2.heap.size w2 (w3.alloc (.cells #[.int .u16 (nmP k0), .bool false] 79)) := by
      have b4 : Below w2.heap.size w2 w3 := ((Below.refl _ _).alloc (Nat.le_refl _) _).trans (b3.mono (by omega))
      exact b4.alloc b4.size _
    have bs3 := b3.size
    simp at bs3
    have hv2 : VB (w2.alloc (.cells #[.int .i64 k0, .int .i64 0, .int .i64 0, .int .i64 0, .int .i64 0, .int .i64 0, .int .i64 0, .int .i64 0, .int .i64 0, .int .i64 0, .int .i64 0, .int .i64 0, .int .i64 0, .int .i64 0] 52)) w2.heap.size (valsTo (nmP k0) bs 0) := by
      refine (heap_alloc_new _ _).trans ?_
      rw [← HK0.out]
      simp [valsTo]
    have hv3 : VB w3 w2.heap.size (valsTo (nmP k0) bs 0) := (b3.block _ (by omega)).trans hv2
    have hrd := hg.1
    rw [Nat.zero_add] at hrd
    rw [← hrb]
    exact ⟨hw2.below bb, hv3.below ((Below.refl _ _).alloc (Nat.le_refl _) _), heap_alloc_new _ _, hl2.below bb (by have := hl2.lt; omega), by simpa [posAt] using hrd.below bb, (BZ.out.trans ((b1.mono (by omega)).trans (hg.2.below (by have := b1.size; omega) (by omega)))).trans (bb.mono (by have := b1.size; omega)), hl0, Nat.le_refl _, by omega, by omega, by omega⟩
  clear hg
  have h00 : (w2.alloc (.cells #[.int .i64 k0, .int .i64 0, .int .i64 0, .int .i64 0, .int .i64 0, .int .i64 0, .int .i64 0, .int .i64 0, .int .i64 0, .int .i64 0, .int .i64 0, .int .i64 0, .int .i64 0, .int .i64 0] 52)).cell? ⟨w2.heap.size, 0, none⟩ = some (.int .i64 k0) := by simp
  have hsz2 : (w2.alloc (.cells #[.int .i64 k0, .int .i64 0, .int .i64 0, .int .i64 0, .int .i64 0, .int .i64 0, .int .i64 0, .int .i64 0, .int .i64 0, .int .i64 0, .int .i64 0, .int .i64 0, .int .i64 0, .int .i64 0] 52)).heap.size = w2.heap.size + 1 := by simp
  go_wp2_with fail
  generalize w2.alloc (.cells #[.int .i64 k0, .int .i64 0, .int .i64 0, .int .i64 0, .int .i64 0, .int .i64 0, .int .i64 0, .int .i64 0, .int .i64 0, .int .i64 0, .int .i64 0, .int .i64 0, .int .i64 0, .int .i64 0] 52) = w2' at *
  refine (layout_any k0 _).mono ?_
  rintro e w3 ⟨rfl, b3⟩
  rw [hsz2] at b3
  have S2 := hd (S1.out w3 b3)
  clear S1 b3 HV HB HL RD1 b1 hr1 hr2
  generalize w2.heap.size = vb at *
  obtain ⟨nm, hnm⟩ : ∃ nm, nmP k0 = nm := ⟨_, rfl⟩
  have HNM : Hid (nmP (bs.getD 0 0) = nm) := hd (by rw [HK0.out]; exact hnm)
  rw [hnm] at S2
  rw [hnm]
  have hcase : nm = 16128 := by rw [← hnm, ← HK0.out]; exact HKD.out
  clear hnm
  obtain ⟨l0, l1⟩ := S2.out.l.at
  have hnz : ¬ (nm : Int) = 0 := by omega
  have HNZ : Hid (nmP (bs.getD 0 0) ≠ 0) := hd (by rw [HNM.out]; omega)
  have HCASE := hd hcase
  clear hcase
  go_wp2_with fail
  generalize w3.alloc (.cells #[.int .u16 nm, .bool false] 79) = w4 at *
  generalize w3.heap.size = lb at *
  have S3 := S2
  clear S2
  have hcase := HCASE.out
  subst hcase
  refine (size_edit _).mono ?_
  rintro e w5 ⟨rfl, b5⟩
  have S4 := hd (S3.out.below b5)
  clear S3 b5 l0 l1
  by_cases hne2 : n = 9
  · have hi2 : (n : Int) = 9 := by omega
    have HSZ : Hid (bs.length = sizeP (nmP (bs.getD 0 0))) := hd (by rw [HNM.out, size_16128]; omega)
    have HSZ2 : Hid (bs.length = sizeP 16128) := hd (by rw [size_16128]; omega)
    obtain ⟨nm, hnm2⟩ : ∃ nm, nm = 16128 := ⟨_, rfl⟩
    rw [← hnm2] at S4 HNM HSZ2
    have hs : nm = 2 ∨ nm = 16128 := by omega
    clear hnm2
    have S6 : Hid (RS w w5 rb r vb lb nm bs (valsTo nm bs 0) (posAt nm 0) ∧ goodTo nm bs 0) := ⟨S4.out, goodTo_zero nm bs⟩
    clear S4
    go_wp2_with fail
    go_loopw [39] (fun i wr => ∃ k : Nat, k ≤ 14 ∧ i = .int .i64 k ∧ Hid (RS w wr rb r vb lb nm bs (valsTo nm bs k) (posAt nm k) ∧ goodTo nm bs k)) (fun i _ => 14 - (intOf i).toNat)
    case atStart => exact ⟨0, Nat.zero_le _, rfl, S6⟩
    case round =>
      obtain ⟨k, hk, rfl, hr⟩ := hrel
      clear S6
      by_cases hlt : k < 14
      · obtain ⟨l0, l1⟩ := hr.out.1.l.at
        have i1 : (k : Int) < 14 := by omega
        go_wp2_with fail
        refine (has_any nm k _ (by omega) hlt).mono ?_
        rintro e w5 ⟨rfl, hw5⟩
        subst hw5
        obtain ⟨b1, hb1⟩ : ∃ b, hasP nm k = b := ⟨_, rfl⟩
        have H1 := hd hb1
        rw [hb1]
        clear hb1
        cases b1 with
        | false =>
          have Z : Hid (RS w w5 rb r vb lb nm bs (valsTo nm bs (k + 1)) (posAt nm (k + 1)) ∧ goodTo nm bs (k + 1)) := by
            refine ⟨?_, goodTo_succ hr.out.2 (fun h => absurd h (by rw [H1.out]; decide))⟩
            rw [valsTo_skip nm bs k H1.out, posAt_succ]
            simpa [wdt, H1.out] using hr.out.1
          clear hr
          go_wp2
          exact ⟨⟨k + 1, by omega, by go_num, Z⟩, by simp [intOf]; omega⟩
        | true =>
          have hk0' : k ≠ 0 := by
            rintro rfl
            have := H1.out
            rw [hasP_zero nm hs] at this
            exact absurd this (by decide)
          have hp1 : posAt nm (k + 1) ≤ bs.length := by rw [HSZ2.out]; exact posAt_mono nm (by omega)
          rw [posAt_succ] at hp1
          have S5 := hd hr.out.1
          go_wp2_with fail
          refine (at_any r bs (posAt nm k) false _ S5.out.rd).mono ?_
          rintro e w6 ⟨rfl, hw6⟩
          subst hw6
          go_wp2_with fail
          obtain ⟨b3, hb3⟩ : ∃ b, hasP 1512 k = b := ⟨_, rfl⟩
          have H3 := hd hb3
          have hw3 : wdt nm k = if b3 then 2 else 1 := by simp [wdt, H1.out, H3.out]
          rw [hw3] at hp1
          clear hb3 hw3
          cases b3 with
          | true =>
            simp only [if_true] at hp1
            refine (getter_any r k _ hlt).mono ?_
            rintro e w6 ⟨rfl, hw6⟩
            subst hw6
            rw [H3.out]
            go_wp2_with fail
            refine (u16_good r bs (posAt nm k) _ S5.out.rd (by omega) HR.out).mono ?_
            rintro e w7 ⟨rfl, hg⟩
            rw [be_two bs (posAt nm k) (by omega)]
            have S7 := hd (S5.out.good hg)
            clear hg S5
            obtain ⟨x, hx⟩ : ∃ x, fldV nm bs k = x := ⟨_, rfl⟩
            have hx' : bs.getD (posAt nm k) 0 * 256 + bs.getD (posAt nm k + 1) 0 = x := by rw [← hx]; simp [fldV, hk0', H1.out, H3.out]
            rw [hx']
            have HX := hd hx
            clear hx hx'
            have cv := S7.out.v.at k hlt
            have cf := S7.out.v.frozen k
            have S8 : Hid (RS w (w7.setCell ⟨vb, k, none⟩ (.int .i64 x)) rb r vb lb nm bs (valsTo nm bs (k + 1)) (posAt nm (k + 1))) := hd (by
              have h := S7.out.set k hlt x
              rw [valsTo_step nm bs k hk0', HX.out, posAt_succ]
              simpa [wdt, H1.out, H3.out] using h)
            clear S7
            have v0 := S8.out.v.at 0 (by omega)
            have v1 := S8.out.v.at 1 (by omega)
            have v2 := S8.out.v.at 2 (by omega)
            have v3 := S8.out.v.at 3 (by omega)
            have v4 := S8.out.v.at 4 (by omega)
            have v5 := S8.out.v.at 5 (by omega)
            have v6 := S8.out.v.at 6 (by omega)
            have v7 := S8.out.v.at 7 (by omega)
            have v8 := S8.out.v.at 8 (by omega)
            have v9 := S8.out.v.at 9 (by omega)
            have v10 := S8.out.v.at 10 (by omega)
            have v11 := S8.out.v.at 11 (by omega)
            have v12 := S8.out.v.at 12 (by omega)
            have v13 := S8.out.v.at 13 (by omega)
            obtain ⟨l0, l1⟩ := S8.out.l.at
            go_wp2_with fail
            generalize w7.setCell ⟨vb, k, none⟩ (.int .i64 x) = w8 at *
            refine (allows_any nm k (valsTo nm bs (k + 1)) _ hs hlt S8.out.lim).mono ?_
            rintro e w10 ⟨rfl, b10⟩
            have S10 := hd (S8.out.below b10)
            clear S8 b10 l0 l1 v0 v1 v2 v3 v4 v5 v6 v7 v8 v9 v10 v11 v12 v13
            obtain ⟨b4, hb4⟩ : ∃ b, allowsP nm (valsTo nm bs (k + 1)) k = b := ⟨_, rfl⟩
            have H4 := hd hb4
            rw [hb4]
            clear hb4
            cases b4 with
            | false =>
              go_wp2_with fail
              refine (wrap_new (posAt nm k) 63 _).mono ?_
              rintro e w9 ⟨v, rfl, hF, b9, hb⟩
              have S9 := S10.out.below b9
              have c0 := S9.res.at 0 (by omega)
              have g0 := S9.res.frozen 0
              have c1 := S9.res.at 1 (by omega)
              have g1 := S9.res.frozen 1
              have c2 := S9.res.at 2 (by omega)
              have g2 := S9.res.frozen 2
              have c3 := S9.res.at 3 (by omega)
              have g3 := S9.res.frozen 3
              have c4 := S9.res.at 4 (by omega)
              have g4 := S9.res.frozen 4
              have c5 := S9.res.at 5 (by omega)
              have g5 := S9.res.frozen 5
              have c6 := S9.res.at 6 (by omega)
              have g6 := S9.res.frozen 6
              have c7 := S9.res.at 7 (by omega)
              have g7 := S9.res.frozen 7
              have c8 := S9.res.at 8 (by omega)
              have g8 := S9.res.frozen 8
              have c9 := S9.res.at 9 (by omega)
              have g9 := S9.res.frozen 9
              have c10 := S9.res.at 10 (by omega)
              have g10 := S9.res.frozen 10
              have c11 := S9.res.at 11 (by omega)
              have g11 := S9.res.frozen 11
              have c12 := S9.res.at 12 (by omega)
              have g12 := S9.res.frozen 12
              have c13 := S9.res.at 13 (by omega)
              have g13 := S9.res.frozen 13
              obtain ⟨A1, A2⟩ := S9.res.all (fun _ => 0)
              have R : Hid (Below w.heap.size w ((((((((((((((w9.setCell ⟨rb, 0, none⟩ (.int .i64 0)).setCell ⟨rb, 1, none⟩ (.int .i64 0)).setCell ⟨rb, 2, none⟩ (.int .i64 0)).setCell ⟨rb, 3, none⟩ (.int .i64 0)).setCell ⟨rb, 4, none⟩ (.int .i64 0)).setCell ⟨rb, 5, none⟩ (.int .i64 0)).setCell ⟨rb, 6, none⟩ (.int .i64 0)).setCell ⟨rb, 7, none⟩ (.int .i64 0)).setCell ⟨rb, 8, none⟩ (.int .i64 0)).setCell ⟨rb, 9, none⟩ (.int .i64 0)).setCell ⟨rb, 10, none⟩ (.int .i64 0)).setCell ⟨rb, 11, none⟩ (.int .i64 0)).setCell ⟨rb, 12, none⟩ (.int .i64 0)).setCell ⟨rb, 13, none⟩ (.int .i64 0)) ∧ IsF ((((((((((((((w9.setCell ⟨rb, 0, none⟩ (.int .i64 0)).setCell ⟨rb, 1, none⟩ (.int .i64 0)).setCell ⟨rb, 2, none⟩ (.int .i64 0)).setCell ⟨rb, 3, none⟩ (.int .i64 0)).setCell ⟨rb, 4, none⟩ (.int .i64 0)).setCell ⟨rb, 5, none⟩ (.int .i64 0)).setCell ⟨rb, 6, none⟩ (.int .i64 0)).setCell ⟨rb, 7, none⟩ (.int .i64 0)).setCell ⟨rb, 8, none⟩ (.int .i64 0)).setCell ⟨rb, 9, none⟩ (.int .i64 0)).setCell ⟨rb, 10, none⟩ (.int .i64 0)).setCell ⟨rb, 11, none⟩ (.int .i64 0)).setCell ⟨rb, 12, none⟩ (.int .i64 0)).setCell ⟨rb, 13, none⟩ (.int .i64 0)) v (posAt nm k) 63) := ⟨S9.bel.trans (A2.below S9.bel.size S9.o1), hF.but A2 (u := w10) (block_lt S10.out.res) hb⟩
              have q0 := A1.at 0 (by omega)
              have q1 := A1.at 1 (by omega)
              have q2 := A1.at 2 (by omega)
              have q3 := A1.at 3 (by omega)
              have q4 := A1.at 4 (by omega)
              have q5 := A1.at 5 (by omega)
              have q6 := A1.at 6 (by omega)
              have q7 := A1.at 7 (by omega)
              have q8 := A1.at 8 (by omega)
              have q9 := A1.at 9 (by omega)
              have q10 := A1.at 10 (by omega)
              have q11 := A1.at 11 (by omega)
              have q12 := A1.at 12 (by omega)
              have q13 := A1.at 13 (by omega)
              clear hF b9 hb S9 A1 A2
              go_wp2
              refine bodyPost_ret (v := .tuple #[.agg #[.int .i64 0, .int .i64 0, .int .i64 0, .int .i64 0, .int .i64 0, .int .i64 0, .int .i64 0, .int .i64 0, .int .i64 0, .int .i64 0, .int .i64 0, .int .i64 0, .int .i64 0, .int .i64 0], v]) (by simp [results, Tryd.results23, go_sem, q0, q1, q2, q3, q4, q5, q6, q7, q8, q9, q10, q11, q12, q13]) rfl ?_
              exact HQ.out _ _ ⟨R.out.1, .inr (.inr (.inr (.inl ⟨hne, HNZ.out, HSZ.out, k, hlt, by rw [HNM.out]; exact hr.out.2, by rw [HNM.out]; exact H1.out, by rw [HNM.out]; exact H4.out, v, rfl, by rw [HNM.out]; exact R.out.2⟩)))⟩
            | true =>
              have Z : Hid (RS w w10 rb r vb lb nm bs (valsTo nm bs (k + 1)) (posAt nm (k + 1)) ∧ goodTo nm bs (k + 1)) := ⟨S10.out, goodTo_succ hr.out.2 (fun _ => H4.out)⟩
              clear S10 hr
              go_wp2
              exact ⟨⟨k + 1, by omega, by go_num, Z⟩, by simp [intOf]; omega⟩
          | false =>
            simp only [Bool.false_eq_true, if_false] at hp1
            refine (getter_any r k _ hlt).mono ?_
            rintro e w6 ⟨rfl, hw6⟩
            subst hw6
            rw [H3.out]
            go_wp2_with fail
            refine (u8_good r bs (posAt nm k) _ S5.out.rd (by omega) HR.out).mono ?_
            rintro e w7 ⟨rfl, hg⟩
            rw [be_one bs (posAt nm k) (by omega)]
            have S7 := hd (S5.out.good hg)
            clear hg S5
            obtain ⟨x, hx⟩ : ∃ x, fldV nm bs k = x := ⟨_, rfl⟩
            have hx' : bs.getD (posAt nm k) 0 = x := by rw [← hx]; simp [fldV, hk0', H1.out, H3.out]
            rw [hx']
            have HX := hd hx
            clear hx hx'
            have cv := S7.out.v.at k hlt
            have cf := S7.out.v.frozen k
            have S8 : Hid (RS w (w7.setCell ⟨vb, k, none⟩ (.int .i64 x)) rb r vb lb nm bs (valsTo nm bs (k + 1)) (posAt nm (k + 1))) := hd (by
              have h := S7.out.set k hlt x
              rw [valsTo_step nm bs k hk0', HX.out, posAt_succ]
              simpa [wdt, H1.out, H3.out] using h)
            clear S7
            have v0 := S8.out.v.at 0 (by omega)
            have v1 := S8.out.v.at 1 (by omega)
            have v2 := S8.out.v.at 2 (by omega)
            have v3 := S8.out.v.at 3 (by omega)
            have v4 := S8.out.v.at 4 (by omega)
            have v5 := S8.out.v.at 5 (by omega)
            have v6 := S8.out.v.at 6 (by omega)
            have v7 := S8.out.v.at 7 (by omega)
            have v8 := S8.out.v.at 8 (by omega)
            have v9 := S8.out.v.at 9 (by omega)
            have v10 := S8.out.v.at 10 (by omega)
            have v11 := S8.out.v.at 11 (by omega)
            have v12 := S8.out.v.at 12 (by omega)
            have v13 := S8.out.v.at 13 (by omega)
            obtain ⟨l0, l1⟩ := S8.out.l.at
            go_wp2_with fail
            generalize w7.setCell ⟨vb, k, none⟩ (.int .i64 x) = w8 at *
            refine (allows_any nm k (valsTo nm bs (k + 1)) _ hs hlt S8.out.lim).mono ?_
            rintro e w10 ⟨rfl, b10⟩
            have S10 := hd (S8.out.below b10)
            clear S8 b10 l0 l1 v0 v1 v2 v3 v4 v5 v6 v7 v8 v9 v10 v11 v12 v13
            obtain ⟨b4, hb4⟩ : ∃ b, allowsP nm (valsTo nm bs (k + 1)) k = b := ⟨_, rfl⟩
            have H4 := hd hb4
            rw [hb4]
            clear hb4
            cases b4 with
            | false =>
              go_wp2_with fail
              refine (wrap_new (posAt nm k) 63 _).mono ?_
              rintro e w9 ⟨v, rfl, hF, b9, hb⟩
              have S9 := S10.out.below b9
              have c0 := S9.res.at 0 (by omega)
              have g0 := S9.res.frozen 0
              have c1 := S9.res.at 1 (by omega)
              have g1 := S9.res.frozen 1
              have c2 := S9.res.at 2 (by omega)
              have g2 := S9.res.frozen 2
              have c3 := S9.res.at 3 (by omega)
              have g3 := S9.res.frozen 3
              have c4 := S9.res.at 4 (by omega)
              have g4 := S9.res.frozen 4
              have c5 := S9.res.at 5 (by omega)
              have g5 := S9.res.frozen 5
              have c6 := S9.res.at 6 (by omega)
              have g6 := S9.res.frozen 6
              have c7 := S9.res.at 7 (by omega)
              have g7 := S9.res.frozen 7
              have c8 := S9.res.at 8 (by omega)
              have g8 := S9.res.frozen 8
              have c9 := S9.res.at 9 (by omega)
              have g9 := S9.res.frozen 9
              have c10 := S9.res.at 10 (by omega)
              have g10 := S9.res.frozen 10
              have c11 := S9.res.at 11 (by omega)
              have g11 := S9.res.frozen 11
              have c12 := S9.res.at 12 (by omega)
              have g12 := S9.res.frozen 12
              have c13 := S9.res.at 13 (by omega)
              have g13 := S9.res.frozen 13
              obtain ⟨A1, A2⟩ := S9.res.all (fun _ => 0)
              have R : Hid (Below w.heap.size w ((((((((((((((w9.setCell ⟨rb, 0, none⟩ (.int .i64 0)).setCell ⟨rb, 1, none⟩ (.int .i64 0)).setCell ⟨rb, 2, none⟩ (.int .i64 0)).setCell ⟨rb, 3, none⟩ (.int .i64 0)).setCell ⟨rb, 4, none⟩ (.int .i64 0)).setCell ⟨rb, 5, none⟩ (.int .i64 0)).setCell ⟨rb, 6, none⟩ (.int .i64 0)).setCell ⟨rb, 7, none⟩ (.int .i64 0)).setCell ⟨rb, 8, none⟩ (.int .i64 0)).setCell ⟨rb, 9, none⟩ (.int .i64 0)).setCell ⟨rb, 10, none⟩ (.int .i64 0)).setCell ⟨rb, 11, none⟩ (.int .i64 0)).setCell ⟨rb, 12, none⟩ (.int .i64 0)).setCell ⟨rb, 13, none⟩ (.int .i64 0)) ∧ IsF ((((((((((((((w9.setCell ⟨rb, 0, none⟩ (.int .i64 0)).setCell ⟨rb, 1, none⟩ (.int .i64 0)).setCell ⟨rb, 2, none⟩ (.int .i64 0)).setCell ⟨rb, 3, none⟩ (.int .i64 0)).setCell ⟨rb, 4, none⟩ (.int .i64 0)).setCell ⟨rb, 5, none⟩ (.int .i64 0)).setCell ⟨rb, 6, none⟩ (.int .i64 0)).setCell ⟨rb, 7, none⟩ (.int .i64 0)).setCell ⟨rb, 8, none⟩ (.int .i64 0)).setCell ⟨rb, 9, none⟩ (.int .i64 0)).setCell ⟨rb, 10, none⟩ (.int .i64 0)).setCell ⟨rb, 11, none⟩ (.int .i64 0)).setCell ⟨rb, 12, none⟩ (.int .i64 0)).setCell ⟨rb, 13, none⟩ (.int .i64 0)) v (posAt nm k) 63) := ⟨S9.bel.trans (A2.below S9.bel.size S9.o1), hF.but A2 (u := w10) (block_lt S10.out.res) hb⟩
              have q0 := A1.at 0 (by omega)
              have q1 := A1.at 1 (by omega)
              have q2 := A1.at 2 (by omega)
              have q3 := A1.at 3 (by omega)
              have q4 := A1.at 4 (by omega)
              have q5 := A1.at 5 (by omega)
              have q6 := A1.at 6 (by omega)
              have q7 := A1.at 7 (by omega)
              have q8 := A1.at 8 (by omega)
              have q9 := A1.at 9 (by omega)
              have q10 := A1.at 10 (by omega)
              have q11 := A1.at 11 (by omega)
              have q12 := A1.at 12 (by omega)
              have q13 := A1.at 13 (by omega)
              clear hF b9 hb S9 A1 A2
              go_wp2
              refine bodyPost_ret (v := .tuple #[.agg #[.int .i64 0, .int .i64 0, .int .i64 0, .int .i64 0, .int .i64 0, .int .i64 0, .int .i64 0, .int .i64 0, .int .i64 0, .int .i64 0, .int .i64 0, .int .i64 0, .int .i64 0, .int .i64 0], v]) (by simp [results, Tryd.results23, go_sem, q0, q1, q2, q3, q4, q5, q6, q7, q8, q9, q10, q11, q12, q13]) rfl ?_
              exact HQ.out _ _ ⟨R.out.1, .inr (.inr (.inr (.inl ⟨hne, HNZ.out, HSZ.out, k, hlt, by rw [HNM.out]; exact hr.out.2, by rw [HNM.out]; exact H1.out, by rw [HNM.out]; exact H4.out, v, rfl, by rw [HNM.out]; exact R.out.2⟩)))⟩
            | true =>
              have Z : Hid (RS w w10 rb r vb lb nm bs (valsTo nm bs (k + 1)) (posAt nm (k + 1)) ∧ goodTo nm bs (k + 1)) := ⟨S10.out, goodTo_succ hr.out.2 (fun _ => H4.out)⟩
              clear S10 hr
              go_wp2
              exact ⟨⟨k + 1, by omega, by go_num, Z⟩, by simp [intOf]; omega⟩
      · obtain rfl : k = 14 := by omega
        have S9 := hr.out.1
        have c0 := S9.res.at 0 (by omega)
        have g0 := S9.res.frozen 0
        have v0 := S9.v.at 0 (by omega)
        have c1 := S9.res.at 1 (by omega)
        have g1 := S9.res.frozen 1
        have v1 := S9.v.at 1 (by omega)
        have c2 := S9.res.at 2 (by omega)
        have g2 := S9.res.frozen 2
        have v2 := S9.v.at 2 (by omega)
        have c3 := S9.res.at 3 (by omega)
        have g3 := S9.res.frozen 3
        have v3 := S9.v.at 3 (by omega)
        have c4 := S9.res.at 4 (by omega)
        have g4 := S9.res.frozen 4
        have v4 := S9.v.at 4 (by omega)
        have c5 := S9.res.at 5 (by omega)
        have g5 := S9.res.frozen 5
        have v5 := S9.v.at 5 (by omega)
        have c6 := S9.res.at 6 (by omega)
        have g6 := S9.res.frozen 6
        have v6 := S9.v.at 6 (by omega)
        have c7 := S9.res.at 7 (by omega)
        have g7 := S9.res.frozen 7
        have v7 := S9.v.at 7 (by omega)
        have c8 := S9.res.at 8 (by omega)
        have g8 := S9.res.frozen 8
        have v8 := S9.v.at 8 (by omega)
        have c9 := S9.res.at 9 (by omega)
        have g9 := S9.res.frozen 9
        have v9 := S9.v.at 9 (by omega)
        have c10 := S9.res.at 10 (by omega)
        have g10 := S9.res.frozen 10
        have v10 := S9.v.at 10 (by omega)
        have c11 := S9.res.at 11 (by omega)
        have g11 := S9.res.frozen 11
        have v11 := S9.v.at 11 (by omega)
        have c12 := S9.res.at 12 (by omega)
        have g12 := S9.res.frozen 12
        have v12 := S9.v.at 12 (by omega)
        have c13 := S9.res.at 13 (by omega)
        have g13 := S9.res.frozen 13
        have v13 := S9.v.at 13 (by omega)
        obtain ⟨A1, A2⟩ := S9.res.all (valsTo nm bs 14)
        have R : Hid (Below w.heap.size w ((((((((((((((wr.setCell ⟨rb, 0, none⟩ (.int .i64 ((valsTo nm bs 14) 0))).setCell ⟨rb, 1, none⟩ (.int .i64 ((valsTo nm bs 14) 1))).setCell ⟨rb, 2, none⟩ (.int .i64 ((valsTo nm bs 14) 2))).setCell ⟨rb, 3, none⟩ (.int .i64 ((valsTo nm bs 14) 3))).setCell ⟨rb, 4, none⟩ (.int .i64 ((valsTo nm bs 14) 4))).setCell ⟨rb, 5, none⟩ (.int .i64 ((valsTo nm bs 14) 5))).setCell ⟨rb, 6, none⟩ (.int .i64 ((valsTo nm bs 14) 6))).setCell ⟨rb, 7, none⟩ (.int .i64 ((valsTo nm bs 14) 7))).setCell ⟨rb, 8, none⟩ (.int .i64 ((valsTo nm bs 14) 8))).setCell ⟨rb, 9, none⟩ (.int .i64 ((valsTo nm bs 14) 9))).setCell ⟨rb, 10, none⟩ (.int .i64 ((valsTo nm bs 14) 10))).setCell ⟨rb, 11, none⟩ (.int .i64 ((valsTo nm bs 14) 11))).setCell ⟨rb, 12, none⟩ (.int .i64 ((valsTo nm bs 14) 12))).setCell ⟨rb, 13, none⟩ (.int .i64 ((valsTo nm bs 14) 13))) ∧ goodTo nm bs 14) := ⟨S9.bel.trans (A2.below S9.bel.size S9.o1), hr.out.2⟩
        have q0 := A1.at 0 (by omega)
        have q1 := A1.at 1 (by omega)
        have q2 := A1.at 2 (by omega)
        have q3 := A1.at 3 (by omega)
        have q4 := A1.at 4 (by omega)
        have q5 := A1.at 5 (by omega)
        have q6 := A1.at 6 (by omega)
        have q7 := A1.at 7 (by omega)
        have q8 := A1.at 8 (by omega)
        have q9 := A1.at 9 (by omega)
        have q10 := A1.at 10 (by omega)
        have q11 := A1.at 11 (by omega)
        have q12 := A1.at 12 (by omega)
        have q13 := A1.at 13 (by omega)
        clear hr S9 A1 A2
        generalize hVV : valsTo nm bs 14 = VV at *
        have HVV := hd hVV
        clear hVV
        go_wp2
        refine bodyPost_ret (v := .tuple #[.agg #[.int .i64 (VV 0), .int .i64 (VV 1), .int .i64 (VV 2), .int .i64 (VV 3), .int .i64 (VV 4), .int .i64 (VV 5), .int .i64 (VV 6), .int .i64 (VV 7), .int .i64 (VV 8), .int .i64 (VV 9), .int .i64 (VV 10), .int .i64 (VV 11), .int .i64 (VV 12), .int .i64 (VV 13)], .nilIface]) (by simp [results, Tryd.results23, go_sem, q0, q1, q2, q3, q4, q5, q6, q7, q8, q9, q10, q11, q12, q13]) rfl ?_
        refine HQ.out _ _ ⟨R.out.1, .inr (.inr (.inr (.inr ⟨hne, HNZ.out, HSZ.out, by rw [HNM.out]; exact R.out.2, ?_⟩)))⟩
        rw [HNM.out, HVV.out]
  · have hi2 : ¬ (n : Int) = 9 := by omega
    go_wp2_with fail
    refine (wrap_new n 62 _).mono ?_
    rintro e w9 ⟨v, rfl, hF, b9, hb⟩
    have S9 := S4.out.below b9
    have c0 := S9.res.at 0 (by omega)
    have g0 := S9.res.frozen 0
    have c1 := S9.res.at 1 (by omega)
    have g1 := S9.res.frozen 1
    have c2 := S9.res.at 2 (by omega)
    have g2 := S9.res.frozen 2
    have c3 := S9.res.at 3 (by omega)
    have g3 := S9.res.frozen 3
    have c4 := S9.res.at 4 (by omega)
    have g4 := S9.res.frozen 4
    have c5 := S9.res.at 5 (by omega)
    have g5 := S9.res.frozen 5
    have c6 := S9.res.at 6 (by omega)
    have g6 := S9.res.frozen 6
    have c7 := S9.res.at 7 (by omega)
    have g7 := S9.res.frozen 7
    have c8 := S9.res.at 8 (by omega)
    have g8 := S9.res.frozen 8
    have c9 := S9.res.at 9 (by omega)
    have g9 := S9.res.frozen 9
    have c10 := S9.res.at 10 (by omega)
    have g10 := S9.res.frozen 10
    have c11 := S9.res.at 11 (by omega)
    have g11 := S9.res.frozen 11
    have c12 := S9.res.at 12 (by omega)
    have g12 := S9.res.frozen 12
    have c13 := S9.res.at 13 (by omega)
    have g13 := S9.res.frozen 13
    obtain ⟨A1, A2⟩ := S9.res.all (fun _ => 0)
    have R : Hid (Below w.heap.size w ((((((((((((((w9.setCell ⟨rb, 0, none⟩ (.int .i64 0)).setCell ⟨rb, 1, none⟩ (.int .i64 0)).setCell ⟨rb, 2, none⟩ (.int .i64 0)).setCell ⟨rb, 3, none⟩ (.int .i64 0)).setCell ⟨rb, 4, none⟩ (.int .i64 0)).setCell ⟨rb, 5, none⟩ (.int .i64 0)).setCell ⟨rb, 6, none⟩ (.int .i64 0)).setCell ⟨rb, 7, none⟩ (.int .i64 0)).setCell ⟨rb, 8, none⟩ (.int .i64 0)).setCell ⟨rb, 9, none⟩ (.int .i64 0)).setCell ⟨rb, 10, none⟩ (.int .i64 0)).setCell ⟨rb, 11, none⟩ (.int .i64 0)).setCell ⟨rb, 12, none⟩ (.int .i64 0)).setCell ⟨rb, 13, none⟩ (.int .i64 0)) ∧ IsF ((((((((((((((w9.setCell ⟨rb, 0, none⟩ (.int .i64 0)).setCell ⟨rb, 1, none⟩ (.int .i64 0)).setCell ⟨rb, 2, none⟩ (.int .i64 0)).setCell ⟨rb, 3, none⟩ (.int .i64 0)).setCell ⟨rb, 4, none⟩ (.int .i64 0)).setCell ⟨rb, 5, none⟩ (.int .i64 0)).setCell ⟨rb, 6, none⟩ (.int .i64 0)).setCell ⟨rb, 7, none⟩ (.int .i64 0)).setCell ⟨rb, 8, none⟩ (.int .i64 0)).setCell ⟨rb, 9, none⟩ (.int .i64 0)).setCell ⟨rb, 10, none⟩ (.int .i64 0)).setCell ⟨rb, 11, none⟩ (.int .i64 0)).setCell ⟨rb, 12, none⟩ (.int .i64 0)).setCell ⟨rb, 13, none⟩ (.int .i64 0)) v n 62) := ⟨S9.bel.trans (A2.below S9.bel.size S9.o1), hF.but A2 (u := w5) (block_lt S4.out.res) hb⟩
    have q0 := A1.at 0 (by omega)
    have q1 := A1.at 1 (by omega)
    have q2 := A1.at 2 (by omega)
    have q3 := A1.at 3 (by omega)
    have q4 := A1.at 4 (by omega)
    have q5 := A1.at 5 (by omega)
    have q6 := A1.at 6 (by omega)
    have q7 := A1.at 7 (by omega)
    have q8 := A1.at 8 (by omega)
    have q9 := A1.at 9 (by omega)
    have q10 := A1.at 10 (by omega)
    have q11 := A1.at 11 (by omega)
    have q12 := A1.at 12 (by omega)
    have q13 := A1.at 13 (by omega)
    clear hF b9 hb S9 A1 A2
    go_wp2
    refine bodyPost_ret (v := .tuple #[.agg #[.int .i64 0, .int .i64 0, .int .i64 0, .int .i64 0, .int .i64 0, .int .i64 0, .int .i64 0, .int .i64 0, .int .i64 0, .int .i64 0, .int .i64 0, .int .i64 0, .int .i64 0, .int .i64 0], v]) (by simp [results, Tryd.results23, go_sem, q0, q1, q2, q3, q4, q5, q6, q7, q8, q9, q10, q11, q12, q13]) rfl ?_
    exact HQ.out _ _ ⟨R.out.1, .inr (.inr (.inl ⟨hne, HNZ.out, by rw [HNM.out, size_16128]; omega, v, rfl, by rw [HBN.out]; exact R.out.2⟩))⟩

end Go.Proofs.YtibnlfdnnlbeeaaDoor
