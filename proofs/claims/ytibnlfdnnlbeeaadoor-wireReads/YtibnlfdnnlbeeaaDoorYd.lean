/-
  The answer of the document: DecodeItem, walked.
-/
import Derived.Test.YtibnlfdnnlbeeaaDoorYda
import Derived.Deep.DeepCutAuto
namespace Go.Proofs.YtibnlfdnnlbeeaaDoor
open Go.RowKit
set_option linter.unusedVariables false

theorem item_set8 {w : World} {b : Nat} (x0 x1 x2 x3 x4 x5 x6 x7 : Int) (h : w.heap[b]? = some (.cells #[.int .i64 0, .int .i64 0, .int .i64 0, .int .i64 0, .int .i64 0, .int .u8 0, .int .i64 0, .int .i64 0] 26 (0, 0))) :
    ((((((((w.setCell ⟨b, 0, none⟩ (.int .i64 x0)).setCell ⟨b, 1, none⟩ (.int .i64 x1)).setCell ⟨b, 2, none⟩ (.int .i64 x2)).setCell ⟨b, 3, none⟩ (.int .i64 x3)).setCell ⟨b, 4, none⟩ (.int .i64 x4)).setCell ⟨b, 5, none⟩ (.int .u8 x5)).setCell ⟨b, 6, none⟩ (.int .i64 x6)).setCell ⟨b, 7, none⟩ (.int .i64 x7)).heap[b]? = some (.cells #[.int .i64 x0, .int .i64 x1, .int .i64 x2, .int .i64 x3, .int .i64 x4, .int .u8 x5, .int .i64 x6, .int .i64 x7] 26 (0, 0)) ∧ But b w ((((((((w.setCell ⟨b, 0, none⟩ (.int .i64 x0)).setCell ⟨b, 1, none⟩ (.int .i64 x1)).setCell ⟨b, 2, none⟩ (.int .i64 x2)).setCell ⟨b, 3, none⟩ (.int .i64 x3)).setCell ⟨b, 4, none⟩ (.int .i64 x4)).setCell ⟨b, 5, none⟩ (.int .u8 x5)).setCell ⟨b, 6, none⟩ (.int .i64 x6)).setCell ⟨b, 7, none⟩ (.int .i64 x7)) := by
  constructor
  · have h0 := set_row h 0 (.int .i64 x0)
    have h1 := set_row h0 1 (.int .i64 x1)
    have h2 := set_row h1 2 (.int .i64 x2)
    have h3 := set_row h2 3 (.int .i64 x3)
    have h4 := set_row h3 4 (.int .i64 x4)
    have h5 := set_row h4 5 (.int .u8 x5)
    have h6 := set_row h5 6 (.int .i64 x6)
    have h7 := set_row h6 7 (.int .i64 x7)
    refine h7.trans ?_
    simp
  · exact (((((((But.setCell b _ 0 _).trans (But.setCell b _ 1 _)).trans (But.setCell b _ 2 _)).trans (But.setCell b _ 3 _)).trans (But.setCell b _ 4 _)).trans (But.setCell b _ 5 _)).trans (But.setCell b _ 6 _)).trans (But.setCell b _ 7 _)

set_option maxRecDepth 100000 in
set_option maxHeartbeats 8000000 in
theorem rdecode_any (a : Option Addr) (n c : Nat) (bs : List Int) (w : World) (hB : IsB w a n c bs) (hR : Rng bs) (hn : n ≤ 140737488351232) : Calls Tryd.prog 15 #[.slice a n c] w (RDecO w bs) := by
  suffices h : ∀ Q : Ending → World → Prop, (∀ e w', RDecO w bs e w' → Q e w') → Calls Tryd.prog 15 #[.slice a n c] w Q from h _ (fun _ _ h => h)
  intro Q hQ
  have HQ := hd hQ
  have bz : Below w.heap.size w (w.alloc (.cells #[.int .i64 0, .int .i64 0, .int .i64 0, .int .i64 0, .int .i64 0, .int .u8 0, .int .i64 0, .int .i64 0] 26)) := (Below.refl _ _).alloc (Nat.le_refl _) _
  have hi := heap_alloc_new w (.cells #[.int .i64 0, .int .i64 0, .int .i64 0, .int .i64 0, .int .i64 0, .int .u8 0, .int .i64 0, .int .i64 0] 26)
  have BZ := hd bz
  have HI := hd hi
  have HB := hd (hB.below bz)
  have HR := hd hR
  have hbn := hB.1
  have HBN := hd hbn
  clear hQ bz hi hB hR
  go_enter Tryd.func15, Tryd.ntmps15
  by_cases hz : n = 0
  · subst hz
    obtain rfl : bs = [] := List.eq_nil_of_length_eq_zero hbn
    go_wp2
    refine bodyPost_ret (v := .tuple #[.agg #[.int .i64 0, .int .i64 0, .int .i64 0, .int .i64 0, .int .i64 0, .int .u8 0, .int .i64 0, .int .i64 0], .int .i64 62, .int .i64 0]) (by simp [results, Tryd.results15, go_sem]) rfl ?_
    exact HQ.out _ _ ⟨fun _ => 0, 62, 0, rfl, .inl ⟨rfl, rfl, rfl, rfl⟩, ⟨Int.le_refl 0, by simp⟩, BZ.out⟩
  · have hz' : ¬ (n : Int) = 0 := by omega
    have hne : bs ≠ [] := by rintro rfl; simp at hbn; omega
    obtain ⟨bb, off, rfl, hbb, hcells⟩ := HB.out.2.2.2 (by omega)
    have hc0 := hcells 0 (by omega)
    rw [Nat.add_zero] at hc0
    have hc0' : (w.alloc (.cells #[.int .i64 0, .int .i64 0, .int .i64 0, .int .i64 0, .int .i64 0, .int .u8 0, .int .i64 0, .int .i64 0] 26)).cell? ⟨bb, off, none⟩ = some (.int .u8 (bs.getD 0 0)) := by rw [hc0]
    have rg := HR.out.get 0
    obtain ⟨k0, hk0⟩ : ∃ k0, bs.getD 0 0 = k0 := ⟨_, rfl⟩
    have HK0 := hd hk0
    rw [hk0] at hc0' rg
    have i1 : (0 : Int) < n := by omega
    clear hc0 hcells hk0
    have HC0 := hd hc0'
    go_wp2_with fail
    generalize w.alloc (.cells #[.int .i64 0, .int .i64 0, .int .i64 0, .int .i64 0, .int .i64 0, .int .u8 0, .int .i64 0, .int .i64 0] 26) = w0 at *
    by_cases hnm : nmP k0 = 0
    · refine (fields_none k0 _ hnm).mono ?_
      rintro e w1 ⟨rfl, hw1⟩
      subst hw1
      have hi1 := HI.out
      have b1 := BZ.out
      obtain ⟨A1, A2⟩ := item_set (V := fun _ => 0) hi1
      have R : Hid (Below w.heap.size w ((((((((w1.setCell ⟨w.heap.size, 0, none⟩ (.int .i64 0)).setCell ⟨w.heap.size, 1, none⟩ (.int .i64 0)).setCell ⟨w.heap.size, 2, none⟩ (.int .i64 0)).setCell ⟨w.heap.size, 3, none⟩ (.int .i64 0)).setCell ⟨w.heap.size, 4, none⟩ (.int .i64 0)).setCell ⟨w.heap.size, 5, none⟩ (.int .u8 0)).setCell ⟨w.heap.size, 6, none⟩ (.int .i64 0)).setCell ⟨w.heap.size, 7, none⟩ (.int .i64 0))) := b1.trans (A2.below b1.size (Nat.le_refl _))
      have e0 := cell_row hi1 0
      simp at e0
      have g0 := frozen_row hi1 0
      have q0 := cell_row A1 0
      simp at q0
      have e1 := cell_row hi1 1
      simp at e1
      have g1 := frozen_row hi1 1
      have q1 := cell_row A1 1
      simp at q1
      have e2 := cell_row hi1 2
      simp at e2
      have g2 := frozen_row hi1 2
      have q2 := cell_row A1 2
      simp at q2
      have e3 := cell_row hi1 3
      simp at e3
      have g3 := frozen_row hi1 3
      have q3 := cell_row A1 3
      simp at q3
      have e4 := cell_row hi1 4
      simp at e4
      have g4 := frozen_row hi1 4
      have q4 := cell_row A1 4
      simp at q4
      have e5 := cell_row hi1 5
      simp at e5
      have g5 := frozen_row hi1 5
      have q5 := cell_row A1 5
      simp at q5
      have e6 := cell_row hi1 6
      simp at e6
      have g6 := frozen_row hi1 6
      have q6 := cell_row A1 6
      simp at q6
      have e7 := cell_row hi1 7
      simp at e7
      have g7 := frozen_row hi1 7
      have q7 := cell_row A1 7
      simp at q7
      clear A1 A2
      go_wp2
      refine bodyPost_ret (v := .tuple #[.agg #[.int .i64 0, .int .i64 0, .int .i64 0, .int .i64 0, .int .i64 0, .int .u8 0, .int .i64 0, .int .i64 0], .int .i64 61, .int .i64 0]) (by simp [results, Tryd.results15, go_sem, q0, q1, q2, q3, q4, q5, q6, q7]) rfl ?_
      exact HQ.out _ _ ⟨fun _ => 0, 61, 0, rfl, .inr (.inl ⟨rfl, hne, by rw [HK0.out]; exact hnm, rfl, rfl⟩), ⟨Int.le_refl 0, by simp⟩, R.out⟩
    · refine (fields_some k0 _ hnm).mono ?_
      rintro e w1 ⟨lb, base, len, hK, rfl, hLs, b1⟩
      obtain ⟨nm, hnm'⟩ : ∃ nm, nmP k0 = nm := ⟨_, rfl⟩
      rw [hnm'] at hK hnm
      have HNM : Hid (nmP (bs.getD 0 0) = nm) := hd (by rw [HK0.out]; exact hnm')
      have HKK := hd hK
      have HLs := hd hLs
      have B1 := hd (BZ.out.trans (b1.mono BZ.out.size))
      have I1 := hd ((b1.block _ (block_lt HI.out)).trans HI.out)
      have IB1 := hd (HB.out.below b1)
      have hlz : ¬ (len : Int) = 0 := by rcases hK with ⟨-, -, rfl⟩ | ⟨-, -, rfl⟩ <;> decide
      have hs9 : sizeP nm ≤ 9 ∧ 1 ≤ sizeP nm := by rcases hK with ⟨rfl, -, -⟩ | ⟨rfl, -, -⟩ <;> decide
      have HC1 := hd ((b1.cell (p := ⟨bb, off, none⟩) hbb).trans HC0.out)
      have B01 := hd b1
      clear hnm' hK hLs b1 BZ HI HB HC0 hc0'
      go_wp2_with fail
      refine (length_any nm base len lb _ HKK.out HLs.out).mono ?_
      rintro e w2 ⟨rfl, hw2⟩
      subst hw2
      obtain ⟨sz, hsz⟩ : ∃ sz, sizeP nm = sz := ⟨_, rfl⟩
      have HSZ := hd hsz
      rw [hsz] at hs9
      rw [hsz]
      clear hsz
      go_upto_if 27 with fail
      by_cases hns : n = sz
      · have hcond : ((n : Int) != 1 + ((sz : Int) - 1)) = false := by simp; omega
        rw [hcond]
        have HNS : Hid (n = sizeP nm) := hns.trans HSZ.out.symm
        clear hcond hns
        go_wp2_with fail
        refine (rread_any (some ⟨bb, off, none⟩) n c bs nm base len lb w2 IB1.out HR.out HKK.out HLs.out HNS.out).mono ?_
        rintro e w3 ⟨b3, h3⟩
        have B3 := hd (B1.out.trans (b3.mono B1.out.size))
        have I3 := hd ((b3.block _ (block_lt I1.out)).trans I1.out)
        have C3 := hd ((b3.cell (p := ⟨bb, off, none⟩) (Nat.lt_of_lt_of_le hbb B01.out.size)).trans HC1.out)
        clear b3 B1 I1 HC1 B01 IB1
        obtain ⟨M, hM⟩ : ∃ M, MV (valsTo nm bs (base + len)) = M := ⟨_, rfl⟩
        have HM := hd hM
        rw [hM] at h3
        clear hM
        obtain ⟨w4, hw4⟩ : ∃ u, u = w3.alloc (.cells #[.int .i64 (M 0), .int .i64 (M 1), .int .i64 (M 2), .int .i64 (M 3), .int .i64 (M 4), .int .i64 (M 5), .int .i64 (M 6), .int .i64 (M 7), .int .i64 (M 8), .int .i64 (M 9), .int .i64 (M 10), .int .u8 (M 11), .int .i64 (M 12), .int .i64 (M 13)] 63) := ⟨_, rfl⟩
        have b4 : Below w3.heap.size w3 w4 := by rw [hw4]; exact (Below.refl _ _).alloc (Nat.le_refl _) _
        have X4 : MB w4 w3.heap.size M := by rw [hw4]; exact heap_alloc_new _ _
        have hi1 := (b4.block _ (block_lt I3.out)).trans I3.out
        have b5 := B3.out.trans (b4.mono B3.out.size)
        have c4 := (b4.cell (p := ⟨bb, off, none⟩) (by have := C3.out; exact World.block_lt_of_cell? _ _ this)).trans C3.out
        have hlt4 : bb < w4.heap.size := World.block_lt_of_cell? _ _ c4
        have W4 := hd hw4
        rcases h3 with ⟨hheld, rfl⟩ | ⟨k, hk, hheld, hbad, rfl⟩
        · have HH := hd hheld
          obtain ⟨A1, A2⟩ := item_set8 k0 (M 1) (M 8) (M 9) (M 10) (M 11) (M 12) (M 13) hi1
          have R : Hid (Below w.heap.size w ((((((((w4.setCell ⟨w.heap.size, 0, none⟩ (.int .i64 k0)).setCell ⟨w.heap.size, 1, none⟩ (.int .i64 (M 1))).setCell ⟨w.heap.size, 2, none⟩ (.int .i64 (M 8))).setCell ⟨w.heap.size, 3, none⟩ (.int .i64 (M 9))).setCell ⟨w.heap.size, 4, none⟩ (.int .i64 (M 10))).setCell ⟨w.heap.size, 5, none⟩ (.int .u8 (M 11))).setCell ⟨w.heap.size, 6, none⟩ (.int .i64 (M 12))).setCell ⟨w.heap.size, 7, none⟩ (.int .i64 (M 13)))) := b5.trans (A2.below b5.size (Nat.le_refl _))
          have e0 := cell_row hi1 0
          simp at e0
          have g0 := frozen_row hi1 0
          have q0 := cell_row A1 0
          simp at q0
          have e1 := cell_row hi1 1
          simp at e1
          have g1 := frozen_row hi1 1
          have q1 := cell_row A1 1
          simp at q1
          have e2 := cell_row hi1 2
          simp at e2
          have g2 := frozen_row hi1 2
          have q2 := cell_row A1 2
          simp at q2
          have e3 := cell_row hi1 3
          simp at e3
          have g3 := frozen_row hi1 3
          have q3 := cell_row A1 3
          simp at q3
          have e4 := cell_row hi1 4
          simp at e4
          have g4 := frozen_row hi1 4
          have q4 := cell_row A1 4
          simp at q4
          have e5 := cell_row hi1 5
          simp at e5
          have g5 := frozen_row hi1 5
          have q5 := cell_row A1 5
          simp at q5
          have e6 := cell_row hi1 6
          simp at e6
          have g6 := frozen_row hi1 6
          have q6 := cell_row A1 6
          simp at q6
          have e7 := cell_row hi1 7
          simp at e7
          have g7 := frozen_row hi1 7
          have q7 := cell_row A1 7
          simp at q7
          obtain ⟨m0, m1, m2, m3, m4, m5, m6, m7, m8, m9, m10, m11, m12, m13⟩ := X4.at
          have lm := block_lt X4
          clear A1 A2 hw4 b4 X4 b5 hheld
          go_upto_region 9 with fail
          rw [← W4.out]
          go_upto_region 11 with fail
          go_region
          all_goals
            go_wp2
            refine bodyPost_ret (v := .tuple #[.agg #[.int .i64 k0, .int .i64 (M 1), .int .i64 (M 8), .int .i64 (M 9), .int .i64 (M 10), .int .u8 (M 11), .int .i64 (M 12), .int .i64 (M 13)], .int .i64 0, .int .i64 (-1)]) (by simp [results, Tryd.results15, go_sem, q0, q1, q2, q3, q4, q5, q6, q7]) rfl ?_
            have hV : ∀ j, j ≠ 0 → M j = valsTo nm bs 14 j := fun j hj => by
              rw [← HM.out]
              unfold MV
              rw [if_neg hj, vals_full bs HKK.out]
            have hV0 : k0 = valsTo nm bs 14 0 := by rw [← HK0.out]; simp [valsTo]
            have hr11 : 0 ≤ valsTo nm bs 14 11 ∧ valsTo nm bs 14 11 ≤ 255 := by
              rw [← hV 11 (by decide), ← HM.out]
              exact vals11 nm bs _ HR.out
            have hheld := HH.out
            rw [← HM.out] at hheld
            refine HQ.out _ _ ⟨valsTo nm bs 14, 0, -1, ?_, .inr (.inr (.inr (.inr ⟨by rw [HNM.out], hne, by rw [HNM.out]; exact hnm, by rw [HNM.out, HBN.out]; exact HNS.out, by rw [HNM.out]; exact good_full HKK.out (good_of_held HKK.out len (Nat.le_refl _) hheld), rfl, rfl⟩))), hr11, ?_⟩
            · rw [hV0, hV 1 (by decide), hV 8 (by decide), hV 9 (by decide), hV 10 (by decide), hV 11 (by decide), hV 12 (by decide), hV 13 (by decide)]
            · exact R.out.drew
        · have HH := hd (And.intro hk (And.intro hheld hbad))
          obtain ⟨A1, A2⟩ := item_set (V := fun _ => 0) hi1
          have R : Hid (Below w.heap.size w (((((((((w4.setCell ⟨w.heap.size, 0, none⟩ (.int .i64 0)).setCell ⟨w.heap.size, 1, none⟩ (.int .i64 0)).setCell ⟨w.heap.size, 2, none⟩ (.int .i64 0)).setCell ⟨w.heap.size, 3, none⟩ (.int .i64 0)).setCell ⟨w.heap.size, 4, none⟩ (.int .i64 0)).setCell ⟨w.heap.size, 5, none⟩ (.int .u8 0)).setCell ⟨w.heap.size, 6, none⟩ (.int .i64 0)).setCell ⟨w.heap.size, 7, none⟩ (.int .i64 0)))) := b5.trans (A2.below b5.size (Nat.le_refl _))
          have e0 := cell_row hi1 0
          simp at e0
          have g0 := frozen_row hi1 0
          have q0 := cell_row A1 0
          simp at q0
          have e1 := cell_row hi1 1
          simp at e1
          have g1 := frozen_row hi1 1
          have q1 := cell_row A1 1
          simp at q1
          have e2 := cell_row hi1 2
          simp at e2
          have g2 := frozen_row hi1 2
          have q2 := cell_row A1 2
          simp at q2
          have e3 := cell_row hi1 3
          simp at e3
          have g3 := frozen_row hi1 3
          have q3 := cell_row A1 3
          simp at q3
          have e4 := cell_row hi1 4
          simp at e4
          have g4 := frozen_row hi1 4
          have q4 := cell_row A1 4
          simp at q4
          have e5 := cell_row hi1 5
          simp at e5
          have g5 := frozen_row hi1 5
          have q5 := cell_row A1 5
          simp at q5
          have e6 := cell_row hi1 6
          simp at e6
          have g6 := frozen_row hi1 6
          have q6 := cell_row A1 6
          simp at q6
          have e7 := cell_row hi1 7
          simp at e7
          have g7 := frozen_row hi1 7
          have q7 := cell_row A1 7
          simp at q7
          have kz : ¬ ((base + k : Nat) : Int) = 0 := by have := HKK.out; rcases this with ⟨-, rfl, -⟩ | ⟨-, rfl, -⟩ <;> omega
          clear A1 A2 hw4 b4 X4 b5 c4 hheld hbad hk
          go_upto_region 9 with fail
          rw [← W4.out]
          go_upto_if 39 with fail
          have hcond : ((base : Int) + (k : Int) != 0) = true := by simp; omega
          rw [hcond]
          clear hcond
          go_wp2
          refine bodyPost_ret (v := .tuple #[.agg #[.int .i64 0, .int .i64 0, .int .i64 0, .int .i64 0, .int .i64 0, .int .u8 0, .int .i64 0, .int .i64 0], .int .i64 63, .int .i64 (posAt nm (base + k))]) (by simp [results, Tryd.results15, go_sem, q0, q1, q2, q3, q4, q5, q6, q7]) rfl ?_
          obtain ⟨hk, hheld, hbad⟩ := HH.out
          have hK := HKK.out
          have h14 : base + k < 14 := by rcases hK with ⟨-, rfl, rfl⟩ | ⟨-, rfl, rfl⟩ <;> omega
          rw [← HM.out] at hheld hbad
          rw [hold_allow bs hK k hk] at hbad
          exact HQ.out _ _ ⟨fun _ => 0, 63, posAt nm (base + k), rfl, .inr (.inr (.inr (.inl ⟨rfl, hne, by rw [HNM.out]; exact hnm, by rw [HNM.out, HBN.out]; exact HNS.out, base + k, h14, by rw [HNM.out]; exact good_of_held hK k (Nat.le_of_lt hk) hheld, by rw [HNM.out]; exact hK.has k hk, by rw [HNM.out]; exact hbad, rfl, by rw [HNM.out]⟩))), ⟨Int.le_refl 0, by simp⟩, R.out⟩
      · have hcond : ((n : Int) != 1 + ((sz : Int) - 1)) = true := by simp; omega
        rw [hcond]
        clear hcond
        have hi1 := I1.out
        have b1 := B1.out
        obtain ⟨A1, A2⟩ := item_set (V := fun _ => 0) hi1
        have R : Hid (Below w.heap.size w (((((((((w2.setCell ⟨w.heap.size, 0, none⟩ (.int .i64 0)).setCell ⟨w.heap.size, 1, none⟩ (.int .i64 0)).setCell ⟨w.heap.size, 2, none⟩ (.int .i64 0)).setCell ⟨w.heap.size, 3, none⟩ (.int .i64 0)).setCell ⟨w.heap.size, 4, none⟩ (.int .i64 0)).setCell ⟨w.heap.size, 5, none⟩ (.int .u8 0)).setCell ⟨w.heap.size, 6, none⟩ (.int .i64 0)).setCell ⟨w.heap.size, 7, none⟩ (.int .i64 0)))) := b1.trans (A2.below b1.size (Nat.le_refl _))
        have e0 := cell_row hi1 0
        simp at e0
        have g0 := frozen_row hi1 0
        have q0 := cell_row A1 0
        simp at q0
        have e1 := cell_row hi1 1
        simp at e1
        have g1 := frozen_row hi1 1
        have q1 := cell_row A1 1
        simp at q1
        have e2 := cell_row hi1 2
        simp at e2
        have g2 := frozen_row hi1 2
        have q2 := cell_row A1 2
        simp at q2
        have e3 := cell_row hi1 3
        simp at e3
        have g3 := frozen_row hi1 3
        have q3 := cell_row A1 3
        simp at q3
        have e4 := cell_row hi1 4
        simp at e4
        have g4 := frozen_row hi1 4
        have q4 := cell_row A1 4
        simp at q4
        have e5 := cell_row hi1 5
        simp at e5
        have g5 := frozen_row hi1 5
        have q5 := cell_row A1 5
        simp at q5
        have e6 := cell_row hi1 6
        simp at e6
        have g6 := frozen_row hi1 6
        have q6 := cell_row A1 6
        simp at q6
        have e7 := cell_row hi1 7
        simp at e7
        have g7 := frozen_row hi1 7
        have q7 := cell_row A1 7
        simp at q7
        clear A1 A2
        go_wp2
        refine bodyPost_ret (v := .tuple #[.agg #[.int .i64 0, .int .i64 0, .int .i64 0, .int .i64 0, .int .i64 0, .int .u8 0, .int .i64 0, .int .i64 0], .int .i64 62, .int .i64 n]) (by simp [results, Tryd.results15, go_sem, q0, q1, q2, q3, q4, q5, q6, q7]) rfl ?_
        exact HQ.out _ _ ⟨fun _ => 0, 62, n, rfl, .inr (.inr (.inl ⟨rfl, hne, by rw [HNM.out]; exact hnm, by rw [HNM.out, HSZ.out]; omega, rfl, by rw [HBN.out]⟩)), ⟨Int.le_refl 0, by simp⟩, R.out⟩

end Go.Proofs.YtibnlfdnnlbeeaaDoor
