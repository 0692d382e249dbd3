/-
  NetFlips.
-/
import Derived.Test.YtnglcnilckolkaaLost
namespace Go.Proofs.Ytnglcnilckolkaa
open Go.RowKit
set_option linter.unusedVariables false

theorem isO_three (w : World) (x y z : It) : IsO (w.alloc (.cells (cO [x, y, z]).toArray 37)) (some ⟨w.heap.size, 0, none⟩) 3 3 [x, y, z] :=
  ⟨rfl, Nat.le_refl _, by omega, fun _ => ⟨w.heap.size, 0, rfl, by simp, fun j v hj => by
    rw [Nat.zero_add, cell_row (heap_alloc_new w _), List.getElem?_toArray]
    exact hj⟩⟩

theorem flipE_ok {G : List DG} {i a m : Int} {d : DG} (hi : isAt G.length i) (hg : G.getD i.toNat zDG = d) (h : 1 ≤ m ∧ m ≤ 255 ∧ 0 ≤ a ∧ a < d.b.length) (hs : d.s = false) : flipE G i a m = 0 := by
  unfold flipE
  rw [if_pos hi, hg, if_neg (by omega), if_neg (by rw [hs]; decide)]
theorem flipE_spoilt {G : List DG} {i a m : Int} {d : DG} (hi : isAt G.length i) (hg : G.getD i.toNat zDG = d) (h : 1 ≤ m ∧ m ≤ 255 ∧ 0 ≤ a ∧ a < d.b.length) (hs : d.s = true) : flipE G i a m = 76 := by
  unfold flipE
  rw [if_pos hi, hg, if_neg (by omega), if_pos hs]
theorem flipE_bad {G : List DG} {i a m : Int} {d : DG} (hi : isAt G.length i) (hg : G.getD i.toNat zDG = d) (h : m < 1 ∨ 255 < m ∨ a < 0 ∨ d.b.length ≤ a) : flipE G i a m = 75 := by
  unfold flipE
  rw [if_pos hi, hg, if_pos h]

/-- A row of bytes, known whole. -/
def RowB (w : World) (g : Nat) (xs : List Int) : Prop := w.heap[g]? = some (.cells (ints xs).toArray 5 (0, 0))
theorem RowB.isB {w : World} {g : Nat} {xs : List Int} (h : RowB w g xs) (hl : xs.length ≤ 1000000) : IsB w (some ⟨g, 0, none⟩) xs.length xs.length xs := by
  have := isB_of_block h 0 xs.length xs.length (by omega) (Nat.le_refl _) (by omega)
  simpa using this
theorem RowB.below {w w' : World} {g : Nat} {xs : List Int} (h : RowB w g xs) (hb : Below w.heap.size w w') : RowB w' g xs := (hb.block _ (block_lt h)).trans h
theorem RowB.set {w : World} {g : Nat} {xs : List Int} (h : RowB w g xs) (j : Nat) (y : Int) : RowB (w.setCell ⟨g, j, none⟩ (.int .u8 y)) g (xs.set j y) := by
  have := set_row h j (.int .u8 y)
  unfold RowB
  rw [this]
  simp [ints, List.map_set]

def fillB (xs : List Int) (m k : Nat) : List Int := xs.take k ++ List.replicate (m - k) 0
theorem fillB_len (xs : List Int) (n m k : Nat) (hx : xs.length = n) (hk : k ≤ n) (hm : n ≤ m) : (fillB xs m k).length = m := by
  unfold fillB
  simp
  omega
theorem fillB_zero (xs : List Int) (m : Nat) : fillB xs m 0 = List.replicate m 0 := by simp [fillB]
theorem fillB_set (xs : List Int) (n m k : Nat) (hx : xs.length = n) (hk : k < n) (hm : n ≤ m) : (fillB xs m k).set k (xs.getD k 0) = fillB xs m (k + 1) := by
  unfold fillB
  have e : List.replicate (m - k) (0 : Int) = 0 :: List.replicate (m - (k + 1)) 0 := by
    rw [show m - k = (m - (k + 1)) + 1 from by omega, List.replicate_succ]
  have t : xs.take (k + 1) = xs.take k ++ [xs.getD k 0] := by
    rw [List.take_succ_eq_append_getElem (by omega)]
    simp [List.getD, List.getElem?_eq_getElem (show k < xs.length by omega)]
  rw [e, t, List.set_append_right _ _ (by simp; omega)]
  simp [Nat.min_eq_left (show k ≤ xs.length by omega)]

theorem cell_of {w : World} {g : Nat} {xs : List Int} (h : RowB w g xs) (j : Nat) (hj : j < xs.length) : w.cell? ⟨g, j, none⟩ = some (.int .u8 (xs.getD j 0)) := by
  rw [cell_row h, List.getElem?_toArray, ints_get _ _ hj]

set_option maxRecDepth 100000 in
set_option maxHeartbeats 16000000 in
theorem flips_short (a : Option Addr) (m c : Nat) (ys : List Int) (x1 x2 : Int) (w : World) (hB : IsB w a m c ys) (hm : m ≤ 63) :
    Calls Try.prog 5 #[.slice a m c, .int .i64 x1, .int .i64 x2] w fun e w' => e = .returned (.bool true) ∧ Below w.heap.size w w' := by
  have HY := hd hB
  have hmc : m ≤ c ∧ c ≤ 9223372036854775807 := ⟨hB.2.1, hB.2.2.1⟩
  have hm' : ¬ (63 : Int) < (m : Int) := by omega
  clear hB
  go_enter Try.func5, Try.ntmps5

  obtain ⟨i0, hi0, hz0, hz1, hz2⟩ := info_parts Try.info5
  go_wp2_with (first | (at_make; refine wpList_make_b _ rfl _ _ 28 rfl 5 i0 Try.underlying28 hi0 hz0 hz1 hz2 _ _ _ _ (m + 1) rfl rfl (by go_num) (by go_num) (by omega) ?_; intro w1 hg1 hb1 hs1) | fail)
  have R0 : Hid (RowB w1 w.heap.size (fillB ys (m + 1) 0) ∧ Below w.heap.size w w1) := ⟨by rw [fillB_zero]; exact hg1.out, hb1.out⟩
  clear hg1 hb1 hs1
  go_loopw [8] (fun v wr => ∃ k : Nat, k ≤ m ∧ v = .int .i64 k ∧ Hid (RowB wr w.heap.size (fillB ys (m + 1) k) ∧ Below w.heap.size w wr)) (fun v _ => m - (intOf v).toNat)
  case atStart => exact ⟨0, Nat.zero_le _, rfl, R0⟩
  case round =>
    obtain ⟨k, hk, rfl, HR⟩ := hrel
    clear R0
    by_cases hlt : k < m
    · have hlen := fillB_len ys m (m + 1) k HY.out.1 (by omega) (by omega)
      have B1 := HY.out.below HR.out.2
      obtain ⟨b, off, rfl, hb, hc⟩ := B1.2.2.2 (by omega)
      have e1 := hc k hlt
      have e2 := cell_of HR.out.1 k (by omega)
      have f2 := frozen_row HR.out.1 k
      have i2 : (k : Int) < (m : Int) := by omega
      have i3 : (k : Int) < (m : Int) + 1 := by omega
      obtain ⟨y, hy⟩ : ∃ y, ys.getD k 0 = y := ⟨_, rfl⟩
      rw [hy] at e1
      have Z : Hid (RowB (wr.setCell ⟨w.heap.size, k, none⟩ (.int .u8 y)) w.heap.size (fillB ys (m + 1) (k + 1)) ∧ Below w.heap.size w (wr.setCell ⟨w.heap.size, k, none⟩ (.int .u8 y))) := by
        refine ⟨?_, HR.out.2.setCell (by simp) _⟩
        rw [← fillB_set ys m (m + 1) k HY.out.1 hlt (by omega), hy]
        exact HR.out.1.set k y
      clear hlen B1 hc hy
      generalize (fillB ys (m + 1) k).getD k 0 = z at e2
      go_wp2_with fail
      exact ⟨⟨k + 1, by omega, by go_num, Z⟩, by simp [intOf]; omega⟩
    · obtain rfl : k = m := by omega
      have hlen := fillB_len ys k (k + 1) k HY.out.1 (by omega) (by omega)
      generalize hL : fillB ys (k + 1) k = L at *
      have HL := hd hlen
      have RL : Hid (RowB wr w.heap.size L) := HR.out.1
      have BL := hd HR.out.2
      have IL : Hid (IsB wr (some ⟨w.heap.size, 0, none⟩) (k + 1) (k + 1) L) := by
        have := HR.out.1.isB (by omega)
        rw [hlen] at this
        exact this
      clear HR hlen hL hlt hk
      go_wp2_with fail
      have I1 := into_any x1 (k + 1) wr (by omega) (by omega)
      obtain ⟨j, hj⟩ : ∃ j : Nat, intoP x1 (k + 1) = j := ⟨_, rfl⟩
      have hjk : j < k + 1 := by rw [← hj]; exact intoP_lt x1 (k + 1) (by omega)
      rw [hj] at I1
      clear hj
      refine I1.mono ?_
      clear I1
      rintro e w2 ⟨rfl, rfl⟩
      go_wp2_with fail
      have I2 := into_any x2 255 w2 (by omega) (by omega)
      obtain ⟨q, hq⟩ : ∃ q : Nat, intoP x2 255 = q := ⟨_, rfl⟩
      have hq5 : q < 255 := by rw [← hq]; exact intoP_lt x2 255 (by omega)
      rw [hq] at I2
      clear hq
      refine I2.mono ?_
      clear I2
      rintro e w3 ⟨rfl, rfl⟩
      go_wp2_with fail
      refine (st_new 1 w3 (by omega)).mono ?_
      rintro e w4 ⟨x, rfl, h4⟩
      have H4 := hd h4
      clear h4
      go_wp2_with fail
      refine (st_send H4.out (by omega) 0 1 _ (k + 1) (k + 1) L (IL.out.below H4.out.base)).mono ?_
      rintro e w5 ⟨rfl, h5, -⟩
      have e5 : sendE 1 ([] : List DG).length 0 1 L.length = 0 := sendE_ok (decide_eq_true (.inl ⟨rfl, by omega, by omega⟩)) (by rw [HL.out]; omega) (by simp)
      rw [sendG_yes e5, List.nil_append] at h5
      rw [HL.out] at e5
      rw [e5]
      have H5 := hd h5
      clear h5 e5
      obtain ⟨D0, hD0⟩ : ∃ D0 : DG, D0 = ⟨0, 1, L, false⟩ := ⟨_, rfl⟩
      obtain ⟨D1, hD1⟩ : ∃ D1 : DG, D1 = ⟨0, 1, L.set j (xorB (L.getD j 0) (1 + (q : Int))), true⟩ := ⟨_, rfl⟩
      have HD0 := hd hD0
      have HD1 := hd hD1
      have hb0 : D0.b.length = k + 1 := by rw [hD0]; exact HL.out
      have hb1 : D1.b.length = k + 1 := by rw [hD1]; simp [HL.out]
      have hs0 : D0.s = false := by rw [hD0]
      have hs1 : D1.s = true := by rw [hD1]
      have hfd : flipD D0 j (1 + (q : Int)) = D1 := by rw [hD0, hD1]; rfl
      rw [← hD0] at H5
      clear hD0 hD1
      go_wp2_with fail
      refine (st_double H5.out (by omega) 0).mono ?_
      rintro e w6 ⟨rfl, h6⟩
      have e6 : doubleE [D0].length 0 = 0 := by rfl
      rw [doubleG_yes e6] at h6
      rw [e6]
      have H6 : Hid (ST w3 w6 x 1 [D0, D0] 2) := h6
      clear h6 e6
      go_wp2_with fail
      refine (st_flip H6.out 0 j (1 + (q : Int))).mono ?_
      rintro e w7 ⟨rfl, h7⟩
      have e7 : flipE [D0, D0] 0 j (1 + (q : Int)) = 0 := flipE_ok (d := D0) ⟨by omega, by simp⟩ rfl ⟨by omega, by omega, by omega, by rw [hb0]; omega⟩ hs0
      rw [flipG_yes e7] at h7
      rw [e7]
      have H7 : Hid (ST w3 w7 x 1 [D1, D0] 2) := by
        have g0 : [D0, D0].getD (0 : Int).toNat zDG = D0 := rfl
        rw [g0, Int.toNat_natCast, hfd] at h7
        exact h7
      clear h7 e7
      go_wp2_with fail
      refine (st_flip H7.out 0 j (1 + (q : Int))).mono ?_
      rintro e w8 ⟨rfl, h8⟩
      have e8 : flipE [D1, D0] 0 j (1 + (q : Int)) = 76 := flipE_spoilt (d := D1) ⟨by omega, by simp⟩ rfl ⟨by omega, by omega, by omega, by rw [hb1]; omega⟩ hs1
      rw [flipG_no (by rw [e8]; decide)] at h8
      rw [e8]
      have H8 := hd h8
      clear h8 e8
      go_wp2_with fail
      refine (st_double H8.out (by omega) 0).mono ?_
      rintro e w9 ⟨rfl, h9⟩
      have e9 : doubleE [D1, D0].length 0 = 0 := by rfl
      rw [doubleG_yes e9] at h9
      rw [e9]
      have H9 : Hid (ST w3 w9 x 1 [D1, D0, D1] 3) := h9
      clear h9 e9
      go_wp2_with fail
      refine (st_flip H9.out 2 0 (1 + (q : Int))).mono ?_
      rintro e wa ⟨rfl, ha⟩
      have ea : flipE [D1, D0, D1] 2 0 (1 + (q : Int)) = 76 := flipE_spoilt (d := D1) ⟨by omega, by simp⟩ rfl ⟨by omega, by omega, by omega, by rw [hb1]; omega⟩ hs1
      rw [flipG_no (by rw [ea]; decide)] at ha
      rw [ea]
      have HA := hd ha
      clear ha ea
      go_wp2_with fail
      refine (st_flip HA.out 0 _ (1 + (q : Int))).mono ?_
      rintro e wb ⟨rfl, hb'⟩
      have eb : flipE [D1, D0, D1] 0 ((k : Int) + 1) (1 + (q : Int)) = 75 := flipE_bad (d := D1) ⟨by omega, by simp⟩ rfl (by rw [hb1]; omega)
      rw [flipG_no (by rw [eb]; decide)] at hb'
      rw [eb]
      have HBb := hd hb'
      clear hb' eb
      go_wp2_with fail
      refine (st_flip HBb.out 1 (-1) (1 + (q : Int))).mono ?_
      rintro e wc ⟨rfl, hc⟩
      have ec : flipE [D1, D0, D1] 1 (-1) (1 + (q : Int)) = 75 := flipE_bad (d := D0) ⟨by omega, by simp⟩ rfl (by omega)
      rw [flipG_no (by rw [ec]; decide)] at hc
      rw [ec]
      have HC := hd hc
      clear hc ec
      go_wp2_with fail
      refine (st_flip HC.out 2 j 256).mono ?_
      rintro e wd ⟨rfl, hd'⟩
      have ed : flipE [D1, D0, D1] 2 j 256 = 75 := flipE_bad (d := D1) ⟨by omega, by simp⟩ rfl (by omega)
      rw [flipG_no (by rw [ed]; decide)] at hd'
      rw [ed]
      have HDd := hd hd'
      clear hd' ed H4 H5 H6 H7 H8 H9 HA HBb HC
      go_wp2_with (first | (at_make; refine wpList_make_b _ rfl _ _ 28 rfl 5 i0 Try.underlying28 hi0 hz0 hz1 hz2 _ _ _ _ (k + 1) rfl rfl (by go_num) (by go_num) (by omega) ?_; intro we hge hbe hse) | fail)
      have R1 : Hid (RowB we wd.heap.size (fillB L (k + 1) 0) ∧ Below wd.heap.size wd we) := ⟨by rw [fillB_zero]; exact hge.out, hbe.out⟩
      clear hge hbe hse hi0 hz0 hz1 hz2
      go_loopw [15] (fun v wr => ∃ i : Nat, i ≤ k + 1 ∧ v = .int .i64 i ∧ Hid (RowB wr wd.heap.size (fillB L (k + 1) i) ∧ Below wd.heap.size wd wr)) (fun v _ => k + 1 - (intOf v).toNat)
      case atStart => exact ⟨0, Nat.zero_le _, rfl, R1⟩
      case round =>
        obtain ⟨i, hi, rfl, HR⟩ := hrel
        clear R1
        have B0 := HDd.out.base.trans (HR.out.2.mono HDd.out.base.size)
        have L1 := RL.out.below B0
        by_cases hlt : i < k + 1
        · have hlen := fillB_len L (k + 1) (k + 1) i HL.out (by omega) (by omega)
          have e1 := cell_of L1 i (by rw [HL.out]; omega)
          have e2 := cell_of HR.out.1 i (by omega)
          have f2 := frozen_row HR.out.1 i
          have i2 : (i : Int) < (k : Int) + 1 := by omega
          obtain ⟨y, hy⟩ : ∃ y, L.getD i 0 = y := ⟨_, rfl⟩
          rw [hy] at e1
          have Z : Hid (RowB (wr.setCell ⟨wd.heap.size, i, none⟩ (.int .u8 y)) wd.heap.size (fillB L (k + 1) (i + 1)) ∧ Below wd.heap.size wd (wr.setCell ⟨wd.heap.size, i, none⟩ (.int .u8 y))) := by
            refine ⟨?_, HR.out.2.setCell (by simp) _⟩
            rw [← fillB_set L (k + 1) (k + 1) i HL.out hlt (by omega), hy]
            exact HR.out.1.set i y
          clear hlen B0 L1 hy
          generalize (fillB L (k + 1) i).getD i 0 = z at e2
          go_wp2_with fail
          exact ⟨⟨i + 1, by omega, by go_num, Z⟩, by simp [intOf]; omega⟩
        · obtain rfl : i = k + 1 := by omega
          have hF : fillB L (k + 1) (k + 1) = L := by
            unfold fillB
            rw [List.take_of_length_le (by rw [HL.out]; exact Nat.le_refl _)]
            simp
          have RW := HR.out.1
          rw [hF] at RW
          obtain ⟨y, hy⟩ : ∃ y, L.getD j 0 = y := ⟨_, rfl⟩
          have e2 := cell_of RW j (by rw [HL.out]; omega)
          have f2 := frozen_row RW j
          rw [hy] at e2
          have i3 : (j : Int) < (k : Int) + 1 := by omega
          have hqm : (1 + (q : Int)) % 256 = 1 + (q : Int) := by omega
          obtain ⟨wf, hwf⟩ : ∃ wf, wf = wr.setCell ⟨wd.heap.size, j, none⟩ (.int .u8 (bits BinOp.xor IntKind.u8 y (1 + (q : Int)))) := ⟨_, rfl⟩
          have RF : RowB wf wd.heap.size (L.set j (xorB (L.getD j 0) (1 + (q : Int)))) := by
            rw [hwf, hy]
            exact RW.set j _
          have BF : Below wd.heap.size wd wf := by rw [hwf]; exact HR.out.2.setCell (by simp) _
          have B1 := HDd.out.base.trans (BF.mono HDd.out.base.size)
          have S1 := hd (HDd.out.below BF)
          have IW : IsB wf (some ⟨wd.heap.size, 0, none⟩) (k + 1) (k + 1) (L.set j (xorB (L.getD j 0) (1 + (q : Int)))) := by
            have := RF.isB (by simp [HL.out]; omega)
            simp only [List.length_set, HL.out] at this
            exact this
          have HIW := hd IW
          have HIL := hd (IL.out.below B1)
          have HBF := hd (BL.out.trans (B1.mono BL.out.size))
          clear RW hF RF BF B1 IW B0 L1 hlt hi HR hy
          have HSZ : Hid (wf.heap.size = wr.heap.size) := by show _ = _; rw [hwf]; simp
          go_wp2_with fail
          rw [← hwf]
          clear hwf e2 f2
          refine (st_flight (S1.out.below ((Below.refl _ _).alloc (Nat.le_refl _) _))).mono ?_
          rintro e wg ⟨ag, cg, Lg, rfl, hIG, hLG, hST, hbg⟩
          have bf : Below wf.heap.size wf wg := ((Below.refl _ wf).alloc (Nat.le_refl _) _).trans (hbg.mono (by simp))
          have hW3 : Hid (IsG wg (some ⟨wr.heap.size, 0, none⟩) 3 3 [⟨D1, some ⟨wd.heap.size, 0, none⟩, k + 1, none⟩, ⟨D0, some ⟨w.heap.size, 0, none⟩, k + 1, none⟩, ⟨D1, some ⟨wd.heap.size, 0, none⟩, k + 1, none⟩]) := by
            rw [← HSZ.out]
            refine ⟨IsO.below ?_ hbg, ?_⟩
            · have := isO_three wf ⟨D1, some ⟨wd.heap.size, 0, none⟩, k + 1, none⟩ ⟨D0, some ⟨w.heap.size, 0, none⟩, k + 1, none⟩ ⟨D1, some ⟨wd.heap.size, 0, none⟩, k + 1, none⟩
              simp only [cO, opc, List.flatMap_cons, List.flatMap_nil, List.append_nil, List.cons_append, List.nil_append, hb0, hb1] at this
              rw [HD0.out, HD1.out] at this ⊢
              simpa using this
            · have p1 : IsB wg (some ⟨wd.heap.size, 0, none⟩) D1.b.length (k + 1) D1.b := by
                rw [hb1, HD1.out]
                exact HIW.out.below bf
              have p0 : IsB wg (some ⟨w.heap.size, 0, none⟩) D0.b.length (k + 1) D0.b := by
                rw [hb0, HD0.out]
                exact HIL.out.below bf
              intro it hit
              simp at hit
              rcases hit with rfl | rfl | rfl
              · exact p1
              · exact p0
              · exact p1
          have HGG := hd (And.intro hIG hLG)
          have HBB := hd (HBF.out.trans (bf.mono HBF.out.size))
          clear hIG hLG hST hbg bf
          go_wp2_with fail
          refine (flights_true ag (some ⟨wr.heap.size, 0, none⟩) 3 cg 3 Lg _ wg HGG.out.1 hW3.out (by rw [HGG.out.2]; rfl)).mono ?_
          rintro e wh ⟨rfl, bh⟩
          have Z : Hid (Below w.heap.size w wh) := HBB.out.trans (bh.mono HBB.out.size)
          clear bh
          go_wp2
          go_ret
          exact ⟨rfl, Z.out⟩

end Go.Proofs.Ytnglcnilckolkaa
