/-
  NetPlays: send.
-/
import Derived.Test.YtnglcnilckolkaaPa
import Derived.Test.YtnglcnilckolkaaRc
namespace Go.Proofs.Ytnglcnilckolkaa
open Go.RowKit
set_option linter.unusedVariables false

theorem IsB.cut {w : World} {a : Option Addr} {n c : Nat} {xs : List Int} (h : IsB w a n c xs) (m : Nat) : IsB w a (min n m) c (xs.take m) := by
  by_cases hq : m ≤ n
  · rw [show min n m = m by omega]
    exact h.take m hq
  · rw [show min n m = n by omega, List.take_of_length_le (by rw [h.1]; omega)]
    exact h

theorem nowP_comp {T T1 : Nat → Prop} {w u w' : World} {x y : Nat} {cl : Int} {G' : List DG} {B' : Nat} (h2 : ∀ k, T1 k → T k ∨ w.heap.size ≤ k) (h3 : Fr T w u) (h' : NowP u w' x y cl G' B' T1) : NowP w w' x y cl G' B' T := by
  obtain ⟨T2, k1, k2, k3⟩ := h'
  have hs := h3.size
  exact ⟨T2, k1, fun k hk => (k2 k hk).elim (h2 k) (fun h => .inr (by omega)), Fr.next h3 k3 (fun i hi hs' => (h2 i hs').elim id (fun h => by omega))⟩

set_option maxRecDepth 100000 in
set_option maxHeartbeats 8000000 in
theorem lsend_any (wB w : World) (x y : Nat) (cl : Int) (G : List DG) (B : Nat) (T : Nat → Prop) (h : PS w x y cl G B T) (hcl : 1 ≤ cl) (hT : ∀ k, T k → wB.heap.size ≤ k) (hbw : Below wB.heap.size wB w) (o : OpV) (a : Option Addr) (n c : Nat) (hB : IsB wB a n c o.xs) (N : Int) (hN : N ≤ 3000) (hBB : B + 3000 < 1000000000) :
    Calls Try.prog 40 #[.pointer (some ⟨x, 0, none⟩), .pointer (some ⟨y, 0, none⟩), opv o a n c, .int .i64 N] w fun e w' => e = .returned (.bool true) ∧ ∃ G', NowP w w' x y cl G' (B + 3000) T := by
  obtain ⟨i0, hi0, hz0, hz1, hz2⟩ := info_parts Try.info5
  obtain ⟨ok, ow, oi, oa, ob, xs⟩ := o
  simp only at hB
  unfold opv
  simp only
  obtain ⟨w0, hw0⟩ : ∃ w0, w0 = w.alloc (.cells #[.int .i64 ok, .bool ow, .int .i64 oi, .int .i64 oa, .int .i64 ob, .slice a n c] 53) := ⟨_, rfl⟩
  have b0 : Below w.heap.size w w0 := by rw [hw0]; exact (Below.refl _ _).alloc (Nat.le_refl _) _
  have r0 : w0.heap[w.heap.size]? = some (.cells #[.int .i64 ok, .bool ow, .int .i64 oi, .int .i64 oa, .int .i64 ob, .slice a n c] 53 (0, 0)) := by rw [hw0]; exact heap_alloc_new _ _
  obtain ⟨m, hm⟩ : ∃ m, min n 3000 = m := ⟨_, rfl⟩
  have hm3 : m ≤ 3000 := by omega
  obtain ⟨ys, hys⟩ : ∃ ys, xs.take 3000 = ys := ⟨_, rfl⟩
  have hY : IsB wB a m c ys := by rw [← hm, ← hys]; exact hB.cut 3000
  have HG : Hid (Calls Try.prog 39 #[.slice a n c] w0 fun e w' => e = .returned (.slice a m c) ∧ w' = w0) := by
    have := given_any a n c xs w0 (hB.below (hbw.trans (b0.mono hbw.size)))
    rw [hm] at this
    exact this
  have HY := hd hY
  have HP := hd (h.below b0)
  have HB0 := hd (And.intro b0 r0)
  have HT := hd (And.intro hT (And.intro hbw h.old))
  have hmc : m ≤ c ∧ c ≤ 9223372036854775807 := ⟨hY.2.1, hY.2.2.1⟩
  clear h hT hbw hB b0 r0 hY hys hm
  go_enter Try.func40, Try.ntmps40
  go_wp2_with fail
  rw [← hw0]
  clear hw0
  refine HG.out.mono ?_
  clear HG
  rintro e w1 ⟨rfl, rfl⟩
  go_wp2_with (first | (at_make; refine wpList_make_b _ rfl _ _ 28 rfl 5 i0 Try.underlying28 hi0 hz0 hz1 hz2 _ _ _ _ m rfl rfl (by go_num) (by go_num) (by omega) ?_; intro w2 hg2 hb2 hs2) | fail)
  have R0 : Hid (RowB w2 w1.heap.size (fillB ys m 0) ∧ Below w1.heap.size w1 w2) := ⟨by rw [fillB_zero]; exact hg2.out, hb2.out⟩
  clear hg2 hb2 hs2 hi0 hz0 hz1 hz2
  go_loopw [11] (fun v wr => ∃ k : Nat, k ≤ m ∧ v = .int .i64 k ∧ Hid (RowB wr w1.heap.size (fillB ys m k) ∧ Below w1.heap.size w1 wr)) (fun v _ => m - (intOf v).toNat)
  case atStart => exact ⟨0, Nat.zero_le _, rfl, R0⟩
  case round =>
  obtain ⟨k, hk, rfl, HR⟩ := hrel
  clear R0
  have baseR : Below wB.heap.size wB wr := by
    have h1 := HT.out.2.1.trans (HB0.out.1.mono HT.out.2.1.size)
    exact h1.trans (HR.out.2.mono h1.size)
  by_cases hlt : k < m
  · have hlen := fillB_len ys m m k HY.out.1 (by omega) (by omega)
    have B1 := HY.out.below baseR
    obtain ⟨b, off, rfl, hb, hc⟩ := B1.2.2.2 (by omega)
    have e1 := hc k hlt
    have e2 := cell_of HR.out.1 k (by omega)
    have f2 := frozen_row HR.out.1 k
    have i2 : (k : Int) < (m : Int) := by omega
    obtain ⟨z, hz⟩ : ∃ z, ys.getD k 0 = z := ⟨_, rfl⟩
    rw [hz] at e1
    have Z : Hid (RowB (wr.setCell ⟨w1.heap.size, k, none⟩ (.int .u8 z)) w1.heap.size (fillB ys m (k + 1)) ∧ Below w1.heap.size w1 (wr.setCell ⟨w1.heap.size, k, none⟩ (.int .u8 z))) := by
      refine ⟨?_, HR.out.2.setCell (by simp) _⟩
      rw [← fillB_set ys m m k HY.out.1 hlt (by omega), hz]
      exact HR.out.1.set k z
    clear hlen B1 hc hz baseR
    generalize (fillB ys m k).getD k 0 = zz at e2
    go_wp2_with fail
    exact ⟨⟨k + 1, by omega, by go_num, Z⟩, by simp [intOf]; omega⟩
  · obtain rfl : k = m := by omega
    have hF : fillB ys k k = ys := by
      unfold fillB
      rw [List.take_of_length_le (by rw [HY.out.1]; exact Nat.le_refl _)]
      simp
    obtain ⟨RW, bw⟩ := HR.out
    rw [hF] at RW
    have IW : IsB wr (some ⟨w1.heap.size, 0, none⟩) k k ys := by
      have := RW.isB (by rw [HY.out.1]; omega)
      rw [HY.out.1] at this
      exact this
    have rb := (bw.block _ (block_lt HB0.out.2)).trans HB0.out.2
    have S0 : Hid (∃ G', NowP wr wr x y cl G' (B + 0) T) := ⟨G, NowP.same (HP.out.below bw) (Nat.le_refl _) (Below.refl _ _)⟩
    have HX := hd (And.intro IW (And.intro rb (And.intro baseR bw)))
    have b01 := HB0.out.1.size
    obtain ⟨wS, hwS⟩ : ∃ wS, wS = wr := ⟨_, rfl⟩
    subst hwS
    clear RW bw IW rb baseR HR hF
    go_wp2_with fail
    go_loopw [12] (fun v wr => ∃ j : Nat, (j : Int) ≤ max N 0 ∧ v = .int .i64 j ∧ Hid (∃ G', NowP wS wr x y cl G' (B + j) T)) (fun v _ => 3000 - (intOf v).toNat)
    case atStart => exact ⟨0, by omega, rfl, S0⟩
    case round =>
      obtain ⟨j, hj, rfl, HJ⟩ := hrel
      clear S0
      obtain ⟨G1, hN1⟩ := HJ.out
      obtain ⟨T1, hP1, hg1, hf1⟩ := hN1
      by_cases hlt2 : (j : Int) < N
      · obtain ⟨S, S', hx, hy, hdis, hTT⟩ := hP1
        obtain ⟨IW, rb, baseR, bw⟩ := HX.out
        have hsW := bw.size
        have bwS := HB0.out.1
        have hTold := HT.out.2.2
        have hTlo := HT.out.1
        have nT : ∀ q, w.heap.size ≤ q → ¬ T q := fun q hq ht => by have := hTold q ht; omega
        have rbr := hf1.keeps rb (nT _ (Nat.le_refl _))
        have d3 := cell_row rbr 3
        have d4 := cell_row rbr 4
        simp at d3 d4
        have hbox : w.heap.size < w1.heap.size := block_lt HB0.out.2
        have IC : IsB wr (some ⟨w1.heap.size, 0, none⟩) k k ys := IW.fr hf1 (fun _ b off e => by
          injection e with e
          injection e with e1 e2
          exact nT b (by omega))
        have baseJ : Below wB.heap.size wB wr := baseR.trans (hf1.below baseR.size hTlo)
        have hT1lo : ∀ q, T1 q → wB.heap.size ≤ q := fun q hq => (hg1 q hq).elim (hTlo q) (fun h => by have := baseR.size; omega)
        have nT1 : ¬ T1 w.heap.size := fun h => (hg1 _ h).elim (nT _ (Nat.le_refl _)) (fun h => by omega)
        have i5 : (j : Int) < N := hlt2
        have hjB : B + j < 1000000000 := by omega
        have HQ := hd (And.intro hx (And.intro hy (And.intro hdis (And.intro hTT (And.intro hg1 (And.intro hf1 (And.intro baseJ (And.intro hT1lo (And.intro nT1 rbr)))))))))
        have HIC := hd IC
        clear IC baseJ hT1lo nT1 rbr hx hy hdis hTT hg1 hf1 nT rb IW baseR bw hsW bwS hTold hTlo hbox
        go_wp2_with fail
        refine (rsend_any y cl G1 S' wr HQ.out.2.1 hcl oa ob _ k k ys HIC.out).mono ?_
        rintro e u ⟨rfl, hY⟩
        obtain ⟨hx, hy, hdis, hTT, hg1, hf1, baseJ, hT1lo, nT1, rbr⟩ := HQ.out
        have hY0 := hY
        obtain ⟨S2, b1, b2, b3⟩ := hY
        have hxu := hx.fr b3 hdis
        have baseU : Below wB.heap.size wB u := baseJ.trans (b3.below baseJ.size (fun q hq => hT1lo q ((hTT q).2 (.inr hq))))
        have rbu := b3.keeps rbr (fun h => nT1 ((hTT _).2 (.inr h)))
        have g3 := cell_row rbu 3
        have g4 := cell_row rbu 4
        simp at g3 g4
        have HXU := hd (And.intro hxu (And.intro hY0 (HY.out.below baseU)))
        clear hx hy hdis hTT hg1 hf1 baseJ hT1lo nT1 rbr hY0 b1 b2 b3 hxu baseU rbu d3 d4
        go_wp2_with fail
        refine (send_any x cl G1 (B + j) S u HXU.out.1 hjB oa ob a k c ys HXU.out.2.2).mono ?_
        rintro e v ⟨rfl, hX⟩
        obtain ⟨hx, hy, hdis, hTT, hg1, hf1, baseJ, hT1lo, nT1, rbr⟩ := HQ.out
        have Z : Hid (∃ G', NowP wS v x y cl G' (B + (j + 1)) T) := ⟨_, nowP_comp hg1 hf1 (pair_yx hdis hTT hx HXU.out.2.1 hX)⟩
        clear hx hy hdis hTT hg1 hf1 baseJ hT1lo nT1 rbr hX g3 g4
        generalize sendE cl G1.length oa ob k = se
        go_wp2_with fail
        exact ⟨⟨j + 1, by omega, by go_num, Z⟩, by simp [intOf]; omega⟩
      · have Z : Hid (∃ G', NowP w wr x y cl G' (B + 3000) T) := by
          obtain ⟨IW, rb, baseR, bw⟩ := HX.out
          have b0S : Below w.heap.size w wS := HB0.out.1.trans (bw.mono HB0.out.1.size)
          exact ⟨G1, ((show NowP wS wr x y cl G1 (B + j) T from ⟨T1, hP1, hg1, hf1⟩).from b0S).mono (by omega)⟩
        have i5 : ¬ (j : Int) < N := hlt2
        clear hP1 hg1 hf1
        go_wp2
        go_ret
        exact ⟨rfl, Z.out⟩

end Go.Proofs.Ytnglcnilckolkaa
