/-
  The laws' copied, walked.
-/
import Derived.Test.YtfhghijefjhehaaGreatDoorMJd
namespace Go.Proofs.YtfhghijefjhehaaGreatDoor
open Go.RowKit Go.Lib
set_option linter.unusedVariables false

theorem take_one {α : Type} (l : List α) (i : Nat) (h : i < l.length) : l.take (i + 1) = l.take i ++ [l[i]] := by
  rw [List.take_add_one, List.getElem?_eq_getElem h]
  rfl
theorem row_log {w : World} {g n : Nat} {log : List Ed} (h : RowX edc 6 74 w g n log) (hl : log.length = n) : IsL w (some ⟨g, 0, none⟩) n log := by
  refine ⟨hl, fun _ => ⟨g, 0, rfl, h.lt, fun i hi => ?_⟩⟩
  simp only [Nat.zero_add]
  exact ⟨h.get i 0 hi (by omega), h.get i 1 hi (by omega), h.get i 2 hi (by omega), h.get i 3 hi (by omega), h.get i 4 hi (by omega), h.get i 5 hi (by omega)⟩
theorem row_evs {w : World} {g n : Nat} {evs : List Ev} {tx : List Nat} (h : RowX evt 10 76 w g n (evs.zip tx)) (hl : evs.length = n) (ht : tx.length = n) : IsV w (some ⟨g, 0, none⟩) n evs (fun q => some ⟨tx.getD q 0, 0, none⟩) (fun q => (evs.getD q zev).len) := by
  refine ⟨hl, fun _ => ⟨g, 0, rfl, h.lt, fun i hi => ?_⟩⟩
  have hz : i < (evs.zip tx).length := by rw [List.length_zip]; omega
  have hg : (evs.zip tx)[i] = (evs[i], tx[i]'(by omega)) := List.getElem_zip
  have k : ∀ j, j < 10 → w.cell? ⟨g, i * 10 + j, none⟩ = (evt (evs[i], tx[i]'(by omega)))[j]? := fun j hj => by rw [h.get i j hz hj, hg]
  have e1 : tx.getD i 0 = tx[i]'(by omega) := by simp [List.getD, List.getElem?_eq_getElem (show i < tx.length by omega)]
  have e2 : evs.getD i zev = evs[i] := by simp [List.getD, List.getElem?_eq_getElem hi]
  simp only [Nat.zero_add, e1, e2]
  exact ⟨k 0 (by omega), k 1 (by omega), k 2 (by omega), k 3 (by omega), k 4 (by omega), k 5 (by omega), k 6 (by omega), k 7 (by omega), k 8 (by omega), k 9 (by omega)⟩
theorem tx_docs {w : World} {B g2 : Nat} {evs : List Ev} {tx : List Nat} {D : Nat → List El} (h : TxI w B g2 D tx) (ht : tx.length = evs.length) (hD : ∀ j (hj : j < evs.length), (D j).length = evs[j].len) : IsX w evs (fun q => some ⟨tx.getD q 0, 0, none⟩) D := by
  intro j hj
  refine ⟨hD j hj, fun _ => ?_⟩
  obtain ⟨-, h2, -, h4⟩ := h j (by omega)
  have e1 : tx.getD j 0 = tx[j]'(by omega) := by simp [List.getD, List.getElem?_eq_getElem (show j < tx.length by omega)]
  refine ⟨tx[j]'(by omega), 0, by simp only [e1], h2, fun q hq => ?_⟩
  simp only [Nat.zero_add]
  exact h4 q hq

/-- What copied answers. -/
def CopO (C : Int) (nL nE : Nat) (log : List Ed) (evs : List Ev) (D : Nat → List El) (w : World) (e : Ending) (w' : World) : Prop := ∃ g1 g2 A' K', e = .returned (.agg #[.int .i64 C, .slice (some ⟨g1, 0, none⟩) nL nL, .slice (some ⟨g2, 0, none⟩) nE nE]) ∧ IsL w' (some ⟨g1, 0, none⟩) nL log ∧ IsV w' (some ⟨g2, 0, none⟩) nE evs A' K' ∧ IsX w' evs A' D ∧ Below w.heap.size w w'

set_option maxRecDepth 100000 in
set_option maxHeartbeats 16000000 in
theorem hcopied_any (C : Int) (aL aE : Option Addr) (nL cL nE cE : Nat) (log : List Ed) (evs : List Ev) (A : Nat → Option Addr) (K : Nat → Nat) (D : Nat → List El) (w : World) (hL : IsL w aL nL log) (hV : IsV w aE nE evs A K) (hX : IsX w evs A D) (hnL : nL ≤ 2932031007402) (hnE : nE ≤ 1466015503701)
    (hD : ∀ j (hj : j < evs.length), evs[j].len ≤ 11728124029610) :
    Calls Tryz.prog 7 #[.agg #[.int .i64 C, .slice aL nL cL, .slice aE nE cE]] w fun e w' => CopO C nL nE log evs D w e w' := by
  have HL := hd hL
  have HV := hd hV
  have HX := hd hX
  have HD := hd hD
  have hB0 : Below w.heap.size w ((w.alloc (.cells #[.int .i64 C, .slice aL nL cL, .slice aE nE cE] 25)).alloc (.cells #[.int .i64 0, .slice none 0 0, .slice none 0 0] 25)) := ((Below.refl _ _).alloc (Nat.le_refl _) _).alloc (by simp) _
  have hH0 : ((w.alloc (.cells #[.int .i64 C, .slice aL nL cL, .slice aE nE cE] 25)).alloc (.cells #[.int .i64 0, .slice none 0 0, .slice none 0 0] 25)).heap[w.heap.size]? = some (.cells #[.int .i64 C, .slice aL nL cL, .slice aE nE cE] 25 (0, 0)) := (heap_alloc_old _ _ (by simp)).trans (heap_alloc_new _ _)
  have hR0 : ((w.alloc (.cells #[.int .i64 C, .slice aL nL cL, .slice aE nE cE] 25)).alloc (.cells #[.int .i64 0, .slice none 0 0, .slice none 0 0] 25)).heap[w.heap.size + 1]? = some (.cells #[.int .i64 0, .slice none 0 0, .slice none 0 0] 25 (0, 0)) := by
    have := heap_alloc_new (w.alloc (.cells #[.int .i64 C, .slice aL nL cL, .slice aE nE cE] 25)) (.cells #[.int .i64 0, .slice none 0 0, .slice none 0 0] 25)
    rwa [World.size_alloc] at this
  have HB0 := hd hB0
  have HH0 := hd hH0
  have HR0 := hd hR0
  have HnL := hd hnL
  have HnE := hd hnE
  clear hL hV hX hD hB0 hH0 hR0
  go_enter Tryz.func7, Tryz.ntmps7
  go_upto_region 1 with fail
  generalize (w.alloc (.cells #[.int .i64 C, .slice aL nL cL, .slice aE nE cE] 25)).alloc (.cells #[.int .i64 0, .slice none 0 0, .slice none 0 0] 25) = w0 at *
  have x0 := cell_row HH0.out 0; have x1 := cell_row HH0.out 1; have x2 := cell_row HH0.out 2
  simp at x0 x1 x2
  have lh0 := block_lt HH0.out
  have lr0 := block_lt HR0.out
  refine cpH _ _ w.heap.size C aL aE nL cL nE cE rfl (by simp) lh0 x0 x1 x2 hnL hnE ?_
  intro V1 u g g1 g2 hv hg hG ho1 ho2 hB
  simp only [slcpH, List.getD_cons_zero, List.getD_cons_succ, List.range, List.range.loop, List.map_cons, List.map_nil, puts, List.foldl_cons, List.foldl_nil, Act.put, List.setIfInBounds_toArray, List.set_cons_succ, List.set_cons_zero]
  rw [hv]
  obtain ⟨o1, c1, p1, q1⟩ := ho1
  obtain ⟨o2, c2, p2, q2⟩ := ho2
  have n12 : ¬ g1 = g2 := fun e => by rw [e, p2] at p1; simp at p1
  have ng1 : ¬ g = g1 := fun e => by rw [e, p1] at hG; simp at hG
  have ng2 : ¬ g = g2 := fun e => by rw [e, p2] at hG; simp at hG
  have NE := hd (show (¬ g1 = g2) ∧ (¬ g = g1) ∧ (¬ g = g2) ∧ w.heap.size + 1 < g1 ∧ w.heap.size + 1 < g2 ∧ w.heap.size + 1 < g from ⟨n12, ng1, ng2, by omega, by omega, by omega⟩)
  have R1 : Hid (RowX edc 6 74 u g1 nL (log.take 0)) := ⟨c1, p1, q1, fun q hq => by simp at hq⟩
  have R2 : Hid (RowX evt 10 76 u g2 nE []) := ⟨c2, p2, q2, fun q hq => by simp at hq⟩
  have HH := hd (block_keep hB HH0.out lh0)
  have HRs := hd (block_keep hB HR0.out lr0)
  have HG := hd hG
  have HBu := hd (HB0.out.trans (hB.mono HB0.out.size))
  clear hv hg hG hB c1 c2 p1 p2 q1 q2 o1 o2 n12 ng1 ng2 x0 x1 x2 lh0 lr0 HH0 HR0 HB0 hnL hnE
  have x1 := cell_row HH.out 1
  simp at x1
  go_wp2_with fail
  clear x1
  go_loopw [4] (fun v wr => ∃ i : Nat, i ≤ nL ∧ v = .int .i64 i ∧ Hid (RowX edc 6 74 wr g1 nL (log.take i) ∧ Fr (fun k => k = g1) u wr)) (fun v _ => nL - (intOf v).toNat)
  case atStart => exact ⟨0, Nat.zero_le _, rfl, R1.out, Fr.refl _ _⟩
  case round =>
    obtain ⟨i, hi, rfl, HR⟩ := hrel
    clear R1
    have HHr := hd (HR.out.2.keeps HH.out (by have := NE.out; omega))
    have x1 := cell_row HHr.out 1; have x2 := cell_row HHr.out 2
    simp at x1 x2
    have lhb := block_lt HHr.out
    by_cases hlt : i < nL
    · have l1 : i < log.length := by have := HL.out.1; omega
      obtain ⟨b, off, rfl, s1, q⟩ := HL.out.2 (by omega)
      obtain ⟨k0, k1, k2, k3, k4, k5⟩ := q i l1
      have i1 : (i : Int) < (nL : Int) := by omega
      have kk : ∀ j, wr.cell? ⟨b, j, none⟩ = w.cell? ⟨b, j, none⟩ := fun j => (HR.out.2.cell (p := ⟨b, j, none⟩) (Nat.lt_of_lt_of_le s1 HBu.out.size) (by have := NE.out; show ¬ b = g1; omega)).trans (HBu.out.cell (p := ⟨b, j, none⟩) s1)
      rw [← kk] at k0 k1 k2 k3 k4 k5
      have TK := hd (take_one log i l1)
      have HTl : Hid ((log.take i).length = i) := by unfold Hid; rw [List.length_take]; omega
      have lb : b < wr.heap.size := Nat.lt_of_lt_of_le (Nat.lt_of_lt_of_le s1 HBu.out.size) HR.out.2.size
      generalize log[i] = y at *
      obtain ⟨tg, ⟨ok, op, oc, oL, os⟩⟩ := y
      simp only at k0 k1 k2 k3 k4 k5
      have HGr := hd (HR.out.2.keeps HG.out (by have := NE.out; omega))
      have kg := cell_row HGr.out 1
      simp at kg
      have lgb := block_lt HGr.out
      obtain ⟨⟨v0, y0⟩, f0⟩ := HR.out.1.old hlt 0 (by omega); obtain ⟨⟨v1, y1⟩, f1⟩ := HR.out.1.old hlt 1 (by omega); obtain ⟨⟨v2, y2⟩, f2⟩ := HR.out.1.old hlt 2 (by omega); obtain ⟨⟨v3, y3⟩, f3⟩ := HR.out.1.old hlt 3 (by omega); obtain ⟨⟨v4, y4⟩, f4⟩ := HR.out.1.old hlt 4 (by omega); obtain ⟨⟨v5, y5⟩, f5⟩ := HR.out.1.old hlt 5 (by omega)
      rw [Nat.add_zero] at y0
      have HFZ : Hid (∀ U, Below wr.heap.size wr U → U.frozen? ⟨g1, i * 6, none⟩ = false ∧ U.frozen? ⟨g1, i * 6 + 1, none⟩ = false ∧ U.frozen? ⟨g1, i * 6 + 2, none⟩ = false ∧ U.frozen? ⟨g1, i * 6 + 3, none⟩ = false ∧ U.frozen? ⟨g1, i * 6 + 4, none⟩ = false ∧ U.frozen? ⟨g1, i * 6 + 5, none⟩ = false) := fun U hB => by
        have r := HR.out.1.below hB
        exact ⟨(r.old hlt 0 (by omega)).2, (r.old hlt 1 (by omega)).2, (r.old hlt 2 (by omega)).2, (r.old hlt 3 (by omega)).2, (r.old hlt 4 (by omega)).2, (r.old hlt 5 (by omega)).2⟩
      clear q s1 kk f0 f1 f2 f3 f4 f5 x2
      go_upto_region 5 with fail
      refine cpL _ _ w.heap.size g g1 b off i nL nL cL tg ok op oc oL os rfl rfl rfl (by simp) lhb lgb HR.out.1.lt lb kg x1 k0 k1 k2 k3 k4 k5 _ _ _ _ _ _ y0 y1 y2 y3 y4 y5 i1 (by omega) HFZ.out ?_
      intro V2 u1 hB1
      simp only [slcpL, List.getD_cons_zero, List.getD_cons_succ, List.range, List.range.loop, List.map_cons, List.map_nil, puts, List.foldl_cons, List.foldl_nil, Act.put, List.setIfInBounds_toArray, List.set_cons_succ, List.set_cons_zero]
      have P := (HR.out.1.below hB1).push szEd (by rw [HTl.out]; exact hlt) ⟨tg, ⟨ok, op, oc, oL, os⟩⟩
      rw [HTl.out, ← TK.out] at P
      have NX : Hid (RowX edc 6 74 (setsL u1 g1 (i * 6) [.int .i64 tg, .int .i64 ok, .int .i64 op, .int .u8 oc, .int .i64 oL, .int .i64 os]) g1 nL (log.take (i + 1)) ∧ Fr (fun k => k = g1) u (setsL u1 g1 (i * 6) [.int .i64 tg, .int .i64 ok, .int .i64 op, .int .u8 oc, .int .i64 oL, .int .i64 os])) := ⟨P.1, (HR.out.2.trans (Fr.of_below hB1)).trans P.2⟩
      clear P hB1 HR HFZ TK HTl HHr HGr y0 y1 y2 y3 y4 y5 k0 k1 k2 k3 k4 k5 kg x1 lb lgb lhb
      generalize setsL u1 g1 (i * 6) [.int .i64 tg, .int .i64 ok, .int .i64 op, .int .u8 oc, .int .i64 oL, .int .i64 os] = u2 at *
      have E3 : wrap64 ((i : Int) + 1) = ((i + 1 : Nat) : Int) := by have := HnL.out; rw [wrap64]; omega
      go_wp2
      exact ⟨⟨i + 1, by omega, by rw [E3], NX.out⟩, by rw [E3]; simp only [intOf, Int.toNat_natCast]; omega⟩
    · have hin : nL = i := by omega
      subst hin
      have i1 : ¬ (nL : Int) < (nL : Int) := by omega
      have RL : Hid (RowX edc 6 74 wr g1 nL log) := by
        have := HR.out.1
        rwa [List.take_of_length_le (by have := HL.out.1; omega)] at this
      have FL := hd HR.out.2
      have R20 := hd (R2.out.fr FL.out (fun e => NE.out.1 e.symm))
      clear HR hi hlt R2
      go_wp2_with fail
      clear x1 x2 lhb
      generalize hwo : wr = wo at *
      clear hwo
      go_loopw [5] (fun v wq => ∃ i : Nat, i ≤ nE ∧ v = .int .i64 i ∧ Hid (∃ tx : List Nat, tx.length = i ∧ RowX evt 10 76 wq g2 nE ((evs.take i).zip tx) ∧ TxI wq wo.heap.size g2 D tx ∧ Fr (fun k => k = g2) wo wq)) (fun v _ => nE - (intOf v).toNat)
      case atStart => exact ⟨0, Nat.zero_le _, rfl, [], rfl, by simpa using R20.out, fun q hq => by simp at hq, Fr.refl _ _⟩
      case round =>
        obtain ⟨i, hi, rfl, HR⟩ := hrel
        obtain ⟨tx, ht, hrow, htx, hfr⟩ := HR.out
        have HRow := hd hrow
        have HTx := hd htx
        have HFr := hd hfr
        have HTL := hd ht
        clear HR hrow htx hfr ht R20 i1
        have HHq := hd (HFr.out.keeps (FL.out.keeps HH.out (by have := NE.out; omega)) (by have := NE.out; omega))
        have HGq := hd (HFr.out.keeps (FL.out.keeps HG.out NE.out.2.1) NE.out.2.2.1)
        have x2 := cell_row HHq.out 2
        simp at x2
        have lhb := block_lt HHq.out
        by_cases hlt : i < nE
        · have l1 : i < evs.length := by have := HV.out.1; omega
          obtain ⟨b, off, rfl, s1, q⟩ := HV.out.2 (by omega)
          obtain ⟨k0, k1, k2, k3, k4, k5, k6, k7, k8, k9⟩ := q i l1
          have i1 : (i : Int) < (nE : Int) := by omega
          have kk : Hid (∀ p : Addr, p.block < w.heap.size → wr.cell? p = w.cell? p) := fun p hp => ((HFr.out.cell (p := p) (Nat.lt_of_lt_of_le (Nat.lt_of_lt_of_le hp HBu.out.size) FL.out.size) (by have := NE.out; show ¬ p.block = g2; omega)).trans (FL.out.cell (p := p) (Nat.lt_of_lt_of_le hp HBu.out.size) (by have := NE.out; show ¬ p.block = g1; omega))).trans (HBu.out.cell (p := p) hp)
          rw [← kk.out ⟨b, _, none⟩ s1] at k0 k1 k2 k3 k4 k5 k6 k7 k8 k9
          have hXi := HX.out i l1
          have hDi := HD.out i l1
          have TK := hd (take_one evs i l1)
          have HTl : Hid (((evs.take i).zip tx).length = i ∧ (evs.take i).length = i) := by
            unfold Hid
            rw [List.length_zip, List.length_take]
            have := HTL.out
            omega
          have hwr : w.heap.size ≤ wr.heap.size := Nat.le_trans (Nat.le_trans HBu.out.size FL.out.size) HFr.out.size
          have lb : b < wr.heap.size := Nat.lt_of_lt_of_le s1 hwr
          obtain ⟨ad, had⟩ : ∃ ad, A i = ad := ⟨_, rfl⟩
          obtain ⟨cd, hcd⟩ : ∃ cd, K i = cd := ⟨_, rfl⟩
          rw [had, hcd] at k9
          rw [had] at hXi
          generalize evs[i] = y at *
          obtain ⟨st, si, ha, ma, ⟨ok, op, oc, oL, os⟩, nd⟩ := y
          simp only at k0 k1 k2 k3 k4 k5 k6 k7 k8 k9 hXi hDi
          have HT : Hid (∀ U : World, (∀ p : Addr, p.block < w.heap.size → U.cell? p = w.cell? p) → w.heap.size ≤ U.heap.size → IsT U ad (D i)) := fun U hU hs hl => by
            obtain ⟨b1, o1, e1, e2, e3⟩ := hXi.2 hl
            refine ⟨b1, o1, e1, Nat.lt_of_lt_of_le e2 hs, fun m hm => ?_⟩
            simp only [hU ⟨b1, _, none⟩ e2]
            exact e3 m hm
          have HLn := hd hXi.1
          have HDn := hd hDi
          have kg := cell_row HGq.out 2
          simp at kg
          have lgb := block_lt HGq.out
          have lgr := HRow.out.lt
          obtain ⟨⟨v0, y0⟩, -⟩ := HRow.out.old hlt 0 (by omega); obtain ⟨⟨v1, y1⟩, -⟩ := HRow.out.old hlt 1 (by omega); obtain ⟨⟨v2, y2⟩, -⟩ := HRow.out.old hlt 2 (by omega); obtain ⟨⟨v3, y3⟩, -⟩ := HRow.out.old hlt 3 (by omega); obtain ⟨⟨v4, y4⟩, -⟩ := HRow.out.old hlt 4 (by omega); obtain ⟨⟨v5, y5⟩, -⟩ := HRow.out.old hlt 5 (by omega); obtain ⟨⟨v6, y6⟩, -⟩ := HRow.out.old hlt 6 (by omega); obtain ⟨⟨v7, y7⟩, -⟩ := HRow.out.old hlt 7 (by omega); obtain ⟨⟨v8, y8⟩, -⟩ := HRow.out.old hlt 8 (by omega); obtain ⟨⟨v9, y9⟩, -⟩ := HRow.out.old hlt 9 (by omega)
          rw [Nat.add_zero] at y0
          have HFZ : Hid (∀ U, Below wr.heap.size wr U → U.frozen? ⟨g2, i * 10, none⟩ = false ∧ U.frozen? ⟨g2, i * 10 + 1, none⟩ = false ∧ U.frozen? ⟨g2, i * 10 + 2, none⟩ = false ∧ U.frozen? ⟨g2, i * 10 + 3, none⟩ = false ∧ U.frozen? ⟨g2, i * 10 + 4, none⟩ = false ∧ U.frozen? ⟨g2, i * 10 + 5, none⟩ = false ∧ U.frozen? ⟨g2, i * 10 + 6, none⟩ = false ∧ U.frozen? ⟨g2, i * 10 + 7, none⟩ = false ∧ U.frozen? ⟨g2, i * 10 + 8, none⟩ = false ∧ U.frozen? ⟨g2, i * 10 + 9, none⟩ = false) := fun U hB => by
            have r := HRow.out.below hB
            exact ⟨(r.old hlt 0 (by omega)).2, (r.old hlt 1 (by omega)).2, (r.old hlt 2 (by omega)).2, (r.old hlt 3 (by omega)).2, (r.old hlt 4 (by omega)).2, (r.old hlt 5 (by omega)).2, (r.old hlt 6 (by omega)).2, (r.old hlt 7 (by omega)).2, (r.old hlt 8 (by omega)).2, (r.old hlt 9 (by omega)).2⟩
          have HNg := hd (show b ≠ g2 ∧ w.heap.size ≠ g2 from ⟨by have := NE.out; omega, by have := NE.out; omega⟩)
          clear q s1 hXi hDi had hcd
          go_upto_region 9 with fail
          refine cpE _ _ w.heap.size g g2 b off i nE nE cE st si ha ma ok op oc oL os ad nd cd rfl rfl rfl (by simp) lhb lgb lgr lb kg x2 k0 k1 k2 k3 k4 k5 k6 k7 k8 k9 _ _ _ _ _ _ _ _ _ _ y0 y1 y2 y3 y4 y5 y6 y7 y8 y9 i1 (by omega) HFZ.out ?_
          intro V2 u1 hB1
          simp only [slcpE, List.getD_cons_zero, List.getD_cons_succ, List.range, List.range.loop, List.map_cons, List.map_nil, puts, List.foldl_cons, List.foldl_nil, Act.put, List.setIfInBounds_toArray, List.set_cons_succ, List.set_cons_zero]
          have R1' := HRow.out.below hB1
          have hst := R1'.sets (i * 10) [.int .i64 st, .int .i64 si, .int .i64 ha, .int .i64 ma, .int .i64 ok, .int .i64 op, .int .u8 oc, .int .i64 oL, .int .i64 os, .slice ad nd cd] (by rw [HTl.out.1]; omega) (by simp; omega)
          have R5 := hd hst.1
          have F5 := hd hst.2
          have HRw1 := hd R1'
          have HB1 := hd hB1
          have s5 : wr.heap.size ≤ (setsL u1 g2 (i * 10) [.int .i64 st, .int .i64 si, .int .i64 ha, .int .i64 ma, .int .i64 ok, .int .i64 op, .int .u8 oc, .int .i64 oL, .int .i64 os, .slice ad nd cd]).heap.size := Nat.le_trans hB1.size hst.2.size
          have c2h := (F5.out.cell (p := ⟨w.heap.size, 2, none⟩) (Nat.lt_of_lt_of_le lhb hB1.size) HNg.out.2).trans ((hB1.cell (p := ⟨w.heap.size, 2, none⟩) lhb).trans x2)
          have c2g := (F5.out.cell (p := ⟨g, 2, none⟩) (Nat.lt_of_lt_of_le lgb hB1.size) NE.out.2.2.1).trans ((hB1.cell (p := ⟨g, 2, none⟩) lgb).trans kg)
          have c9 := (F5.out.cell (p := ⟨b, off + i * 10 + 9, none⟩) (Nat.lt_of_lt_of_le lb hB1.size) HNg.out.1).trans ((hB1.cell (p := ⟨b, off + i * 10 + 9, none⟩) lb).trans k9)
          have lh5 := Nat.lt_of_lt_of_le lhb s5
          have lg5 := Nat.lt_of_lt_of_le lgb s5
          have lb5 := Nat.lt_of_lt_of_le lb s5
          have HU5 : Hid (∀ p : Addr, p.block < w.heap.size → (setsL u1 g2 (i * 10) [.int .i64 st, .int .i64 si, .int .i64 ha, .int .i64 ma, .int .i64 ok, .int .i64 op, .int .u8 oc, .int .i64 oL, .int .i64 os, .slice ad nd cd]).cell? p = w.cell? p) := fun p hp => (F5.out.cell (p := p) (Nat.lt_of_lt_of_le (Nat.lt_of_lt_of_le hp hwr) hB1.size) (by have := NE.out; show ¬ p.block = g2; omega)).trans ((hB1.cell (p := p) (Nat.lt_of_lt_of_le hp hwr)).trans (kk.out p hp))
          obtain ⟨⟨o9, y95⟩, -⟩ := R5.out.old hlt 9 (by omega)
          have HS5 := hd (show w.heap.size ≤ (setsL u1 g2 (i * 10) [.int .i64 st, .int .i64 si, .int .i64 ha, .int .i64 ma, .int .i64 ok, .int .i64 op, .int .u8 oc, .int .i64 oL, .int .i64 os, .slice ad nd cd]).heap.size ∧ wr.heap.size ≤ (setsL u1 g2 (i * 10) [.int .i64 st, .int .i64 si, .int .i64 ha, .int .i64 ma, .int .i64 ok, .int .i64 op, .int .u8 oc, .int .i64 oL, .int .i64 os, .slice ad nd cd]).heap.size from ⟨Nat.le_trans hwr s5, s5⟩)
          clear hst R1' k0 k1 k2 k3 k4 k5 k6 k7 k8 k9 y0 y1 y2 y3 y4 y5 y6 y7 y8 y9 kg x2 HFZ hB1
          generalize hw5 : setsL u1 g2 (i * 10) [.int .i64 st, .int .i64 si, .int .i64 ha, .int .i64 ma, .int .i64 ok, .int .i64 op, .int .u8 oc, .int .i64 oL, .int .i64 os, .slice ad nd cd] = w5 at *
          have HW5 := hd hw5
          clear hw5
          go_upto_region 10 with fail
          refine cpD _ _ w.heap.size g g2 b off i nE nE cE nd cd ad rfl rfl rfl (by simp) lh5 lg5 R5.out.lt lb5 c2g c2h c9 _ y95 i1 (by omega) (fun U hB => ((R5.out.below hB).old hlt 9 (by omega)).2) (fun v u' => ∃ t, v = .slice (some ⟨t, 0, none⟩) nd nd ∧ w5.heap.size ≤ t ∧ t < u'.heap.size ∧ ∀ m (hm : m < (D i).length), u'.cell? ⟨t, m * 3, none⟩ = some (.int .u8 (D i)[m].1) ∧ u'.cell? ⟨t, m * 3 + 1, none⟩ = some (.int .i64 (D i)[m].2.1) ∧ u'.cell? ⟨t, m * 3 + 2, none⟩ = some (.int .i64 (D i)[m].2.2)) (fun v u' ⟨t, e, _⟩ => ⟨_, _, _, e⟩) (fun v u' u'' ⟨t, e, l1, l2, l3⟩ hb => ⟨t, e, l1, Nat.lt_of_lt_of_le l2 hb.size, fun m hm => by
            have k : ∀ q, u''.cell? ⟨t, q, none⟩ = u'.cell? ⟨t, q, none⟩ := fun q => hb.cell (p := ⟨t, q, none⟩) l2
            simp only [k]
            exact l3 m hm⟩) (fun U hB => (copiedDoc_any ad nd cd (D i) U HLn.out HDn.out (HT.out U (fun p hp => (hB.cell (p := p) (Nat.lt_of_lt_of_le hp HS5.out.1)).trans (HU5.out p hp)) (Nat.le_trans HS5.out.1 hB.size))).mono (fun e w' ⟨t, e1, e2, e3, e4, e5⟩ => ⟨_, e1, ⟨t, rfl, Nat.le_trans hB.size e2, e4, e3⟩, e5⟩)) ?_
          intro V3 v u2 hB2 hR
          obtain ⟨t, rfl, t1, t2, t3⟩ := hR
          simp only [slcpD, List.getD_cons_zero, List.getD_cons_succ, List.range, List.range.loop, List.map_cons, List.map_nil, puts, List.foldl_cons, List.foldl_nil, Act.put, List.setIfInBounds_toArray, List.set_cons_succ, List.set_cons_zero]
          have NX : Hid (∃ tx' : List Nat, tx'.length = i + 1 ∧ RowX evt 10 76 (u2.setCell ⟨g2, i * 10 + 9, none⟩ (.slice (some ⟨t, 0, none⟩) nd nd)) g2 nE ((evs.take (i + 1)).zip tx') ∧ TxI (u2.setCell ⟨g2, i * 10 + 9, none⟩ (.slice (some ⟨t, 0, none⟩) nd nd)) wo.heap.size g2 D tx' ∧ Fr (fun k => k = g2) wo (u2.setCell ⟨g2, i * 10 + 9, none⟩ (.slice (some ⟨t, 0, none⟩) nd nd))) := by
            have fs : Fr (fun k => k = g2) u2 (u2.setCell ⟨g2, i * 10 + 9, none⟩ (.slice (some ⟨t, 0, none⟩) nd nd)) := Fr.setCell _ _ _ rfl
            have f1 : Fr (fun k => k = g2) wr (u2.setCell ⟨g2, i * 10 + 9, none⟩ (.slice (some ⟨t, 0, none⟩) nd nd)) := (((Fr.of_below HB1.out).trans F5.out).trans (Fr.of_below hB2)).trans fs
            have tg2 : t ≠ g2 := by have := R5.out.lt; omega
            refine ⟨tx ++ [t], by rw [List.length_append, HTL.out]; rfl, ?_, ?_, HFr.out.trans f1⟩
            · have rl := RowX.last (t := t) (y := ⟨st, si, ha, ma, ⟨ok, op, oc, oL, os⟩, nd⟩) (d := .slice ad nd cd) (u := u2) HRw1.out (by rw [HTl.out.1]; exact hlt) (by
                rw [HTl.out.1]
                have := HW5.out
                simp only
                rw [this]
                exact Fr.of_below hB2)
              rw [HTl.out.1] at rl
              rw [TK.out, List.zip_append (by rw [HTl.out.2, HTL.out])]
              exact rl
            · intro q hq
              rw [List.length_append, HTL.out, List.length_singleton] at hq
              by_cases e : q < i
              · have hq' : q < tx.length := by rw [HTL.out]; exact e
                have := (HTx.out.fr f1 (fun q hq => (HTx.out q hq).2.2.1)) q hq'
                simp only [List.getElem_append_left hq']
                exact this
              · obtain rfl : q = i := by omega
                have hget : (tx ++ [t])[q]'(by simp [HTL.out]) = t := by
                  rw [List.getElem_append_right (by rw [HTL.out]; exact Nat.le_refl _)]
                  simp
                simp only [hget]
                refine ⟨Nat.le_trans (Nat.le_trans HFr.out.size HS5.out.2) t1, Nat.lt_of_lt_of_le t2 fs.size, tg2, fun m hm => ?_⟩
                have k : ∀ j, (u2.setCell ⟨g2, q * 10 + 9, none⟩ (.slice (some ⟨t, 0, none⟩) nd nd)).cell? ⟨t, j, none⟩ = u2.cell? ⟨t, j, none⟩ := fun j => fs.cell (p := ⟨t, j, none⟩) t2 tg2
                simp only [k]
                exact t3 m hm
          clear hB2 t1 t2 t3 HB1 F5 HRw1 HW5 HU5 HS5 R5 c2h c2g c9 lh5 lg5 lb5 y95 HT HLn HDn TK HTl HTx HRow HFr HTL s5 kk
          generalize u2.setCell ⟨g2, i * 10 + 9, none⟩ (.slice (some ⟨t, 0, none⟩) nd nd) = u6 at *
          have E3 : wrap64 ((i : Int) + 1) = ((i + 1 : Nat) : Int) := by have := HnE.out; rw [wrap64]; omega
          go_wp2
          exact ⟨⟨i + 1, by omega, by rw [E3], NX.out⟩, by rw [E3]; simp only [intOf, Int.toNat_natCast]; omega⟩
        · have hin : nE = i := by omega
          subst hin
          have i1 : ¬ (nE : Int) < (nE : Int) := by omega
          have RE : Hid (RowX evt 10 76 wr g2 nE (evs.zip tx)) := by
            have := HRow.out
            rwa [List.take_of_length_le (by have := HV.out.1; omega)] at this
          have RLq := hd (RL.out.fr HFr.out (fun e => NE.out.1 e))
          have HRq := hd (HFr.out.keeps (FL.out.keeps HRs.out (by have := NE.out; omega)) (by have := NE.out; omega))
          have z0 := cell_row HRq.out 0; have z1 := cell_row HRq.out 1; have z2 := cell_row HRq.out 2
          simp at z0 z1 z2
          have f0 := frozen_row HRq.out 0; have f1 := frozen_row HRq.out 1; have f2 := frozen_row HRq.out 2
          have y0 := cell_row HGq.out 0; have y1 := cell_row HGq.out 1; have y2 := cell_row HGq.out 2
          simp at y0 y1 y2
          have BW := hd ((HBu.out.trans (FL.out.below HBu.out.size (fun k hk => by have := NE.out; omega))).trans (HFr.out.below (Nat.le_trans HBu.out.size FL.out.size) (fun k hk => by have := NE.out; omega)))
          have FN := hd (set3h wr (w.heap.size + 1) (.int .i64 C) (.slice (some ⟨g1, 0, none⟩) nL nL) (.slice (some ⟨g2, 0, none⟩) nE nE))
          have RN := hd (set3h_row HRq.out (.int .i64 C) (.slice (some ⟨g1, 0, none⟩) nL nL) (.slice (some ⟨g2, 0, none⟩) nE nE))
          have HXl : Hid (∀ j (hj : j < evs.length), (D j).length = evs[j].len) := fun j hj => (HX.out j hj).1
          clear hi hlt
          go_wp2
          generalize ((wr.setCell ⟨w.heap.size + 1, 0, none⟩ (.int .i64 C)).setCell ⟨w.heap.size + 1, 1, none⟩ (.slice (some ⟨g1, 0, none⟩) nL nL)).setCell ⟨w.heap.size + 1, 2, none⟩ (.slice (some ⟨g2, 0, none⟩) nE nE) = wf at *
          have w0' := cell_row RN.out 0; have w1' := cell_row RN.out 1; have w2' := cell_row RN.out 2
          simp at w0' w1' w2'
          refine bodyPost_ret (v := .agg #[.int .i64 C, .slice (some ⟨g1, 0, none⟩) nL nL, .slice (some ⟨g2, 0, none⟩) nE nE]) (by simp [results, Tryz.results7, go_sem, w0', w1', w2']) rfl ?_
          have nn := NE.out
          refine ⟨g1, g2, _, _, rfl, row_log (RLq.out.fr FN.out (by omega)) HL.out.1, row_evs (RE.out.fr FN.out (by omega)) HV.out.1 HTL.out, tx_docs (HTx.out.fr FN.out (fun q hq => ?_)) (by rw [HTL.out, HV.out.1]) HXl.out, BW.out.trans (FN.out.below BW.out.size (fun k hk => by omega))⟩
          have := (HTx.out q hq).1
          have := FL.out.size
          have h2 := block_lt HRs.out
          omega

end Go.Proofs.YtfhghijefjhehaaGreatDoor
