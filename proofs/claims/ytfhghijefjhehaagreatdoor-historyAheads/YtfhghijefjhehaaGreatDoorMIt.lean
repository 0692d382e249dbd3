/-
  Texts put together: It Im.
-/
import Derived.Test.YtfhghijefjhehaaGreatDoorMIr
import Derived.Test.YtfhghijefjhehaaGreatDoorMIf
import Derived.Test.YtfhghijefjhehaaGreatDoorMIo
/-! It -/
namespace Go.Proofs.YtfhghijefjhehaaGreatDoor
open Go.RowKit Go.Lib
set_option linter.unusedVariables false

theorem take_one {α : Type} (l : List α) (i : Nat) (h : i < l.length) : l.take (i + 1) = l.take i ++ [l[i]] := by
  rw [List.take_add_one, List.getElem?_eq_getElem h]
  rfl
theorem row_log {w : World} {g n : Nat} {log : List Ed} (h : RowX edc 6 74 w g n log) (hl : log.length = n) : IsL w (some ⟨g, 0, none⟩) n log := by
  refine ⟨hl, fun _ => ⟨g, 0, rfl, h.lt, fun i hi => ?_⟩⟩
  simp only [Nat.zero_add]
  exact ⟨h.get i 0 hi (by omega), h.get i 1 hi (by omega), h.get i 2 hi (by omega), h.get i 3 hi (by omega), h.get i 4 hi (by omega), h.get i 5 hi (by omega)⟩
theorem row_evs {w : World} {g n : Nat} {evs : List Ev} {tx : List Nat} (h : RowX evt 10 76 w g n (evs.zip tx)) (hl : evs.length = n) (ht : tx.length = n) : IsV w (some ⟨g, 0, none⟩) n evs (fun q => some ⟨tx.getD q 0, 0, none⟩) (fun q => (evs.getD q zev).len) := by
  refine ⟨hl, fun _ => ⟨g, 0, rfl, h.lt, fun i hi => ?_⟩⟩
  have hz : i < (evs.zip tx).length := by rw [List.length_zip]; omega
  have hg : (evs.zip tx)[i] = (evs[i], tx[i]'(by omega)) := List.getElem_zip
  have k : ∀ j, j < 10 → w.cell? ⟨g, i * 10 + j, none⟩ = (evt (evs[i], tx[i]'(by omega)))[j]? := fun j hj => by rw [h.get i j hz hj, hg]
  have e1 : tx.getD i 0 = tx[i]'(by omega) := by simp [List.getD, List.getElem?_eq_getElem (show i < tx.length by omega)]
  have e2 : evs.getD i zev = evs[i] := by simp [List.getD, List.getElem?_eq_getElem hi]
  simp only [Nat.zero_add, e1, e2]
  exact ⟨k 0 (by omega), k 1 (by omega), k 2 (by omega), k 3 (by omega), k 4 (by omega), k 5 (by omega), k 6 (by omega), k 7 (by omega), k 8 (by omega), k 9 (by omega)⟩
theorem tx_docs {w : World} {B g2 : Nat} {evs : List Ev} {tx : List Nat} {D : Nat → List El} (h : TxI w B g2 D tx) (ht : tx.length = evs.length) (hD : ∀ j (hj : j < evs.length), (D j).length = evs[j].len) : IsX w evs (fun q => some ⟨tx.getD q 0, 0, none⟩) D := by
  intro j hj
  refine ⟨hD j hj, fun _ => ?_⟩
  obtain ⟨-, h2, -, h4⟩ := h j (by omega)
  have e1 : tx.getD j 0 = tx[j]'(by omega) := by simp [List.getD, List.getElem?_eq_getElem (show j < tx.length by omega)]
  refine ⟨tx[j]'(by omega), 0, by simp only [e1], h2, fun q hq => ?_⟩
  simp only [Nat.zero_add]
  exact h4 q hq

/-- What copied answers. -/
def CopO (C : Int) (nL nE : Nat) (log : List Ed) (evs : List Ev) (D : Nat → List El) (w : World) (e : Ending) (w' : World) : Prop := ∃ g1 g2 A' K', e = .returned (.agg #[.int .i64 C, .slice (some ⟨g1, 0, none⟩) nL nL, .slice (some ⟨g2, 0, none⟩) nE nE]) ∧ IsL w' (some ⟨g1, 0, none⟩) nL log ∧ IsV w' (some ⟨g2, 0, none⟩) nE evs A' K' ∧ IsX w' evs A' D ∧ Below w.heap.size w w'

set_option maxRecDepth 100000 in
set_option maxHeartbeats 16000000 in
theorem hcopied_any (C : Int) (aL aE : Option Addr) (nL cL nE cE : Nat) (log : List Ed) (evs : List Ev) (A : Nat → Option Addr) (K : Nat → Nat) (D : Nat → List El) (w : World) (hL : IsL w aL nL log) (hV : IsV w aE nE evs A K) (hX : IsX w evs A D) (hnL : nL ≤ 2932031007402) (hnE : nE ≤ 1466015503701)
    (hD : ∀ j (hj : j < evs.length), evs[j].len ≤ 11728124029610) :
    Calls Tryz.prog 7 #[.agg #[.int .i64 C, .slice aL nL cL, .slice aE nE cE]] w fun e w' => CopO C nL nE log evs D w e w' := by
  have HL := hd hL
  have HV := hd hV
  have HX := hd hX
  have HD := hd hD
  have hB0 : Below w.heap.size w ((w.alloc (.cells #[.int .i64 C, .slice aL nL cL, .slice aE nE cE] 25)).alloc (.cells #[.int .i64 0, .slice none 0 0, .slice none 0 0] 25)) := ((Below.refl _ _).alloc (Nat.le_refl _) _).alloc (by simp) _
  have hH0 : ((w.alloc (.cells #[.int .i64 C, .slice aL nL cL, .slice aE nE cE] 25)).alloc (.cells #[.int .i64 0, .slice none 0 0, .slice none 0 0] 25)).heap[w.heap.size]? = some (.cells #[.int .i64 C, .slice aL nL cL, .slice aE nE cE] 25 (0, 0)) := (heap_alloc_old _ _ (by simp)).trans (heap_alloc_new _ _)
  have hR0 : ((w.alloc (.cells #[.int .i64 C, .slice aL nL cL, .slice aE nE cE] 25)).alloc (.cells #[.int .i64 0, .slice none 0 0, .slice none 0 0] 25)).heap[w.heap.size + 1]? = some (.cells #[.int .i64 0, .slice none 0 0, .slice none 0 0] 25 (0, 0)) := by
    have := heap_alloc_new (w.alloc (.cells #[.int .i64 C, .slice aL nL cL, .slice aE nE cE] 25)) (.cells #[.int .i64 0, .slice none 0 0, .slice none 0 0] 25)
    rwa [World.size_alloc] at this
  have HB0 := hd hB0
  have HH0 := hd hH0
  have HR0 := hd hR0
  have HnL := hd hnL
  have HnE := hd hnE
  clear hL hV hX hD hB0 hH0 hR0
  go_enter Tryz.func7, Tryz.ntmps7
  go_upto_region 1 with fail
  generalize (w.alloc (.cells #[.int .i64 C, .slice aL nL cL, .slice aE nE cE] 25)).alloc (.cells #[.int .i64 0, .slice none 0 0, .slice none 0 0] 25) = w0 at *
  have x0 := cell_row HH0.out 0; have x1 := cell_row HH0.out 1; have x2 := cell_row HH0.out 2
  simp at x0 x1 x2
  have lh0 := block_lt HH0.out
  have lr0 := block_lt HR0.out
  refine cpH _ _ w.heap.size C aL aE nL cL nE cE rfl (by simp) lh0 x0 x1 x2 hnL hnE ?_
  intro V1 u g g1 g2 hv hg hG ho1 ho2 hB
  simp only [slcpH, List.getD_cons_zero, List.getD_cons_succ, List.range, List.range.loop, List.map_cons, List.map_nil, puts, List.foldl_cons, List.foldl_nil, Act.put, List.setIfInBounds_toArray, List.set_cons_succ, List.set_cons_zero]
  rw [hv]
  obtain ⟨o1, c1, p1, q1⟩ := ho1
  obtain ⟨o2, c2, p2, q2⟩ := ho2
  have n12 : ¬ g1 = g2 := fun e => by rw [e, p2] at p1; simp at p1
  have ng1 : ¬ g = g1 := fun e => by rw [e, p1] at hG; simp at hG
  have ng2 : ¬ g = g2 := fun e => by rw [e, p2] at hG; simp at hG
  have NE := hd (show (¬ g1 = g2) ∧ (¬ g = g1) ∧ (¬ g = g2) ∧ w.heap.size + 1 < g1 ∧ w.heap.size + 1 < g2 ∧ w.heap.size + 1 < g from ⟨n12, ng1, ng2, by omega, by omega, by omega⟩)
  have R1 : Hid (RowX edc 6 74 u g1 nL (log.take 0)) := ⟨c1, p1, q1, fun q hq => by simp at hq⟩
  have R2 : Hid (RowX evt 10 76 u g2 nE []) := ⟨c2, p2, q2, fun q hq => by simp at hq⟩
  have HH := hd (block_keep hB HH0.out lh0)
  have HRs := hd (block_keep hB HR0.out lr0)
  have HG := hd hG
  have HBu := hd (HB0.out.trans (hB.mono HB0.out.size))
  clear hv hg hG hB c1 c2 p1 p2 q1 q2 o1 o2 n12 ng1 ng2 x0 x1 x2 lh0 lr0 HH0 HR0 HB0 hnL hnE
  have x1 := cell_row HH.out 1
  simp at x1
  go_wp2_with fail
  clear x1
  go_loopw [4] (fun v wr => ∃ i : Nat, i ≤ nL ∧ v = .int .i64 i ∧ Hid (RowX edc 6 74 wr g1 nL (log.take i) ∧ Fr (fun k => k = g1) u wr)) (fun v _ => nL - (intOf v).toNat)
  case atStart => exact ⟨0, Nat.zero_le _, rfl, R1.out, Fr.refl _ _⟩
  case round =>
    obtain ⟨i, hi, rfl, HR⟩ := hrel
    clear R1
    have HHr := hd (HR.out.2.keeps HH.out (by have := NE.out; omega))
    have x1 := cell_row HHr.out 1; have x2 := cell_row HHr.out 2
    simp at x1 x2
    have lhb := block_lt HHr.out
    by_cases hlt : i < nL
    · have l1 : i < log.length := by have := HL.out.1; omega
      obtain ⟨b, off, rfl, s1, q⟩ := HL.out.2 (by omega)
      obtain ⟨k0, k1, k2, k3, k4, k5⟩ := q i l1
      have i1 : (i : Int) < (nL : Int) := by omega
      have kk : ∀ j, wr.cell? ⟨b, j, none⟩ = w.cell? ⟨b, j, none⟩ := fun j => (HR.out.2.cell (p := ⟨b, j, none⟩) (Nat.lt_of_lt_of_le s1 HBu.out.size) (by have := NE.out; show ¬ b = g1; omega)).trans (HBu.out.cell (p := ⟨b, j, none⟩) s1)
      rw [← kk] at k0 k1 k2 k3 k4 k5
      have TK := hd (take_one log i l1)
      have HTl : Hid ((log.take i).length = i) := by unfold Hid; rw [List.length_take]; omega
      have lb : b < wr.heap.size := Nat.lt_of_lt_of_le (Nat.lt_of_lt_of_le s1 HBu.out.size) HR.out.2.size
      generalize log[i] = y at *
      obtain ⟨tg, ⟨ok, op, oc, oL, os⟩⟩ := y
      simp only at k0 k1 k2 k3 k4 k5
      have HGr := hd (HR.out.2.keeps HG.out (by have := NE.out; omega))
      have kg := cell_row HGr.out 1
      simp at kg
      have lgb := block_lt HGr.out
      obtain ⟨⟨v0, y0⟩, f0⟩ := HR.out.1.old hlt 0 (by omega); obtain ⟨⟨v1, y1⟩, f1⟩ := HR.out.1.old hlt 1 (by omega); obtain ⟨⟨v2, y2⟩, f2⟩ := HR.out.1.old hlt 2 (by omega); obtain ⟨⟨v3, y3⟩, f3⟩ := HR.out.1.old hlt 3 (by omega); obtain ⟨⟨v4, y4⟩, f4⟩ := HR.out.1.old hlt 4 (by omega); obtain ⟨⟨v5, y5⟩, f5⟩ := HR.out.1.old hlt 5 (by omega)
      rw [Nat.add_zero] at y0
      have HFZ : Hid (∀ U, Below wr.heap.size wr U → U.frozen? ⟨g1, i * 6, none⟩ = false ∧ U.frozen? ⟨g1, i * 6 + 1, none⟩ = false ∧ U.frozen? ⟨g1, i * 6 + 2, none⟩ = false ∧ U.frozen? ⟨g1, i * 6 + 3, none⟩ = false ∧ U.frozen? ⟨g1, i * 6 + 4, none⟩ = false ∧ U.frozen? ⟨g1, i * 6 + 5, none⟩ = false) := fun U hB => by
        have r := HR.out.1.below hB
        exact ⟨(r.old hlt 0 (by omega)).2, (r.old hlt 1 (by omega)).2, (r.old hlt 2 (by omega)).2, (r.old hlt 3 (by omega)).2, (r.old hlt 4 (by omega)).2, (r.old hlt 5 (by omega)).2⟩
      clear q s1 kk f0 f1 f2 f3 f4 f5 x2
      go_upto_region 5 with fail
      refine cpL _ _ w.heap.size g g1 b off i nL nL cL tg ok op oc oL os rfl rfl rfl (by simp) lhb lgb HR.out.1.lt lb kg x1 k0 k1 k2 k3 k4 k5 _ _ _ _ _ _ y0 y1 y2 y3 y4 y5 i1 (by omega) HFZ.out ?_
      intro V2 u1 hB1
      simp only [slcpL, List.getD_cons_zero, List.getD_cons_succ, List.range, List.range.loop, List.map_cons, List.map_nil, puts, List.foldl_cons, List.foldl_nil, Act.put, List.setIfInBounds_toArray, List.set_cons_succ, List.set_cons_zero]
      have P := (HR.out.1.below hB1).push szEd (by rw [HTl.out]; exact hlt) ⟨tg, ⟨ok, op, oc, oL, os⟩⟩
      rw [HTl.out, ← TK.out] at P
      have NX : Hid (RowX edc 6 74 (setsL u1 g1 (i * 6) [.int .i64 tg, .int .i64 ok, .int .i64 op, .int .u8 oc, .int .i64 oL, .int .i64 os]) g1 nL (log.take (i + 1)) ∧ Fr (fun k => k = g1) u (setsL u1 g1 (i * 6) [.int .i64 tg, .int .i64 ok, .int .i64 op, .int .u8 oc, .int .i64 oL, .int .i64 os])) := ⟨P.1, (HR.out.2.trans (Fr.of_below hB1)).trans P.2⟩
      clear P hB1 HR HFZ TK HTl HHr HGr y0 y1 y2 y3 y4 y5 k0 k1 k2 k3 k4 k5 kg x1 lb lgb lhb
      generalize setsL u1 g1 (i * 6) [.int .i64 tg, .int .i64 ok, .int .i64 op, .int .u8 oc, .int .i64 oL, .int .i64 os] = u2 at *
      have E3 : wrap64 ((i : Int) + 1) = ((i + 1 : Nat) : Int) := by have := HnL.out; rw [wrap64]; omega
      go_wp2
      exact ⟨⟨i + 1, by omega, by rw [E3], NX.out⟩, by rw [E3]; simp only [intOf, Int.toNat_natCast]; omega⟩
    · have hin : nL = i := by omega
      subst hin
      have i1 : ¬ (nL : Int) < (nL : Int) := by omega
      have RL : Hid (RowX edc 6 74 wr g1 nL log) := by
        have := HR.out.1
        rwa [List.take_of_length_le (by have := HL.out.1; omega)] at this
      have FL := hd HR.out.2
      have R20 := hd (R2.out.fr FL.out (fun e => NE.out.1 e.symm))
      clear HR hi hlt R2
      go_wp2_with fail
      clear x1 x2 lhb
      generalize hwo : wr = wo at *
      clear hwo
      go_loopw [5] (fun v wq => ∃ i : Nat, i ≤ nE ∧ v = .int .i64 i ∧ Hid (∃ tx : List Nat, tx.length = i ∧ RowX evt 10 76 wq g2 nE ((evs.take i).zip tx) ∧ TxI wq wo.heap.size g2 D tx ∧ Fr (fun k => k = g2) wo wq)) (fun v _ => nE - (intOf v).toNat)
      case atStart => exact ⟨0, Nat.zero_le _, rfl, [], rfl, by simpa using R20.out, fun q hq => by simp at hq, Fr.refl _ _⟩
      case round =>
        obtain ⟨i, hi, rfl, HR⟩ := hrel
        obtain ⟨tx, ht, hrow, htx, hfr⟩ := HR.out
        have HRow := hd hrow
        have HTx := hd htx
        have HFr := hd hfr
        have HTL := hd ht
        clear HR hrow htx hfr ht R20 i1
        have HHq := hd (HFr.out.keeps (FL.out.keeps HH.out (by have := NE.out; omega)) (by have := NE.out; omega))
        have HGq := hd (HFr.out.keeps (FL.out.keeps HG.out NE.out.2.1) NE.out.2.2.1)
        have x2 := cell_row HHq.out 2
        simp at x2
        have lhb := block_lt HHq.out
        by_cases hlt : i < nE
        · have l1 : i < evs.length := by have := HV.out.1; omega
          obtain ⟨b, off, rfl, s1, q⟩ := HV.out.2 (by omega)
          obtain ⟨k0, k1, k2, k3, k4, k5, k6, k7, k8, k9⟩ := q i l1
          have i1 : (i : Int) < (nE : Int) := by omega
          have kk : Hid (∀ p : Addr, p.block < w.heap.size → wr.cell? p = w.cell? p) := fun p hp => ((HFr.out.cell (p := p) (Nat.lt_of_lt_of_le (Nat.lt_of_lt_of_le hp HBu.out.size) FL.out.size) (by have := NE.out; show ¬ p.block = g2; omega)).trans (FL.out.cell (p := p) (Nat.lt_of_lt_of_le hp HBu.out.size) (by have := NE.out; show ¬ p.block = g1; omega))).trans (HBu.out.cell (p := p) hp)
          rw [← kk.out ⟨b, _, none⟩ s1] at k0 k1 k2 k3 k4 k5 k6 k7 k8 k9
          have hXi := HX.out i l1
          have hDi := HD.out i l1
          have TK := hd (take_one evs i l1)
          have HTl : Hid (((evs.take i).zip tx).length = i ∧ (evs.take i).length = i) := by
            unfold Hid
            rw [List.length_zip, List.length_take]
            have := HTL.out
            omega
          have hwr : w.heap.size ≤ wr.heap.size := Nat.le_trans (Nat.le_trans HBu.out.size FL.out.size) HFr.out.size
          have lb : b < wr.heap.size := Nat.lt_of_lt_of_le s1 hwr
          obtain ⟨ad, had⟩ : ∃ ad, A i = ad := ⟨_, rfl⟩
          obtain ⟨cd, hcd⟩ : ∃ cd, K i = cd := ⟨_, rfl⟩
          rw [had, hcd] at k9
          rw [had] at hXi
          generalize evs[i] = y at *
          obtain ⟨st, si, ha, ma, ⟨ok, op, oc, oL, os⟩, nd⟩ := y
          simp only at k0 k1 k2 k3 k4 k5 k6 k7 k8 k9 hXi hDi
          have HT : Hid (∀ U : World, (∀ p : Addr, p.block < w.heap.size → U.cell? p = w.cell? p) → w.heap.size ≤ U.heap.size → IsT U ad (D i)) := fun U hU hs hl => by
            obtain ⟨b1, o1, e1, e2, e3⟩ := hXi.2 hl
            refine ⟨b1, o1, e1, Nat.lt_of_lt_of_le e2 hs, fun m hm => ?_⟩
            simp only [hU ⟨b1, _, none⟩ e2]
            exact e3 m hm
          have HLn := hd hXi.1
          have HDn := hd hDi
          have kg := cell_row HGq.out 2
          simp at kg
          have lgb := block_lt HGq.out
          have lgr := HRow.out.lt
          obtain ⟨⟨v0, y0⟩, -⟩ := HRow.out.old hlt 0 (by omega); obtain ⟨⟨v1, y1⟩, -⟩ := HRow.out.old hlt 1 (by omega); obtain ⟨⟨v2, y2⟩, -⟩ := HRow.out.old hlt 2 (by omega); obtain ⟨⟨v3, y3⟩, -⟩ := HRow.out.old hlt 3 (by omega); obtain ⟨⟨v4, y4⟩, -⟩ := HRow.out.old hlt 4 (by omega); obtain ⟨⟨v5, y5⟩, -⟩ := HRow.out.old hlt 5 (by omega); obtain ⟨⟨v6, y6⟩, -⟩ := HRow.out.old hlt 6 (by omega); obtain ⟨⟨v7, y7⟩, -⟩ := HRow.out.old hlt 7 (by omega); obtain ⟨⟨v8, y8⟩, -⟩ := HRow.out.old hlt 8 (by omega); obtain ⟨⟨v9, y9⟩, -⟩ := HRow.out.old hlt 9 (by omega)
          rw [Nat.add_zero] at y0
          have HFZ : Hid (∀ U, Below wr.heap.size wr U → U.frozen? ⟨g2, i * 10, none⟩ = false ∧ U.frozen? ⟨g2, i * 10 + 1, none⟩ = false ∧ U.frozen? ⟨g2, i * 10 + 2, none⟩ = false ∧ U.frozen? ⟨g2, i * 10 + 3, none⟩ = false ∧ U.frozen? ⟨g2, i * 10 + 4, none⟩ = false ∧ U.frozen? ⟨g2, i * 10 + 5, none⟩ = false ∧ U.frozen? ⟨g2, i * 10 + 6, none⟩ = false ∧ U.frozen? ⟨g2, i * 10 + 7, none⟩ = false ∧ U.frozen? ⟨g2, i * 10 + 8, none⟩ = false ∧ U.frozen? ⟨g2, i * 10 + 9, none⟩ = false) := fun U hB => by
            have r := HRow.out.below hB
            exact ⟨(r.old hlt 0 (by omega)).2, (r.old hlt 1 (by omega)).2, (r.old hlt 2 (by omega)).2, (r.old hlt 3 (by omega)).2, (r.old hlt 4 (by omega)).2, (r.old hlt 5 (by omega)).2, (r.old hlt 6 (by omega)).2, (r.old hlt 7 (by omega)).2, (r.old hlt 8 (by omega)).2, (r.old hlt 9 (by omega)).2⟩
          have HNg := hd (show b ≠ g2 ∧ w.heap.size ≠ g2 from ⟨by have := NE.out; omega, by have := NE.out; omega⟩)
          clear q s1 hXi hDi had hcd
          go_upto_region 9 with fail
          refine cpE _ _ w.heap.size g g2 b off i nE nE cE st si ha ma ok op oc oL os ad nd cd rfl rfl rfl (by simp) lhb lgb lgr lb kg x2 k0 k1 k2 k3 k4 k5 k6 k7 k8 k9 _ _ _ _ _ _ _ _ _ _ y0 y1 y2 y3 y4 y5 y6 y7 y8 y9 i1 (by omega) HFZ.out ?_
          intro V2 u1 hB1
          simp only [slcpE, List.getD_cons_zero, List.getD_cons_succ, List.range, List.range.loop, List.map_cons, List.map_nil, puts, List.foldl_cons, List.foldl_nil, Act.put, List.setIfInBounds_toArray, List.set_cons_succ, List.set_cons_zero]
          have R1' := HRow.out.below hB1
          have hst := R1'.sets (i * 10) [.int .i64 st, .int .i64 si, .int .i64 ha, .int .i64 ma, .int .i64 ok, .int .i64 op, .int .u8 oc, .int .i64 oL, .int .i64 os, .slice ad nd cd] (by rw [HTl.out.1]; omega) (by simp; omega)
          have R5 := hd hst.1
          have F5 := hd hst.2
          have HRw1 := hd R1'
          have HB1 := hd hB1
          have s5 : wr.heap.size ≤ (setsL u1 g2 (i * 10) [.int .i64 st, .int .i64 si, .int .i64 ha, .int .i64 ma, .int .i64 ok, .int .i64 op, .int .u8 oc, .int .i64 oL, .int .i64 os, .slice ad nd cd]).heap.size := Nat.le_trans hB1.size hst.2.size
          have c2h := (F5.out.cell (p := ⟨w.heap.size, 2, none⟩) (Nat.lt_of_lt_of_le lhb hB1.size) HNg.out.2).trans ((hB1.cell (p := ⟨w.heap.size, 2, none⟩) lhb).trans x2)
          have c2g := (F5.out.cell (p := ⟨g, 2, none⟩) (Nat.lt_of_lt_of_le lgb hB1.size) NE.out.2.2.1).trans ((hB1.cell (p := ⟨g, 2, none⟩) lgb).trans kg)
          have c9 := (F5.out.cell (p := ⟨b, off + i * 10 + 9, none⟩) (Nat.lt_of_lt_of_le lb hB1.size) HNg.out.1).trans ((hB1.cell (p := ⟨b, off + i * 10 + 9, none⟩) lb).trans k9)
          have lh5 := Nat.lt_of_lt_of_le lhb s5
          have lg5 := Nat.lt_of_lt_of_le lgb s5
          have lb5 := Nat.lt_of_lt_of_le lb s5
          have HU5 : Hid (∀ p : Addr, p.block < w.heap.size → (setsL u1 g2 (i * 10) [.int .i64 st, .int .i64 si, .int .i64 ha, .int .i64 ma, .int .i64 ok, .int .i64 op, .int .u8 oc, .int .i64 oL, .int .i64 os, .slice ad nd cd]).cell? p = w.cell? p) := fun p hp => (F5.out.cell (p := p) (Nat.lt_of_lt_of_le (Nat.lt_of_lt_of_le hp hwr) hB1.size) (by have := NE.out; show ¬ p.block = g2; omega)).trans ((hB1.cell (p := p) (Nat.lt_of_lt_of_le hp hwr)).trans (kk.out p hp))
          obtain ⟨⟨o9, y95⟩, -⟩ := R5.out.old hlt 9 (by omega)
          have HS5 := hd (show w.heap.size ≤ (setsL u1 g2 (i * 10) [.int .i64 st, .int .i64 si, .int .i64 ha, .int .i64 ma, .int .i64 ok, .int .i64 op, .int .u8 oc, .int .i64 oL, .int .i64 os, .slice ad nd cd]).heap.size ∧ wr.heap.size ≤ (setsL u1 g2 (i * 10) [.int .i64 st, .int .i64 si, .int .i64 ha, .int .i64 ma, .int .i64 ok, .int .i64 op, .int .u8 oc, .int .i64 oL, .int .i64 os, .slice ad nd cd]).heap.size from ⟨Nat.le_trans hwr s5, s5⟩)
          clear hst R1' k0 k1 k2 k3 k4 k5 k6 k7 k8 k9 y0 y1 y2 y3 y4 y5 y6 y7 y8 y9 kg x2 HFZ hB1
          generalize hw5 : setsL u1 g2 (i * 10) [.int .i64 st, .int .i64 si, .int .i64 ha, .int .i64 ma, .int .i64 ok, .int .i64 op, .int .u8 oc, .int .i64 oL, .int .i64 os, .slice ad nd cd] = w5 at *
          have HW5 := hd hw5
          clear hw5
          go_upto_region 10 with fail
          refine cpD _ _ w.heap.size g g2 b off i nE nE cE nd cd ad rfl rfl rfl (by simp) lh5 lg5 R5.out.lt lb5 c2g c2h c9 _ y95 i1 (by omega) (fun U hB => ((R5.out.below hB).old hlt 9 (by omega)).2) (fun v u' => ∃ t, v = .slice (some ⟨t, 0, none⟩) nd nd ∧ w5.heap.size ≤ t ∧ t < u'.heap.size ∧ ∀ m (hm : m < (D i).length), u'.cell? ⟨t, m * 3, none⟩ = some (.int .u8 (D i)[m].1) ∧ u'.cell? ⟨t, m * 3 + 1, none⟩ = some (.int .i64 (D i)[m].2.1) ∧ u'.cell? ⟨t, m * 3 + 2, none⟩ = some (.int .i64 (D i)[m].2.2)) (fun v u' ⟨t, e, _⟩ => ⟨_, _, _, e⟩) (fun v u' u'' ⟨t, e, l1, l2, l3⟩ hb => ⟨t, e, l1, Nat.lt_of_lt_of_le l2 hb.size, fun m hm => by
            have k : ∀ q, u''.cell? ⟨t, q, none⟩ = u'.cell? ⟨t, q, none⟩ := fun q => hb.cell (p := ⟨t, q, none⟩) l2
            simp only [k]
            exact l3 m hm⟩) (fun U hB => (copiedDoc_any ad nd cd (D i) U HLn.out HDn.out (HT.out U (fun p hp => (hB.cell (p := p) (Nat.lt_of_lt_of_le hp HS5.out.1)).trans (HU5.out p hp)) (Nat.le_trans HS5.out.1 hB.size))).mono (fun e w' ⟨t, e1, e2, e3, e4, e5⟩ => ⟨_, e1, ⟨t, rfl, Nat.le_trans hB.size e2, e4, e3⟩, e5⟩)) ?_
          intro V3 v u2 hB2 hR
          obtain ⟨t, rfl, t1, t2, t3⟩ := hR
          simp only [slcpD, List.getD_cons_zero, List.getD_cons_succ, List.range, List.range.loop, List.map_cons, List.map_nil, puts, List.foldl_cons, List.foldl_nil, Act.put, List.setIfInBounds_toArray, List.set_cons_succ, List.set_cons_zero]
          have NX : Hid (∃ tx' : List Nat, tx'.length = i + 1 ∧ RowX evt 10 76 (u2.setCell ⟨g2, i * 10 + 9, none⟩ (.slice (some ⟨t, 0, none⟩) nd nd)) g2 nE ((evs.take (i + 1)).zip tx') ∧ TxI (u2.setCell ⟨g2, i * 10 + 9, none⟩ (.slice (some ⟨t, 0, none⟩) nd nd)) wo.heap.size g2 D tx' ∧ Fr (fun k => k = g2) wo (u2.setCell ⟨g2, i * 10 + 9, none⟩ (.slice (some ⟨t, 0, none⟩) nd nd))) := by
            have fs : Fr (fun k => k = g2) u2 (u2.setCell ⟨g2, i * 10 + 9, none⟩ (.slice (some ⟨t, 0, none⟩) nd nd)) := Fr.setCell _ _ _ rfl
            have f1 : Fr (fun k => k = g2) wr (u2.setCell ⟨g2, i * 10 + 9, none⟩ (.slice (some ⟨t, 0, none⟩) nd nd)) := (((Fr.of_below HB1.out).trans F5.out).trans (Fr.of_below hB2)).trans fs
            have tg2 : t ≠ g2 := by have := R5.out.lt; omega
            refine ⟨tx ++ [t], by rw [List.length_append, HTL.out]; rfl, ?_, ?_, HFr.out.trans f1⟩
            · have rl := RowX.last (t := t) (y := ⟨st, si, ha, ma, ⟨ok, op, oc, oL, os⟩, nd⟩) (d := .slice ad nd cd) (u := u2) HRw1.out (by rw [HTl.out.1]; exact hlt) (by
                rw [HTl.out.1]
                have := HW5.out
                simp only
                rw [this]
                exact Fr.of_below hB2)
              rw [HTl.out.1] at rl
              rw [TK.out, List.zip_append (by rw [HTl.out.2, HTL.out])]
              exact rl
            · intro q hq
              rw [List.length_append, HTL.out, List.length_singleton] at hq
              by_cases e : q < i
              · have hq' : q < tx.length := by rw [HTL.out]; exact e
                have := (HTx.out.fr f1 (fun q hq => (HTx.out q hq).2.2.1)) q hq'
                simp only [List.getElem_append_left hq']
                exact this
              · obtain rfl : q = i := by omega
                have hget : (tx ++ [t])[q]'(by simp [HTL.out]) = t := by
                  rw [List.getElem_append_right (by rw [HTL.out]; exact Nat.le_refl _)]
                  simp
                simp only [hget]
                refine ⟨Nat.le_trans (Nat.le_trans HFr.out.size HS5.out.2) t1, Nat.lt_of_lt_of_le t2 fs.size, tg2, fun m hm => ?_⟩
                have k : ∀ j, (u2.setCell ⟨g2, q * 10 + 9, none⟩ (.slice (some ⟨t, 0, none⟩) nd nd)).cell? ⟨t, j, none⟩ = u2.cell? ⟨t, j, none⟩ := fun j => fs.cell (p := ⟨t, j, none⟩) t2 tg2
                simp only [k]
                exact t3 m hm
          clear hB2 t1 t2 t3 HB1 F5 HRw1 HW5 HU5 HS5 R5 c2h c2g c9 lh5 lg5 lb5 y95 HT HLn HDn TK HTl HTx HRow HFr HTL s5 kk
          generalize u2.setCell ⟨g2, i * 10 + 9, none⟩ (.slice (some ⟨t, 0, none⟩) nd nd) = u6 at *
          have E3 : wrap64 ((i : Int) + 1) = ((i + 1 : Nat) : Int) := by have := HnE.out; rw [wrap64]; omega
          go_wp2
          exact ⟨⟨i + 1, by omega, by rw [E3], NX.out⟩, by rw [E3]; simp only [intOf, Int.toNat_natCast]; omega⟩
        · have hin : nE = i := by omega
          subst hin
          have i1 : ¬ (nE : Int) < (nE : Int) := by omega
          have RE : Hid (RowX evt 10 76 wr g2 nE (evs.zip tx)) := by
            have := HRow.out
            rwa [List.take_of_length_le (by have := HV.out.1; omega)] at this
          have RLq := hd (RL.out.fr HFr.out (fun e => NE.out.1 e))
          have HRq := hd (HFr.out.keeps (FL.out.keeps HRs.out (by have := NE.out; omega)) (by have := NE.out; omega))
          have z0 := cell_row HRq.out 0; have z1 := cell_row HRq.out 1; have z2 := cell_row HRq.out 2
          simp at z0 z1 z2
          have f0 := frozen_row HRq.out 0; have f1 := frozen_row HRq.out 1; have f2 := frozen_row HRq.out 2
          have y0 := cell_row HGq.out 0; have y1 := cell_row HGq.out 1; have y2 := cell_row HGq.out 2
          simp at y0 y1 y2
          have BW := hd ((HBu.out.trans (FL.out.below HBu.out.size (fun k hk => by have := NE.out; omega))).trans (HFr.out.below (Nat.le_trans HBu.out.size FL.out.size) (fun k hk => by have := NE.out; omega)))
          have FN := hd (set3h wr (w.heap.size + 1) (.int .i64 C) (.slice (some ⟨g1, 0, none⟩) nL nL) (.slice (some ⟨g2, 0, none⟩) nE nE))
          have RN := hd (set3h_row HRq.out (.int .i64 C) (.slice (some ⟨g1, 0, none⟩) nL nL) (.slice (some ⟨g2, 0, none⟩) nE nE))
          have HXl : Hid (∀ j (hj : j < evs.length), (D j).length = evs[j].len) := fun j hj => (HX.out j hj).1
          clear hi hlt
          go_wp2
          generalize ((wr.setCell ⟨w.heap.size + 1, 0, none⟩ (.int .i64 C)).setCell ⟨w.heap.size + 1, 1, none⟩ (.slice (some ⟨g1, 0, none⟩) nL nL)).setCell ⟨w.heap.size + 1, 2, none⟩ (.slice (some ⟨g2, 0, none⟩) nE nE) = wf at *
          have w0' := cell_row RN.out 0; have w1' := cell_row RN.out 1; have w2' := cell_row RN.out 2
          simp at w0' w1' w2'
          refine bodyPost_ret (v := .agg #[.int .i64 C, .slice (some ⟨g1, 0, none⟩) nL nL, .slice (some ⟨g2, 0, none⟩) nE nE]) (by simp [results, Tryz.results7, go_sem, w0', w1', w2']) rfl ?_
          have nn := NE.out
          refine ⟨g1, g2, _, _, rfl, row_log (RLq.out.fr FN.out (by omega)) HL.out.1, row_evs (RE.out.fr FN.out (by omega)) HV.out.1 HTL.out, tx_docs (HTx.out.fr FN.out (fun q hq => ?_)) (by rw [HTL.out, HV.out.1]) HXl.out, BW.out.trans (FN.out.below BW.out.size (fun k hk => by omega))⟩
          have := (HTx.out q hq).1
          have := FL.out.size
          have h2 := block_lt HRs.out
          omega

end Go.Proofs.YtfhghijefjhehaaGreatDoor

/-! Im -/
namespace Go.Proofs.YtfhghijefjhehaaGreatDoor
open Go.RowKit
set_option linter.unusedVariables false

theorem zeroT : Tryz.zeroCells117 = #[.int .i64 0, .slice none 0 0, .slice none 0 0] ++ Array.replicate 195 (.slice none 0 0) := by kernel_rfl

/-- What read answers. -/
def RO (C : Int) (aL aE : Option Addr) (nL cL nE cE : Nat) (log : List Ed) (evs : List Ev) (D : Nat → List El) (w : World) (e : Ending) (w' : World) : Prop :=
  ∃ v ev, e = .returned (.tuple #[v, ev]) ∧ Below w.heap.size w w' ∧
    ((¬ (1 ≤ C ∧ C ≤ 64) ∧ IsF w' ev 0 140) ∨ ((1 ≤ C ∧ C ≤ 64) ∧ 4096 < nL ∧ IsF w' ev 0 143) ∨
     ((1 ≤ C ∧ C ≤ 64) ∧ nL ≤ 4096 ∧ ∃ k : Nat, k < nL ∧ GL C log k ∧ (∀ x, log[k]? = some x → ¬ canP chg C log k x) ∧ IsF w' ev k 141) ∨
     ((1 ≤ C ∧ C ≤ 64) ∧ nL ≤ 4096 ∧ GL C log nL ∧ ∃ i : Nat, i < nE ∧ GE C log evs i ∧ (∀ x, evs[i]? = some x → ¬ canS chg fit C log (stP evs i) (pv evs i x.site) x) ∧ IsF w' ev i 142) ∨
     ((1 ≤ C ∧ C ≤ 64) ∧ nL ≤ 4096 ∧ GL C log nL ∧ GE C log evs nE ∧ ∃ k : Nat, k < nL ∧ (∀ (j : Nat) (x : Ed), j < k → log[j]? = some x → x.o.sq ≤ (dn evs nE x.o.cl : Int)) ∧ (∀ x : Ed, log[k]? = some x → (dn evs nE x.o.cl : Int) < x.o.sq) ∧ IsF w' ev k 141) ∨
     ((1 ≤ C ∧ C ≤ 64) ∧ nL ≤ 4096 ∧ GL C log nL ∧ GE C log evs nE ∧ (∀ (j : Nat) (x : Ed), log[j]? = some x → x.o.sq ≤ (dn evs nE x.o.cl : Int)) ∧ ev = .nilIface ∧ ∃ x L, v = .pointer (some ⟨x, 0, none⟩) ∧ w.heap.size ≤ x ∧ TL w' x C (.slice aL nL cL) (.slice aE nE cE) (S2 log evs D nE) L))

/-- Within read. -/
def RI (C : Int) (aL aE : Option Addr) (nL cL nE cE : Nat) (w wr : World) (S : Nat → Ls) : Prop :=
  wr.heap[w.heap.size]? = some (.cells #[.int .i64 C, .slice aL nL cL, .slice aE nE cE] 25 (0, 0)) ∧ (∃ L, TL wr (w.heap.size + 1) C (.slice aL nL cL) (.slice aE nE cE) S L) ∧ Below w.heap.size w wr
theorem RI.below {C : Int} {aL aE : Option Addr} {nL cL nE cE : Nat} {w wr u : World} {S : Nat → Ls} (h : RI C aL aE nL cL nE cE w wr S) (hb : Below wr.heap.size wr u) : RI C aL aE nL cL nE cE w u S := by
  obtain ⟨h1, ⟨L, h2⟩, h3⟩ := h
  exact ⟨block_keep hb h1 (block_lt h1), ⟨L, h2.below hb⟩, h3.trans (hb.mono h3.size)⟩
theorem RI.fr {C : Int} {aL aE : Option Addr} {nL cL nE cE : Nat} {w wr u : World} {S S' : Nat → Ls} {L' : Nat → Option Nat} (h : RI C aL aE nL cL nE cE w wr S) (hF : Fr (fun k => w.heap.size + 1 ≤ k) wr u) (hT : TL u (w.heap.size + 1) C (.slice aL nL cL) (.slice aE nE cE) S' L') : RI C aL aE nL cL nE cE w u S' := by
  obtain ⟨h1, -, h3⟩ := h
  exact ⟨hF.keeps h1 (by omega), ⟨L', hT⟩, h3.trans (hF.below h3.size (fun k hk => by omega))⟩

theorem tale_new (C : Int) (aL aE : Option Addr) (nL cL nE cE : Nat) (log : List Ed) (w : World) : RI C aL aE nL cL nE cE w ((w.alloc (.cells #[.int .i64 C, .slice aL nL cL, .slice aE nE cE] 25)).alloc (.cells (((Tryz.zeroCells117.setIfInBounds 0 (.int .i64 C)).setIfInBounds 1 (.slice aL nL cL)).setIfInBounds 2 (.slice aE nE cE)) 117)) (S1 log 0) := by
  refine ⟨(heap_alloc_old _ _ (by simp)).trans (heap_alloc_new _ _), ⟨fun _ => none, ⟨⟨((Tryz.zeroCells117.setIfInBounds 0 (.int .i64 C)).setIfInBounds 1 (.slice aL nL cL)).setIfInBounds 2 (.slice aE nE cE), ?_, ?_, ?_, ?_, ?_, fun i hi => ⟨.slice none 0 0, ?_, ?_⟩⟩, fun i j g _ _ h => (by cases h), fun i g _ h => (by cases h)⟩⟩, ((Below.refl _ _).alloc (Nat.le_refl _) _).alloc (by simp) _⟩
  · have := heap_alloc_new (w.alloc (.cells #[.int .i64 C, .slice aL nL cL, .slice aE nE cE] 25)) (.cells (((Tryz.zeroCells117.setIfInBounds 0 (.int .i64 C)).setIfInBounds 1 (.slice aL nL cL)).setIfInBounds 2 (.slice aE nE cE)) 117)
    rwa [World.size_alloc] at this
  · rw [zeroT]; simp
  · rw [zeroT]; simp
  · rw [zeroT]; simp
  · rw [zeroT]; simp
  · rw [zeroT, Array.getElem?_setIfInBounds_ne (by omega), Array.getElem?_setIfInBounds_ne (by omega), Array.getElem?_setIfInBounds_ne (by omega), Array.getElem?_append_right (by simp)]
    simp [hi]
  · unfold S1
    split
    · exact ⟨rfl, rfl⟩
    · split
      · exact ⟨rfl, rfl⟩
      · exact ⟨rfl, rfl⟩

set_option maxRecDepth 100000 in
set_option maxHeartbeats 16000000 in
theorem read_any (C : Int) (aL aE : Option Addr) (nL cL nE cE : Nat) (log : List Ed) (evs : List Ev) (A : Nat → Option Addr) (K : Nat → Nat) (D : Nat → List El) (w : World) (hL : IsL w aL nL log) (hV : IsV w aE nE evs A K) (hX : IsX w evs A D) (hnE : nE ≤ 2199023255552)
    (hcl : ∀ j (h : j < log.length), 0 ≤ log[j].o.ch ∧ log[j].o.ch ≤ 255) (hce : ∀ j (h : j < evs.length), 0 ≤ evs[j].o.ch ∧ evs[j].o.ch ≤ 255) :
    Calls Tryz.prog 15 #[.agg #[.int .i64 C, .slice aL nL cL, .slice aE nE cE]] w fun e w' => RO C aL aE nL cL nE cE log evs D w e w' := by
  have HL := hd hL
  have HV := hd hV
  have HX := hd hX
  have HNE := hd hnE
  have HCL := hd hcl
  have HCE := hd hce
  have HB0 := hd (show Below w.heap.size w (w.alloc (.cells #[.int .i64 C, .slice aL nL cL, .slice aE nE cE] 25)) from (Below.refl _ _).alloc (Nat.le_refl _) _)
  clear hL hV hX hnE hcl hce
  by_cases b1 : C < 1
  · have CW := hd (fun W => wrap_any 0 140 W)
    go_enter Tryz.func15, Tryz.ntmps15
    go_wp2_with fail
    refine (CW.out _).mono ?_
    rintro e u ⟨v, rfl, hF, bu⟩
    have Z := hd (show IsF u v 0 140 ∧ Below w.heap.size w u from ⟨hF, HB0.out.trans (bu.mono HB0.out.size)⟩)
    clear hF bu CW
    go_wp2
    go_ret2
    exact ⟨_, _, rfl, Z.out.2, .inl ⟨by omega, Z.out.1⟩⟩
  by_cases b2 : 64 < C
  · have CW := hd (fun W => wrap_any 0 140 W)
    go_enter Tryz.func15, Tryz.ntmps15
    go_wp2_with fail
    refine (CW.out _).mono ?_
    rintro e u ⟨v, rfl, hF, bu⟩
    have Z := hd (show IsF u v 0 140 ∧ Below w.heap.size w u from ⟨hF, HB0.out.trans (bu.mono HB0.out.size)⟩)
    clear hF bu CW
    go_wp2
    go_ret2
    exact ⟨_, _, rfl, Z.out.2, .inl ⟨by omega, Z.out.1⟩⟩
  have HC := hd (show 1 ≤ C ∧ C ≤ 64 from ⟨by omega, by omega⟩)
  by_cases b3 : (4096 : Int) < (nL : Int)
  · have CW := hd (fun W => wrap_any 0 143 W)
    go_enter Tryz.func15, Tryz.ntmps15
    go_wp2_with fail
    refine (CW.out _).mono ?_
    rintro e u ⟨v, rfl, hF, bu⟩
    have Z := hd (show IsF u v 0 143 ∧ Below w.heap.size w u from ⟨hF, HB0.out.trans (bu.mono HB0.out.size)⟩)
    clear hF bu CW
    go_wp2
    go_ret2
    exact ⟨_, _, rfl, Z.out.2, .inr (.inl ⟨HC.out, by omega, Z.out.1⟩)⟩
  have HN := hd (show nL ≤ 4096 by omega)
  have R0 := hd (tale_new C aL aE nL cL nE cE log w)
  have CW := hd (fun p c W => wrap_any p c W)
  go_enter Tryz.func15, Tryz.ntmps15
  go_upto_region 6 with fail
  clear b1 b2 b3 HB0
  generalize (w.alloc (.cells #[.int .i64 C, .slice aL nL cL, .slice aE nE cE] 25)).alloc (.cells (((Tryz.zeroCells117.setIfInBounds 0 (.int .i64 C)).setIfInBounds 1 (.slice aL nL cL)).setIfInBounds 2 (.slice aE nE cE)) 117) = w0 at *
  have x1 := cell_row R0.out.1 1
  simp at x1
  go_wp2_with fail
  clear x1
  go_loopw [31] (fun v wr => ∃ k : Nat, k ≤ nL ∧ v = .int .i64 k ∧ Hid (RI C aL aE nL cL nE cE w wr (S1 log k) ∧ GL C log k)) (fun v _ => nL - (intOf v).toNat)
  case atStart => exact ⟨0, Nat.zero_le _, rfl, R0.out, fun j x h => by omega⟩
  case round =>
    obtain ⟨k, hk, rfl, HR⟩ := hrel
    clear R0
    by_cases hlt : k < nL
    · have l1 : k < log.length := by have := HL.out.1; omega
      obtain ⟨b, off, rfl, s1, q⟩ := (HL.out.below HR.out.1.2.2 (Nat.le_refl _)).2 (by omega)
      obtain ⟨q0, q1, q2, q3, q4, q5⟩ := q k l1
      have i1 : (k : Int) < (nL : Int) := by omega
      have hcc := HCL.out k l1
      have ST := hd (fun cN (h : log[k].o.cl = ((cN : Nat) : Int)) (h2 : cN < 65) => S1_step (log := log) k l1 cN h h2)
      have NO := hd (show ¬ canP chg C log k log[k] → ∀ x, log[k]? = some x → ¬ canP chg C log k x from fun h x hx => by rw [List.getElem?_eq_getElem l1] at hx; injection hx with hx; rw [← hx]; exact h)
      have YE := hd (show canP chg C log k log[k] → GL C log (k + 1) from fun h j x hj hx => by
        by_cases e : j = k
        · subst e
          rw [List.getElem?_eq_getElem l1] at hx
          injection hx with hx
          rw [← hx]
          exact h
        · exact HR.out.2 j x (by omega) hx)
      have HG := hd HR.out.2
      have HI := hd HR.out.1
      clear q HR s1
      generalize log[k] = y at *
      obtain ⟨tg, ⟨ok, op, oc, oL, os⟩⟩ := y
      simp only at q0 q1 q2 q3 q4 q5 hcc ST NO YE
      have hM := hd (heap_alloc_new wr (.cells #[.int .i64 tg, .int .i64 ok, .int .i64 op, .int .u8 oc, .int .i64 oL, .int .i64 os] 74))
      have hb : Hid (Below wr.heap.size wr (wr.alloc (.cells #[.int .i64 tg, .int .i64 ok, .int .i64 op, .int .u8 oc, .int .i64 oL, .int .i64 os] 74))) := (Below.refl _ _).alloc (Nat.le_refl _) _
      go_upto_region 9 with fail
      generalize wr.alloc (.cells #[.int .i64 tg, .int .i64 ok, .int .i64 op, .int .u8 oc, .int .i64 oL, .int .i64 os] 74) = w4 at *
      clear q0 q1 q2 q3 q4 q5
      have I4 := hd (HI.out.below hb.out)
      obtain ⟨L4, hT4⟩ := I4.out.2.1
      have HT4 := hd hT4
      have lM := block_lt hM.out
      have m0 := cell_row hM.out 0; have m1 := cell_row hM.out 1; have m2 := cell_row hM.out 2; have m3 := cell_row hM.out 3; have m4 := cell_row hM.out 4; have m5 := cell_row hM.out 5
      simp at m0 m1 m2 m3 m4 m5
      have CC := hd (canLog_any hT4 (HL.out.below I4.out.2.2 (Nat.le_refl _)) k hk HN.out tg ok op oc oL os hcc.1 hcc.2 (fun c hc => by simp only [S1, if_pos hc]))
      have HRW := hd (fun j (hj : j < 195) (L0 : Nat → Option Nat) (h0 : TL wr (w.heap.size + 1) C (.slice (some ⟨b, off, none⟩) nL cL) (.slice aE nE cE) (S1 log k) L0) => h0.not_row (b := wr.heap.size) hj (Nat.le_refl _))
      obtain ⟨L3, hT3⟩ := HI.out.2.1
      have HT3 := hd hT3
      have HBw := hd hb.out
      clear hT4 hT3 hb I4 HT4 hcc
      go_wp2_with fail
      refine CC.out.mono ?_
      rintro e u ⟨r, rfl, hr, bu⟩
      have BU := hd (HBw.out.trans (bu.mono HBw.out.size))
      have Iu := hd (HI.out.below BU.out)
      have BWu := hd bu
      clear bu CC
      cases r with
      | false =>
        have NOT : Hid (∀ x, log[k]? = some x → ¬ canP chg C log k x) := NO.out (fun h => by have := hr.2 h; cases this)
        clear hr NO YE ST
        go_wp2_with fail
        refine (CW.out _ _ _).mono ?_
        rintro e u2 ⟨v, rfl, hF, b2⟩
        have Z := hd (show IsF u2 v k 141 ∧ Below w.heap.size w u2 from ⟨hF, Iu.out.2.2.trans (b2.mono Iu.out.2.2.size)⟩)
        clear hF b2
        go_wp2
        go_ret2
        exact ⟨_, _, rfl, Z.out.2, .inr (.inr (.inl ⟨HC.out, HN.out, k, hlt, HG.out, NOT.out, Z.out.1⟩))⟩
      | true =>
        have YES := hd (YE.out (hr.1 rfl))
        obtain ⟨r1, r2, r3, r4⟩ := chP_range (hr.1 rfl).1
        simp only at r1 r2 r3 r4
        obtain ⟨cN, rfl⟩ : ∃ cN : Nat, oL = (cN : Int) := ⟨oL.toNat, by omega⟩
        have c65 : (cN : Int) < 65 := by omega
        have SS := hd (ST.out cN rfl (by omega))
        have HTu := hd (HT3.out.below BU.out)
        have k4 := (BWu.out.cell (p := ⟨wr.heap.size, 4, none⟩) lM).trans m4
        have lu := Nat.lt_of_lt_of_le lM BWu.out.size
        have NR : Hid (L3 cN ≠ some wr.heap.size) := HRW.out cN (by omega) L3 HT3.out
        clear hr NO YE ST HRW r1 r2 r3 r4 m0 m1 m2 m3 m4 m5
        obtain ⟨v, hv, hs⟩ := HTu.out.slot cN (by omega)
        rw [show S1 log k cN = .ns (lgAt log k cN) from by simp only [S1, if_pos (show cN < 65 by omega)]] at hs
        obtain ⟨oa, oc', rfl, -, -⟩ := SF.form hs
        have HSF := hd hs
        have HVv := hd hv
        have HLe := hd (lgAt_le log k (cN : Int))
        clear hs hv
        go_upto_region 11 with fail
        refine pushL _ _ (w.heap.size + 1) wr.heap.size cN (lgAt log k cN).length oc' oa k rfl rfl rfl (by simp) c65 (PP nic 1 3 u (L3 cN) (lgAt log k cN ++ [k])) (fun u1 hB => ⟨(hB.cell (p := ⟨wr.heap.size, 4, none⟩) lu).trans k4, (hB.cell (p := ⟨w.heap.size + 1, 3 + cN, none⟩) HTu.out.lt).trans HVv.out⟩) (fun v u1 hP => ⟨hP.cell (p := ⟨wr.heap.size, 4, none⟩) lu NR.out k4, hP.cell (p := ⟨w.heap.size + 1, 3 + cN, none⟩) HTu.out.lt (HTu.out.not_x (by omega)) HVv.out⟩) (fun u1 g hB hg => run_ints HSF.out k hB hg (by have := HLe.out; have := HN.out; omega)) (fun v u1 hP => ⟨hP.form, by
          obtain ⟨cur, hh, -⟩ := HTu.out.blk
          exact frozen_row ((hP.block HTu.out.lt (HTu.out.not_x (by omega))).trans hh) _⟩) ?_
        intro V' v' u1 hP
        have HP := hd (HTu.out.pushN (by omega) hP)
        rw [← SS.out] at HP
        have NX : Hid (RI C (some ⟨b, off, none⟩) aE nL cL nE cE w (u1.setCell ⟨w.heap.size + 1, 3 + cN, none⟩ v') (S1 log (k + 1))) := by
          obtain ⟨g', h1, h2⟩ := HP.out
          exact Iu.out.fr h2 h1
        clear hP HP HSF HVv NR k4 lu HTu SS HT3
        simp only [slpushL, List.getD_cons_zero, List.getD_cons_succ, List.range, List.range.loop, List.map_cons, List.map_nil, puts, List.foldl_cons, List.foldl_nil, Act.put, List.setIfInBounds_toArray, List.set_cons_succ, List.set_cons_zero]
        generalize u1.setCell ⟨w.heap.size + 1, 3 + cN, none⟩ v' = u2 at *
        have E3 : wrap64 ((k : Int) + 1) = ((k + 1 : Nat) : Int) := by have := HN.out; rw [wrap64]; omega
        go_wp2
        exact ⟨⟨k + 1, by omega, by rw [E3], NX.out, YES.out⟩, by rw [E3]; simp only [intOf, Int.toNat_natCast]; omega⟩
    · have q00 := trivial
      have hkn : nL = k := by omega
      subst hkn
      have I1 : Hid (RI C aL aE nL cL nE cE w wr (S2 log evs D 0)) := by
        have h1 := HR.out.1
        rw [show S1 log nL = S2 log evs D 0 from by rw [← HL.out.1]; exact S12] at h1
        exact h1
      have G1 := hd HR.out.2
      clear HR hk hlt
      have x2 := cell_row I1.out.1 2
      simp at x2
      go_wp2_with fail
      clear x2
      go_loopw [65] (fun v wr => ∃ i : Nat, i ≤ nE ∧ v = .int .i64 i ∧ Hid (RI C aL aE nL cL nE cE w wr (S2 log evs D i) ∧ GE C log evs i)) (fun v _ => nE - (intOf v).toNat)
      case atStart => exact ⟨0, Nat.zero_le _, rfl, I1.out, fun j x h => by omega⟩
      case round =>
        obtain ⟨i, hi, rfl, HR⟩ := hrel
        clear I1
        by_cases hlt : i < nE
        · have l1 : i < evs.length := by have := HV.out.1; omega
          obtain ⟨b, off, rfl, s1, q⟩ := (HV.out.below HR.out.1.2.2 (Nat.le_refl _)).2 (by omega)
          obtain ⟨q0, q1, q2, q3, q4, q5, q6, q7, q8, q9⟩ := q i l1
          have i1 : (i : Int) < (nE : Int) := by omega
          have hcc := HCE.out i l1
          have ND := hd (fun cN (h : evs[i].site = ((cN : Nat) : Int)) (h2 : cN < 65) (h3 : evs[i].o = zo) => S2_idle (log := log) (D := D) i l1 cN h h2 h3)
          have MD := hd (fun cN (h : evs[i].site = ((cN : Nat) : Int)) (h2 : cN < 65) (h3 : evs[i].o ≠ zo) => S2_made (log := log) (D := D) i l1 cN h h2 h3)
          have ELT := hd (fun (c : Int) (o : OpE) hk hf => el_take (D := D) HX.out (show i ≤ evs.length by omega) c (o := o) hk hf)
          have PB := hd (fun c => pv_bounds HR.out.2 c)
          have NO := hd (show ¬ canS chg fit C log (stP evs i) (pv evs i evs[i].site) evs[i] → ∀ x, evs[i]? = some x → ¬ canS chg fit C log (stP evs i) (pv evs i x.site) x from fun h x hx => by rw [List.getElem?_eq_getElem l1] at hx; injection hx with hx; rw [← hx]; exact h)
          have YE := hd (show canS chg fit C log (stP evs i) (pv evs i evs[i].site) evs[i] → GE C log evs (i + 1) from fun h j x hj hx => by
            by_cases e : j = i
            · subst e
              rw [List.getElem?_eq_getElem l1] at hx
              injection hx with hx
              rw [← hx]
              exact h
            · exact HR.out.2 j x (by omega) hx)
          have HG := hd HR.out.2
          have HI := hd HR.out.1
          have HSL := hd (fun k (c : Int) (hk : k ∈ shAt evs i c) => show k < evs.length from by have := (shAt_lt hk).1; omega)
          have HSE := hd (fun c => shAt_le (evs := evs) i c)
          have HDE := hd (fun c => show (ddAt evs D i c).length ≤ i from by rw [ddAt_len]; exact dn_le i c)
          have HEO := hd (fun c => evO_pv evs A K i c)
          obtain ⟨ad, had⟩ : ∃ ad, A i = ad := ⟨_, rfl⟩
          obtain ⟨cd, hcd⟩ : ∃ cd, K i = cd := ⟨_, rfl⟩
          rw [had, hcd] at q9
          clear q HR s1 had hcd
          generalize hyy : evs[i] = y at *
          obtain ⟨st, si, ha, ma, ⟨ok, op, oc, oL, os⟩, nd⟩ := y
          simp only at q0 q1 q2 q3 q4 q5 q6 q7 q8 q9 hcc ND MD NO YE
          have hM := hd (heap_alloc_new wr (.cells #[.int .i64 st, .int .i64 si, .int .i64 ha, .int .i64 ma, .int .i64 ok, .int .i64 op, .int .u8 oc, .int .i64 oL, .int .i64 os, .slice ad nd cd] 76))
          have hb : Hid (Below wr.heap.size wr (wr.alloc (.cells #[.int .i64 st, .int .i64 si, .int .i64 ha, .int .i64 ma, .int .i64 ok, .int .i64 op, .int .u8 oc, .int .i64 oL, .int .i64 os, .slice ad nd cd] 76))) := (Below.refl _ _).alloc (Nat.le_refl _) _
          clear hyy l1
          go_upto_region 16 with fail
          generalize wr.alloc (.cells #[.int .i64 st, .int .i64 si, .int .i64 ha, .int .i64 ma, .int .i64 ok, .int .i64 op, .int .u8 oc, .int .i64 oL, .int .i64 os, .slice ad nd cd] 76) = w4 at *
          clear q0 q1 q2 q3 q4 q5 q6 q7 q8 q9
          have I4 := hd (HI.out.below hb.out)
          obtain ⟨L3, hT3⟩ := HI.out.2.1
          have HT3 := hd hT3
          have HBw := hd hb.out
          have lM := block_lt hM.out
          have m0 := cell_row hM.out 0; have m1 := cell_row hM.out 1; have m2 := cell_row hM.out 2; have m3 := cell_row hM.out 3; have m4 := cell_row hM.out 4; have m5 := cell_row hM.out 5; have m6 := cell_row hM.out 6; have m7 := cell_row hM.out 7; have m8 := cell_row hM.out 8; have m9 := cell_row hM.out 9
          simp at m0 m1 m2 m3 m4 m5 m6 m7 m8 m9
          have CC := hd (canFollow_any (hT3.below hb.out) (HV.out.below I4.out.2.2 (Nat.le_refl _)) i hlt (by have := HNE.out; omega) st si ha ma ok op oc oL os ad nd cd (stP evs i) rfl)
          have HCC := hd hcc
          clear hT3 hb I4 hcc
          go_wp2_with fail
          refine CC.out.mono ?_
          rintro e u ⟨r, rfl, hr, bu⟩
          have BU := hd (HBw.out.trans (bu.mono HBw.out.size))
          have Iu := hd (HI.out.below BU.out)
          have BWu := hd bu
          have HR1 := hd hr
          clear bu CC hr
          cases r with
          | false =>
            have NOT := hd (NO.out (fun h => by have := HR1.out.2 h.1; cases this))
            clear HR1 NO YE ND MD
            go_wp2_with fail
            refine (CW.out _ _ _).mono ?_
            rintro e u2 ⟨v, rfl, hF, b2⟩
            have Z := hd (show IsF u2 v i 142 ∧ Below w.heap.size w u2 from ⟨hF, Iu.out.2.2.trans (b2.mono Iu.out.2.2.size)⟩)
            clear hF b2
            go_wp2
            go_ret2
            exact ⟨_, _, rfl, Z.out.2, .inr (.inr (.inr (.inl ⟨HC.out, HN.out, G1.out, i, hlt, HG.out, NOT.out, Z.out.1⟩)))⟩
          | true =>
            have HA := hd (HR1.out.1 rfl)
            obtain ⟨a1, a2, -, -⟩ := HA.out
            obtain ⟨cN, rfl⟩ : ∃ cN : Nat, si = (cN : Int) := ⟨si.toNat, by omega⟩
            have hc : cN < 65 := by have := HC.out; omega
            have n0 := (BWu.out.cell (p := ⟨wr.heap.size, 0, none⟩) lM).trans m0; have n1 := (BWu.out.cell (p := ⟨wr.heap.size, 1, none⟩) lM).trans m1; have n2 := (BWu.out.cell (p := ⟨wr.heap.size, 2, none⟩) lM).trans m2; have n3 := (BWu.out.cell (p := ⟨wr.heap.size, 3, none⟩) lM).trans m3; have n4 := (BWu.out.cell (p := ⟨wr.heap.size, 4, none⟩) lM).trans m4
            have n5 := (BWu.out.cell (p := ⟨wr.heap.size, 5, none⟩) lM).trans m5; have n6 := (BWu.out.cell (p := ⟨wr.heap.size, 6, none⟩) lM).trans m6; have n7 := (BWu.out.cell (p := ⟨wr.heap.size, 7, none⟩) lM).trans m7; have n8 := (BWu.out.cell (p := ⟨wr.heap.size, 8, none⟩) lM).trans m8; have n9 := (BWu.out.cell (p := ⟨wr.heap.size, 9, none⟩) lM).trans m9
            have lu := Nat.lt_of_lt_of_le lM BWu.out.size
            have HTu := hd (HT3.out.below BU.out)
            have HLu := hd (HL.out.below Iu.out.2.2 (Nat.le_refl _))
            have HVu := hd (HV.out.below Iu.out.2.2 (Nat.le_refl _))
            have HXu := hd (HX.out.below Iu.out.2.2 (Nat.le_refl _))
            have hS0 : Hid (∀ c : Nat, c < 65 → S2 log evs D i c = .ns (lgAt log log.length c)) := fun c hc => by simp only [S2, if_pos hc]
            have hS5 : Hid (S2 log evs D i (65 + cN) = .ns (shAt evs i (cN : Int))) := by
              unfold Hid
              simp only [S2, if_neg (show ¬ 65 + cN < 65 by omega), if_pos (show 65 + cN < 130 by omega)]
              rw [show (65 + cN - 65 : Nat) = cN from by omega]
            have hS9 : Hid (S2 log evs D i (130 + cN) = .ds (ddAt evs D i (cN : Int))) := by
              unfold Hid
              simp only [S2, if_neg (show ¬ 130 + cN < 65 by omega), if_neg (show ¬ 130 + cN < 130 by omega)]
              rw [show (130 + cN - 130 : Nat) = cN from by omega]
            obtain ⟨pa, pc, hpe⟩ := HEO.out (cN : Int)
            have hpb := PB.out (cN : Int)
            have ELC := hd (ELT.out (cN : Int))
            generalize hpv : pv evs i (cN : Int) = p at *
            obtain ⟨pst, psi, pha, pma, ⟨pok, pop, poc, pol, pos⟩, pnd⟩ := p
            simp only [evV] at hpe
            simp only at hpb
            have HHC := hd hc
            have CC2 := hd (fun G hG => canShow_of HTu.out HLu.out HVu.out hS0.out (shAt evs i (cN : Int)) cN hc hS5.out (fun k hk => HSL.out k _ hk) pst psi pha pma pok pop poc pol pos pa pnd pc hpe ⟨hpb.2.1, by have := HNE.out; omega⟩ st ha ma ok op oc oL os ad nd cd HCC.out.1 HCC.out.2 G hG)
            clear m0 m1 m2 m3 m4 m5 m6 m7 m8 m9 a1 a2 hpe hpb hc HR1 PB ELT HEO lM
            go_wp2_with fail
            refine (CC2.out _ (Iff.refl _)).mono ?_
            rintro e u2 ⟨r2, rfl, hr2, b2⟩
            have BU2 := hd (BU.out.trans (b2.mono BU.out.size))
            have I2 := hd (HI.out.below BU2.out)
            have HTs := hd (HT3.out.below BU2.out)
            have B2w := hd b2
            have HR2 := hd hr2
            have HLL := hd HL.out.1
            clear b2 hr2 CC2 Iu
            cases r2 with
            | false =>
              have NOT := hd (NO.out (fun h => by
                have h2 := HR2.out.2 ⟨⟨h.2.1.1, by have := h.2.1.2; rw [HLL.out] at this; exact this⟩, by
                  rcases h.2.2 with h3 | h3 | h3
                  · exact .inl h3
                  · exact .inr (.inl ⟨h3.1, h3.2.1, h3.2.2.1, h3.2.2.2.1, h3.2.2.2.2.1, h3.2.2.2.2.2⟩)
                  · exact .inr (.inr h3)⟩
                cases h2))
              clear HR2 NO YE ND MD
              go_wp2_with fail
              refine (CW.out _ _ _).mono ?_
              rintro e u3 ⟨v, rfl, hF, b3⟩
              have Z := hd (show IsF u3 v i 142 ∧ Below w.heap.size w u3 from ⟨hF, I2.out.2.2.trans (b3.mono I2.out.2.2.size)⟩)
              clear hF b3
              go_wp2
              go_ret2
              exact ⟨_, _, rfl, Z.out.2, .inr (.inr (.inr (.inl ⟨HC.out, HN.out, G1.out, i, hlt, HG.out, NOT.out, Z.out.1⟩)))⟩
            | true =>
              have HQ := hd (HR2.out.1 rfl)
              have YES := hd (YE.out ⟨HA.out, ⟨HQ.out.1.1, by have := HQ.out.1.2; rw [← HLL.out] at this; exact this⟩, by
                rcases HQ.out.2 with h3 | h3 | h3
                · exact .inl h3
                · exact .inr (.inl ⟨h3.1, h3.2.1, h3.2.2.1, h3.2.2.2.1, h3.2.2.2.2.1, h3.2.2.2.2.2⟩)
                · exact .inr (.inr h3)⟩)
              have o0 := (B2w.out.cell (p := ⟨wr.heap.size, 0, none⟩) lu).trans n0; have o1 := (B2w.out.cell (p := ⟨wr.heap.size, 1, none⟩) lu).trans n1; have o2 := (B2w.out.cell (p := ⟨wr.heap.size, 2, none⟩) lu).trans n2; have o3 := (B2w.out.cell (p := ⟨wr.heap.size, 3, none⟩) lu).trans n3; have o4 := (B2w.out.cell (p := ⟨wr.heap.size, 4, none⟩) lu).trans n4
              have o5 := (B2w.out.cell (p := ⟨wr.heap.size, 5, none⟩) lu).trans n5; have o6 := (B2w.out.cell (p := ⟨wr.heap.size, 6, none⟩) lu).trans n6; have o7 := (B2w.out.cell (p := ⟨wr.heap.size, 7, none⟩) lu).trans n7; have o8 := (B2w.out.cell (p := ⟨wr.heap.size, 8, none⟩) lu).trans n8; have o9 := (B2w.out.cell (p := ⟨wr.heap.size, 9, none⟩) lu).trans n9
              have E3 : wrap64 ((i : Int) + 1) = ((i + 1 : Nat) : Int) := by have := HNE.out; rw [wrap64]; omega
              have CS : Hid (Calls Tryz.prog 45 #[.pointer (some ⟨w.heap.size + 1, 0, none⟩), .int .i64 i, .agg #[.int .i64 st, .int .i64 (cN : Int), .int .i64 ha, .int .i64 ma, .int .i64 ok, .int .i64 op, .int .u8 oc, .int .i64 oL, .int .i64 os, .slice ad nd cd]] u2 fun e w' => e = .returned (.tuple #[]) ∧ RI C aL (some ⟨b, off, none⟩) nL cL nE cE w w' (S2 log evs D (i + 1))) := by
                by_cases ho : (⟨ok, op, oc, oL, os⟩ : OpE) = zo
                · have hstep := ND.out cN rfl HHC.out ho
                  obtain ⟨rfl, rfl, rfl, rfl, rfl⟩ := OpE.mk.inj ho
                  refine (show_idle HTs.out i cN HHC.out (shAt evs i (cN : Int)) hS5.out (by have := HSE.out (cN : Int); have := HNE.out; omega) st ha ma ad nd cd).mono ?_
                  rintro e w' ⟨he, ⟨L', h1⟩, h2⟩
                  rw [← hstep] at h1
                  exact ⟨he, I2.out.fr h2 h1⟩
                · have hstep := MD.out cN rfl HHC.out ho
                  have hfit : ok = 2 → fitsP pnd ⟨ok, op, oc, oL, os⟩ = 0 := fun _ => by
                    rcases HQ.out.2 with h3 | h3 | h3
                    · exact absurd h3.2.2 ho
                    · exact h3.2.2.2.2.1
                    · exact absurd h3.2.1 ho
                  refine (show_made HTs.out (HV.out.below I2.out.2.2 (Nat.le_refl _)) (HX.out.below I2.out.2.2 (Nat.le_refl _)) i cN HHC.out (shAt evs i (cN : Int)) hS5.out (by have := HSE.out (cN : Int); have := HNE.out; omega) (ddAt evs D i (cN : Int)) hS9.out (by have := HDE.out (cN : Int); have := HNE.out; omega) (fun k hk => HSL.out k _ hk) st ha ma ok op oc oL os ad nd cd ((zoB_false _).2 ho) (elD (pvD evs D i (cN : Int)) ⟨st, (cN : Int), ha, ma, ⟨ok, op, oc, oL, os⟩, nd⟩).1 (elD (pvD evs D i (cN : Int)) ⟨st, (cN : Int), ha, ma, ⟨ok, op, oc, oL, os⟩, nd⟩).2.1 (elD (pvD evs D i (cN : Int)) ⟨st, (cN : Int), ha, ma, ⟨ok, op, oc, oL, os⟩, nd⟩).2.2 ?_).mono ?_
                  · by_cases hk2 : ok = 2
                    · left
                      obtain ⟨j, pN, e1, e2, e3, hp, e4⟩ := ELC.out ⟨ok, op, oc, oL, os⟩ hk2 (hfit hk2)
                      refine ⟨hk2, j, pN, e1, e2, ?_⟩
                      have he2 : elD (pvD evs D i (cN : Int)) ⟨st, (cN : Int), ha, ma, ⟨ok, op, oc, oL, os⟩, nd⟩ = (D j)[pN] := by
                        unfold elD
                        exact (if_pos hk2).trans e4
                      rw [List.getElem?_eq_getElem hp, he2]
                      rfl
                    · right
                      have he2 : elD (pvD evs D i (cN : Int)) ⟨st, (cN : Int), ha, ma, ⟨ok, op, oc, oL, os⟩, nd⟩ = (oc, oL, os) := by
                        unfold elD
                        exact if_neg hk2
                      rw [he2]
                      exact ⟨hk2, rfl, rfl, rfl⟩
                  · rintro e w' ⟨he, ⟨L', h1⟩, h2⟩
                    have h1' : TL w' (w.heap.size + 1) C (.slice aL nL cL) (.slice (some ⟨b, off, none⟩) nE cE) (S2 log evs D (i + 1)) L' := by rw [hstep]; exact h1
                    exact ⟨he, I2.out.fr h2 h1'⟩
              clear HR2 NO YE ND MD HQ HA ELC n0 n1 n2 n3 n4 n5 n6 n7 n8 n9 hpv
              go_wp2_with fail
              refine CS.out.mono ?_
              rintro e u3 ⟨rfl, h3⟩
              have NX := hd h3
              clear h3 CS o0 o1 o2 o3 o4 o5 o6 o7 o8 o9
              go_wp2
              exact ⟨⟨i + 1, by omega, by rw [E3], NX.out, YES.out⟩, by rw [E3]; simp only [intOf, Int.toNat_natCast]; omega⟩
        · have hin : nE = i := by omega
          subst hin
          have I1 := hd HR.out.1
          have G2 := hd HR.out.2
          clear HR hi hlt
          have x1 := cell_row I1.out.1 1
          simp at x1
          go_wp2_with fail
          clear x1
          go_loopw [91] (fun v wr => ∃ k : Nat, k ≤ nL ∧ v = .int .i64 k ∧ Hid (RI C aL aE nL cL nE cE w wr (S2 log evs D nE) ∧ ∀ j (x : Ed), j < k → log[j]? = some x → x.o.sq ≤ (dn evs nE x.o.cl : Int))) (fun v _ => nL - (intOf v).toNat)
          case atStart => exact ⟨0, Nat.zero_le _, rfl, I1.out, fun j x h => by omega⟩
          case round =>
            obtain ⟨k, hk, rfl, HR⟩ := hrel
            clear I1
            by_cases hlt : k < nL
            · have l1 : k < log.length := by have := HL.out.1; omega
              obtain ⟨b, off, rfl, s1, q⟩ := (HL.out.below HR.out.1.2.2 (Nat.le_refl _)).2 (by omega)
              obtain ⟨q0, q1, q2, q3, q4, q5⟩ := q k l1
              have i1 : (k : Int) < (nL : Int) := by omega
              have hgk := G1.out k log[k] hlt (List.getElem?_eq_getElem l1)
              have hrg := chP_range hgk.1
              have NO := hd (show ((dn evs nE log[k].o.cl : Int) < log[k].o.sq) → ∀ x, log[k]? = some x → (dn evs nE x.o.cl : Int) < x.o.sq from fun h x hx => by rw [List.getElem?_eq_getElem l1] at hx; injection hx with hx; rw [← hx]; exact h)
              have YE := hd (show log[k].o.sq ≤ (dn evs nE log[k].o.cl : Int) → ∀ j (x : Ed), j < k + 1 → log[j]? = some x → x.o.sq ≤ (dn evs nE x.o.cl : Int) from fun h j x hj hx => by
                by_cases e : j = k
                · subst e
                  rw [List.getElem?_eq_getElem l1] at hx
                  injection hx with hx
                  rw [← hx]
                  exact h
                · exact HR.out.2 j x (by omega) hx)
              have HG := hd HR.out.2
              have HI := hd HR.out.1
              clear q HR s1 hgk
              generalize log[k] = y at *
              obtain ⟨tg, ⟨ok, op, oc, oL, os⟩⟩ := y
              simp only at q0 q1 q2 q3 q4 q5 NO YE hrg
              obtain ⟨cN, rfl⟩ : ∃ cN : Nat, oL = (cN : Int) := ⟨oL.toNat, by omega⟩
              have c65 : (cN : Int) < 65 := by omega
              have HHC := hd (show cN < 65 by omega)
              clear hrg
              have hM := hd (heap_alloc_new wr (.cells #[.int .i64 tg, .int .i64 ok, .int .i64 op, .int .u8 oc, .int .i64 (cN : Int), .int .i64 os] 74))
              have hb : Hid (Below wr.heap.size wr (wr.alloc (.cells #[.int .i64 tg, .int .i64 ok, .int .i64 op, .int .u8 oc, .int .i64 (cN : Int), .int .i64 os] 74))) := (Below.refl _ _).alloc (Nat.le_refl _) _
              go_upto_region 23 with fail
              generalize wr.alloc (.cells #[.int .i64 tg, .int .i64 ok, .int .i64 op, .int .u8 oc, .int .i64 (cN : Int), .int .i64 os] 74) = w4 at *
              clear q0 q1 q2 q3 q4 q5
              have I4 := hd (HI.out.below hb.out)
              obtain ⟨L4, hT4⟩ := I4.out.2.1
              have m4 := cell_row hM.out 4; have m5 := cell_row hM.out 5
              simp at m4 m5
              obtain ⟨v, hv, hs⟩ := hT4.slot (130 + cN) (by have := HHC.out; omega)
              rw [show 3 + (130 + cN) = 133 + cN from by omega] at hv
              rw [show S2 log evs D nE (130 + cN) = .ds (ddAt evs D nE (cN : Int)) from by
                simp only [S2, if_neg (show ¬ 130 + cN < 65 by omega), if_neg (show ¬ 130 + cN < 130 by omega)]
                rw [show (130 + cN - 130 : Nat) = cN from by omega]] at hs
              obtain ⟨oa, oc', rfl, -, -⟩ := SF.form hs
              rw [ddAt_len] at hv
              clear hs hT4 hb
              generalize dn evs nE (cN : Int) = n at *
              by_cases hgt : (n : Int) < os
              · have NOT := hd (NO.out hgt)
                clear NO YE
                go_quiet (fail)
                go_wp2_with fail
                refine (CW.out _ _ _).mono ?_
                rintro e u2 ⟨v, rfl, hF, b2⟩
                have Z := hd (show IsF u2 v k 141 ∧ Below w.heap.size w u2 from ⟨hF, (below_drewN I4.out.2.2 _).trans (b2.mono I4.out.2.2.size)⟩)
                clear hF b2
                go_wp2
                go_ret2
                exact ⟨_, _, rfl, Z.out.2, .inr (.inr (.inr (.inr (.inl ⟨HC.out, HN.out, G1.out, G2.out, k, hlt, HG.out, NOT.out, Z.out.1⟩))))⟩
              · have YES := hd (YE.out (by omega))
                have kd : decide ((n : Int) < os) = false := by simpa using hgt
                have E3 : wrap64 ((k : Int) + 1) = ((k + 1 : Nat) : Int) := by have := HN.out; rw [wrap64]; omega
                clear NO YE hgt
                go_quiet (fail)
                have NX := hd (I4.out.below (below_drewN (Below.refl w4.heap.size w4) nq))
                generalize w4.drewN nq = u2 at *
                go_wp2
                exact ⟨⟨k + 1, by omega, by rw [E3], NX.out, YES.out⟩, by rw [E3]; simp only [intOf, Int.toNat_natCast]; omega⟩
            · have hkn : nL = k := by omega
              subst hkn
              have Z := hd HR.out
              clear HR hlt hk
              go_wp2
              go_ret2
              obtain ⟨L, hT⟩ := Z.out.1.2.1
              exact ⟨_, _, rfl, Z.out.1.2.2, .inr (.inr (.inr (.inr (.inr ⟨HC.out, HN.out, G1.out, G2.out, fun j x hx => Z.out.2 j x (by have := (List.getElem?_eq_some_iff.1 hx).1; have := HL.out.1; omega) hx, rfl, _, L, rfl, by omega, hT⟩))))⟩

end Go.Proofs.YtfhghijefjhehaaGreatDoor
