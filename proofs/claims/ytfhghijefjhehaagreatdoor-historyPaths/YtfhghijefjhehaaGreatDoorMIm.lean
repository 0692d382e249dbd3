/-
  Texts put together: Im Ip.
-/
import Derived.Test.YtfhghijefjhehaaGreatDoorMIf
import Derived.Test.YtfhghijefjhehaaGreatDoorMId
import Derived.Test.YtfhghijefjhehaaGreatDoorMHq
import Derived.Test.YtfhghijefjhehaaGreatDoorMHg
/-! Im -/
namespace Go.Proofs.YtfhghijefjhehaaGreatDoor
open Go.RowKit
set_option linter.unusedVariables false

theorem zeroT : Tryz.zeroCells117 = #[.int .i64 0, .slice none 0 0, .slice none 0 0] ++ Array.replicate 195 (.slice none 0 0) := by kernel_rfl

/-- What read answers. -/
def RO (C : Int) (aL aE : Option Addr) (nL cL nE cE : Nat) (log : List Ed) (evs : List Ev) (D : Nat → List El) (w : World) (e : Ending) (w' : World) : Prop :=
  ∃ v ev, e = .returned (.tuple #[v, ev]) ∧ Below w.heap.size w w' ∧
    ((¬ (1 ≤ C ∧ C ≤ 64) ∧ IsF w' ev 0 140) ∨ ((1 ≤ C ∧ C ≤ 64) ∧ 4096 < nL ∧ IsF w' ev 0 143) ∨
     ((1 ≤ C ∧ C ≤ 64) ∧ nL ≤ 4096 ∧ ∃ k : Nat, k < nL ∧ GL C log k ∧ (∀ x, log[k]? = some x → ¬ canP chg C log k x) ∧ IsF w' ev k 141) ∨
     ((1 ≤ C ∧ C ≤ 64) ∧ nL ≤ 4096 ∧ GL C log nL ∧ ∃ i : Nat, i < nE ∧ GE C log evs i ∧ (∀ x, evs[i]? = some x → ¬ canS chg fit C log (stP evs i) (pv evs i x.site) x) ∧ IsF w' ev i 142) ∨
     ((1 ≤ C ∧ C ≤ 64) ∧ nL ≤ 4096 ∧ GL C log nL ∧ GE C log evs nE ∧ ∃ k : Nat, k < nL ∧ (∀ (j : Nat) (x : Ed), j < k → log[j]? = some x → x.o.sq ≤ (dn evs nE x.o.cl : Int)) ∧ (∀ x : Ed, log[k]? = some x → (dn evs nE x.o.cl : Int) < x.o.sq) ∧ IsF w' ev k 141) ∨
     ((1 ≤ C ∧ C ≤ 64) ∧ nL ≤ 4096 ∧ GL C log nL ∧ GE C log evs nE ∧ (∀ (j : Nat) (x : Ed), log[j]? = some x → x.o.sq ≤ (dn evs nE x.o.cl : Int)) ∧ ev = .nilIface ∧ ∃ x L, v = .pointer (some ⟨x, 0, none⟩) ∧ w.heap.size ≤ x ∧ TL w' x C (.slice aL nL cL) (.slice aE nE cE) (S2 log evs D nE) L))

/-- Within read. -/
def RI (C : Int) (aL aE : Option Addr) (nL cL nE cE : Nat) (w wr : World) (S : Nat → Ls) : Prop :=
  wr.heap[w.heap.size]? = some (.cells #[.int .i64 C, .slice aL nL cL, .slice aE nE cE] 25 (0, 0)) ∧ (∃ L, TL wr (w.heap.size + 1) C (.slice aL nL cL) (.slice aE nE cE) S L) ∧ Below w.heap.size w wr
theorem RI.below {C : Int} {aL aE : Option Addr} {nL cL nE cE : Nat} {w wr u : World} {S : Nat → Ls} (h : RI C aL aE nL cL nE cE w wr S) (hb : Below wr.heap.size wr u) : RI C aL aE nL cL nE cE w u S := by
  obtain ⟨h1, ⟨L, h2⟩, h3⟩ := h
  exact ⟨block_keep hb h1 (block_lt h1), ⟨L, h2.below hb⟩, h3.trans (hb.mono h3.size)⟩
theorem RI.fr {C : Int} {aL aE : Option Addr} {nL cL nE cE : Nat} {w wr u : World} {S S' : Nat → Ls} {L' : Nat → Option Nat} (h : RI C aL aE nL cL nE cE w wr S) (hF : Fr (fun k => w.heap.size + 1 ≤ k) wr u) (hT : TL u (w.heap.size + 1) C (.slice aL nL cL) (.slice aE nE cE) S' L') : RI C aL aE nL cL nE cE w u S' := by
  obtain ⟨h1, -, h3⟩ := h
  exact ⟨hF.keeps h1 (by omega), ⟨L', hT⟩, h3.trans (hF.below h3.size (fun k hk => by omega))⟩

theorem tale_new (C : Int) (aL aE : Option Addr) (nL cL nE cE : Nat) (log : List Ed) (w : World) : RI C aL aE nL cL nE cE w ((w.alloc (.cells #[.int .i64 C, .slice aL nL cL, .slice aE nE cE] 25)).alloc (.cells (((Tryz.zeroCells117.setIfInBounds 0 (.int .i64 C)).setIfInBounds 1 (.slice aL nL cL)).setIfInBounds 2 (.slice aE nE cE)) 117)) (S1 log 0) := by
  refine ⟨(heap_alloc_old _ _ (by simp)).trans (heap_alloc_new _ _), ⟨fun _ => none, ⟨⟨((Tryz.zeroCells117.setIfInBounds 0 (.int .i64 C)).setIfInBounds 1 (.slice aL nL cL)).setIfInBounds 2 (.slice aE nE cE), ?_, ?_, ?_, ?_, ?_, fun i hi => ⟨.slice none 0 0, ?_, ?_⟩⟩, fun i j g _ _ h => (by cases h), fun i g _ h => (by cases h)⟩⟩, ((Below.refl _ _).alloc (Nat.le_refl _) _).alloc (by simp) _⟩
  · have := heap_alloc_new (w.alloc (.cells #[.int .i64 C, .slice aL nL cL, .slice aE nE cE] 25)) (.cells (((Tryz.zeroCells117.setIfInBounds 0 (.int .i64 C)).setIfInBounds 1 (.slice aL nL cL)).setIfInBounds 2 (.slice aE nE cE)) 117)
    rwa [World.size_alloc] at this
  · rw [zeroT]; simp
  · rw [zeroT]; simp
  · rw [zeroT]; simp
  · rw [zeroT]; simp
  · rw [zeroT, Array.getElem?_setIfInBounds_ne (by omega), Array.getElem?_setIfInBounds_ne (by omega), Array.getElem?_setIfInBounds_ne (by omega), Array.getElem?_append_right (by simp)]
    simp [hi]
  · unfold S1
    split
    · exact ⟨rfl, rfl⟩
    · split
      · exact ⟨rfl, rfl⟩
      · exact ⟨rfl, rfl⟩

set_option maxRecDepth 100000 in
set_option maxHeartbeats 16000000 in
theorem read_any (C : Int) (aL aE : Option Addr) (nL cL nE cE : Nat) (log : List Ed) (evs : List Ev) (A : Nat → Option Addr) (K : Nat → Nat) (D : Nat → List El) (w : World) (hL : IsL w aL nL log) (hV : IsV w aE nE evs A K) (hX : IsX w evs A D) (hnE : nE ≤ 2199023255552)
    (hcl : ∀ j (h : j < log.length), 0 ≤ log[j].o.ch ∧ log[j].o.ch ≤ 255) (hce : ∀ j (h : j < evs.length), 0 ≤ evs[j].o.ch ∧ evs[j].o.ch ≤ 255) :
    Calls Tryz.prog 15 #[.agg #[.int .i64 C, .slice aL nL cL, .slice aE nE cE]] w fun e w' => RO C aL aE nL cL nE cE log evs D w e w' := by
  have HL := hd hL
  have HV := hd hV
  have HX := hd hX
  have HNE := hd hnE
  have HCL := hd hcl
  have HCE := hd hce
  have HB0 := hd (show Below w.heap.size w (w.alloc (.cells #[.int .i64 C, .slice aL nL cL, .slice aE nE cE] 25)) from (Below.refl _ _).alloc (Nat.le_refl _) _)
  clear hL hV hX hnE hcl hce
  by_cases b1 : C < 1
  · have CW := hd (fun W => wrap_any 0 140 W)
    go_enter Tryz.func15, Tryz.ntmps15
    go_wp2_with fail
    refine (CW.out _).mono ?_
    rintro e u ⟨v, rfl, hF, bu⟩
    have Z := hd (show IsF u v 0 140 ∧ Below w.heap.size w u from ⟨hF, HB0.out.trans (bu.mono HB0.out.size)⟩)
    clear hF bu CW
    go_wp2
    go_ret2
    exact ⟨_, _, rfl, Z.out.2, .inl ⟨by omega, Z.out.1⟩⟩
  by_cases b2 : 64 < C
  · have CW := hd (fun W => wrap_any 0 140 W)
    go_enter Tryz.func15, Tryz.ntmps15
    go_wp2_with fail
    refine (CW.out _).mono ?_
    rintro e u ⟨v, rfl, hF, bu⟩
    have Z := hd (show IsF u v 0 140 ∧ Below w.heap.size w u from ⟨hF, HB0.out.trans (bu.mono HB0.out.size)⟩)
    clear hF bu CW
    go_wp2
    go_ret2
    exact ⟨_, _, rfl, Z.out.2, .inl ⟨by omega, Z.out.1⟩⟩
  have HC := hd (show 1 ≤ C ∧ C ≤ 64 from ⟨by omega, by omega⟩)
  by_cases b3 : (4096 : Int) < (nL : Int)
  · have CW := hd (fun W => wrap_any 0 143 W)
    go_enter Tryz.func15, Tryz.ntmps15
    go_wp2_with fail
    refine (CW.out _).mono ?_
    rintro e u ⟨v, rfl, hF, bu⟩
    have Z := hd (show IsF u v 0 143 ∧ Below w.heap.size w u from ⟨hF, HB0.out.trans (bu.mono HB0.out.size)⟩)
    clear hF bu CW
    go_wp2
    go_ret2
    exact ⟨_, _, rfl, Z.out.2, .inr (.inl ⟨HC.out, by omega, Z.out.1⟩)⟩
  have HN := hd (show nL ≤ 4096 by omega)
  have R0 := hd (tale_new C aL aE nL cL nE cE log w)
  have CW := hd (fun p c W => wrap_any p c W)
  go_enter Tryz.func15, Tryz.ntmps15
  go_upto_region 6 with fail
  clear b1 b2 b3 HB0
  generalize (w.alloc (.cells #[.int .i64 C, .slice aL nL cL, .slice aE nE cE] 25)).alloc (.cells (((Tryz.zeroCells117.setIfInBounds 0 (.int .i64 C)).setIfInBounds 1 (.slice aL nL cL)).setIfInBounds 2 (.slice aE nE cE)) 117) = w0 at *
  have x1 := cell_row R0.out.1 1
  simp at x1
  go_wp2_with fail
  clear x1
  go_loopw [31] (fun v wr => ∃ k : Nat, k ≤ nL ∧ v = .int .i64 k ∧ Hid (RI C aL aE nL cL nE cE w wr (S1 log k) ∧ GL C log k)) (fun v _ => nL - (intOf v).toNat)
  case atStart => exact ⟨0, Nat.zero_le _, rfl, R0.out, fun j x h => by omega⟩
  case round =>
    obtain ⟨k, hk, rfl, HR⟩ := hrel
    clear R0
    by_cases hlt : k < nL
    · have l1 : k < log.length := by have := HL.out.1; omega
      obtain ⟨b, off, rfl, s1, q⟩ := (HL.out.below HR.out.1.2.2 (Nat.le_refl _)).2 (by omega)
      obtain ⟨q0, q1, q2, q3, q4, q5⟩ := q k l1
      have i1 : (k : Int) < (nL : Int) := by omega
      have hcc := HCL.out k l1
      have ST := hd (fun cN (h : log[k].o.cl = ((cN : Nat) : Int)) (h2 : cN < 65) => S1_step (log := log) k l1 cN h h2)
      have NO := hd (show ¬ canP chg C log k log[k] → ∀ x, log[k]? = some x → ¬ canP chg C log k x from fun h x hx => by rw [List.getElem?_eq_getElem l1] at hx; injection hx with hx; rw [← hx]; exact h)
      have YE := hd (show canP chg C log k log[k] → GL C log (k + 1) from fun h j x hj hx => by
        by_cases e : j = k
        · subst e
          rw [List.getElem?_eq_getElem l1] at hx
          injection hx with hx
          rw [← hx]
          exact h
        · exact HR.out.2 j x (by omega) hx)
      have HG := hd HR.out.2
      have HI := hd HR.out.1
      clear q HR s1
      generalize log[k] = y at *
      obtain ⟨tg, ⟨ok, op, oc, oL, os⟩⟩ := y
      simp only at q0 q1 q2 q3 q4 q5 hcc ST NO YE
      have hM := hd (heap_alloc_new wr (.cells #[.int .i64 tg, .int .i64 ok, .int .i64 op, .int .u8 oc, .int .i64 oL, .int .i64 os] 74))
      have hb : Hid (Below wr.heap.size wr (wr.alloc (.cells #[.int .i64 tg, .int .i64 ok, .int .i64 op, .int .u8 oc, .int .i64 oL, .int .i64 os] 74))) := (Below.refl _ _).alloc (Nat.le_refl _) _
      go_upto_region 9 with fail
      generalize wr.alloc (.cells #[.int .i64 tg, .int .i64 ok, .int .i64 op, .int .u8 oc, .int .i64 oL, .int .i64 os] 74) = w4 at *
      clear q0 q1 q2 q3 q4 q5
      have I4 := hd (HI.out.below hb.out)
      obtain ⟨L4, hT4⟩ := I4.out.2.1
      have HT4 := hd hT4
      have lM := block_lt hM.out
      have m0 := cell_row hM.out 0; have m1 := cell_row hM.out 1; have m2 := cell_row hM.out 2; have m3 := cell_row hM.out 3; have m4 := cell_row hM.out 4; have m5 := cell_row hM.out 5
      simp at m0 m1 m2 m3 m4 m5
      have CC := hd (canLog_any hT4 (HL.out.below I4.out.2.2 (Nat.le_refl _)) k hk HN.out tg ok op oc oL os hcc.1 hcc.2 (fun c hc => by simp only [S1, if_pos hc]))
      have HRW := hd (fun j (hj : j < 195) (L0 : Nat → Option Nat) (h0 : TL wr (w.heap.size + 1) C (.slice (some ⟨b, off, none⟩) nL cL) (.slice aE nE cE) (S1 log k) L0) => h0.not_row (b := wr.heap.size) hj (Nat.le_refl _))
      obtain ⟨L3, hT3⟩ := HI.out.2.1
      have HT3 := hd hT3
      have HBw := hd hb.out
      clear hT4 hT3 hb I4 HT4 hcc
      go_wp2_with fail
      refine CC.out.mono ?_
      rintro e u ⟨r, rfl, hr, bu⟩
      have BU := hd (HBw.out.trans (bu.mono HBw.out.size))
      have Iu := hd (HI.out.below BU.out)
      have BWu := hd bu
      clear bu CC
      cases r with
      | false =>
        have NOT : Hid (∀ x, log[k]? = some x → ¬ canP chg C log k x) := NO.out (fun h => by have := hr.2 h; cases this)
        clear hr NO YE ST
        go_wp2_with fail
        refine (CW.out _ _ _).mono ?_
        rintro e u2 ⟨v, rfl, hF, b2⟩
        have Z := hd (show IsF u2 v k 141 ∧ Below w.heap.size w u2 from ⟨hF, Iu.out.2.2.trans (b2.mono Iu.out.2.2.size)⟩)
        clear hF b2
        go_wp2
        go_ret2
        exact ⟨_, _, rfl, Z.out.2, .inr (.inr (.inl ⟨HC.out, HN.out, k, hlt, HG.out, NOT.out, Z.out.1⟩))⟩
      | true =>
        have YES := hd (YE.out (hr.1 rfl))
        obtain ⟨r1, r2, r3, r4⟩ := chP_range (hr.1 rfl).1
        simp only at r1 r2 r3 r4
        obtain ⟨cN, rfl⟩ : ∃ cN : Nat, oL = (cN : Int) := ⟨oL.toNat, by omega⟩
        have c65 : (cN : Int) < 65 := by omega
        have SS := hd (ST.out cN rfl (by omega))
        have HTu := hd (HT3.out.below BU.out)
        have k4 := (BWu.out.cell (p := ⟨wr.heap.size, 4, none⟩) lM).trans m4
        have lu := Nat.lt_of_lt_of_le lM BWu.out.size
        have NR : Hid (L3 cN ≠ some wr.heap.size) := HRW.out cN (by omega) L3 HT3.out
        clear hr NO YE ST HRW r1 r2 r3 r4 m0 m1 m2 m3 m4 m5
        obtain ⟨v, hv, hs⟩ := HTu.out.slot cN (by omega)
        rw [show S1 log k cN = .ns (lgAt log k cN) from by simp only [S1, if_pos (show cN < 65 by omega)]] at hs
        obtain ⟨oa, oc', rfl, -, -⟩ := SF.form hs
        have HSF := hd hs
        have HVv := hd hv
        have HLe := hd (lgAt_le log k (cN : Int))
        clear hs hv
        go_upto_region 11 with fail
        refine pushL _ _ (w.heap.size + 1) wr.heap.size cN (lgAt log k cN).length oc' oa k rfl rfl rfl (by simp) c65 (PP nic 1 3 u (L3 cN) (lgAt log k cN ++ [k])) (fun u1 hB => ⟨(hB.cell (p := ⟨wr.heap.size, 4, none⟩) lu).trans k4, (hB.cell (p := ⟨w.heap.size + 1, 3 + cN, none⟩) HTu.out.lt).trans HVv.out⟩) (fun v u1 hP => ⟨hP.cell (p := ⟨wr.heap.size, 4, none⟩) lu NR.out k4, hP.cell (p := ⟨w.heap.size + 1, 3 + cN, none⟩) HTu.out.lt (HTu.out.not_x (by omega)) HVv.out⟩) (fun u1 g hB hg => run_ints HSF.out k hB hg (by have := HLe.out; have := HN.out; omega)) (fun v u1 hP => ⟨hP.form, by
          obtain ⟨cur, hh, -⟩ := HTu.out.blk
          exact frozen_row ((hP.block HTu.out.lt (HTu.out.not_x (by omega))).trans hh) _⟩) ?_
        intro V' v' u1 hP
        have HP := hd (HTu.out.pushN (by omega) hP)
        rw [← SS.out] at HP
        have NX : Hid (RI C (some ⟨b, off, none⟩) aE nL cL nE cE w (u1.setCell ⟨w.heap.size + 1, 3 + cN, none⟩ v') (S1 log (k + 1))) := by
          obtain ⟨g', h1, h2⟩ := HP.out
          exact Iu.out.fr h2 h1
        clear hP HP HSF HVv NR k4 lu HTu SS HT3
        simp only [slpushL, List.getD_cons_zero, List.getD_cons_succ, List.range, List.range.loop, List.map_cons, List.map_nil, puts, List.foldl_cons, List.foldl_nil, Act.put, List.setIfInBounds_toArray, List.set_cons_succ, List.set_cons_zero]
        generalize u1.setCell ⟨w.heap.size + 1, 3 + cN, none⟩ v' = u2 at *
        have E3 : wrap64 ((k : Int) + 1) = ((k + 1 : Nat) : Int) := by have := HN.out; rw [wrap64]; omega
        go_wp2
        exact ⟨⟨k + 1, by omega, by rw [E3], NX.out, YES.out⟩, by rw [E3]; simp only [intOf, Int.toNat_natCast]; omega⟩
    · have q00 := trivial
      have hkn : nL = k := by omega
      subst hkn
      have I1 : Hid (RI C aL aE nL cL nE cE w wr (S2 log evs D 0)) := by
        have h1 := HR.out.1
        rw [show S1 log nL = S2 log evs D 0 from by rw [← HL.out.1]; exact S12] at h1
        exact h1
      have G1 := hd HR.out.2
      clear HR hk hlt
      have x2 := cell_row I1.out.1 2
      simp at x2
      go_wp2_with fail
      clear x2
      go_loopw [65] (fun v wr => ∃ i : Nat, i ≤ nE ∧ v = .int .i64 i ∧ Hid (RI C aL aE nL cL nE cE w wr (S2 log evs D i) ∧ GE C log evs i)) (fun v _ => nE - (intOf v).toNat)
      case atStart => exact ⟨0, Nat.zero_le _, rfl, I1.out, fun j x h => by omega⟩
      case round =>
        obtain ⟨i, hi, rfl, HR⟩ := hrel
        clear I1
        by_cases hlt : i < nE
        · have l1 : i < evs.length := by have := HV.out.1; omega
          obtain ⟨b, off, rfl, s1, q⟩ := (HV.out.below HR.out.1.2.2 (Nat.le_refl _)).2 (by omega)
          obtain ⟨q0, q1, q2, q3, q4, q5, q6, q7, q8, q9⟩ := q i l1
          have i1 : (i : Int) < (nE : Int) := by omega
          have hcc := HCE.out i l1
          have ND := hd (fun cN (h : evs[i].site = ((cN : Nat) : Int)) (h2 : cN < 65) (h3 : evs[i].o = zo) => S2_idle (log := log) (D := D) i l1 cN h h2 h3)
          have MD := hd (fun cN (h : evs[i].site = ((cN : Nat) : Int)) (h2 : cN < 65) (h3 : evs[i].o ≠ zo) => S2_made (log := log) (D := D) i l1 cN h h2 h3)
          have ELT := hd (fun (c : Int) (o : OpE) hk hf => el_take (D := D) HX.out (show i ≤ evs.length by omega) c (o := o) hk hf)
          have PB := hd (fun c => pv_bounds HR.out.2 c)
          have NO := hd (show ¬ canS chg fit C log (stP evs i) (pv evs i evs[i].site) evs[i] → ∀ x, evs[i]? = some x → ¬ canS chg fit C log (stP evs i) (pv evs i x.site) x from fun h x hx => by rw [List.getElem?_eq_getElem l1] at hx; injection hx with hx; rw [← hx]; exact h)
          have YE := hd (show canS chg fit C log (stP evs i) (pv evs i evs[i].site) evs[i] → GE C log evs (i + 1) from fun h j x hj hx => by
            by_cases e : j = i
            · subst e
              rw [List.getElem?_eq_getElem l1] at hx
              injection hx with hx
              rw [← hx]
              exact h
            · exact HR.out.2 j x (by omega) hx)
          have HG := hd HR.out.2
          have HI := hd HR.out.1
          have HSL := hd (fun k (c : Int) (hk : k ∈ shAt evs i c) => show k < evs.length from by have := (shAt_lt hk).1; omega)
          have HSE := hd (fun c => shAt_le (evs := evs) i c)
          have HDE := hd (fun c => show (ddAt evs D i c).length ≤ i from by rw [ddAt_len]; exact dn_le i c)
          have HEO := hd (fun c => evO_pv evs A K i c)
          obtain ⟨ad, had⟩ : ∃ ad, A i = ad := ⟨_, rfl⟩
          obtain ⟨cd, hcd⟩ : ∃ cd, K i = cd := ⟨_, rfl⟩
          rw [had, hcd] at q9
          clear q HR s1 had hcd
          generalize hyy : evs[i] = y at *
          obtain ⟨st, si, ha, ma, ⟨ok, op, oc, oL, os⟩, nd⟩ := y
          simp only at q0 q1 q2 q3 q4 q5 q6 q7 q8 q9 hcc ND MD NO YE
          have hM := hd (heap_alloc_new wr (.cells #[.int .i64 st, .int .i64 si, .int .i64 ha, .int .i64 ma, .int .i64 ok, .int .i64 op, .int .u8 oc, .int .i64 oL, .int .i64 os, .slice ad nd cd] 76))
          have hb : Hid (Below wr.heap.size wr (wr.alloc (.cells #[.int .i64 st, .int .i64 si, .int .i64 ha, .int .i64 ma, .int .i64 ok, .int .i64 op, .int .u8 oc, .int .i64 oL, .int .i64 os, .slice ad nd cd] 76))) := (Below.refl _ _).alloc (Nat.le_refl _) _
          clear hyy l1
          go_upto_region 16 with fail
          generalize wr.alloc (.cells #[.int .i64 st, .int .i64 si, .int .i64 ha, .int .i64 ma, .int .i64 ok, .int .i64 op, .int .u8 oc, .int .i64 oL, .int .i64 os, .slice ad nd cd] 76) = w4 at *
          clear q0 q1 q2 q3 q4 q5 q6 q7 q8 q9
          have I4 := hd (HI.out.below hb.out)
          obtain ⟨L3, hT3⟩ := HI.out.2.1
          have HT3 := hd hT3
          have HBw := hd hb.out
          have lM := block_lt hM.out
          have m0 := cell_row hM.out 0; have m1 := cell_row hM.out 1; have m2 := cell_row hM.out 2; have m3 := cell_row hM.out 3; have m4 := cell_row hM.out 4; have m5 := cell_row hM.out 5; have m6 := cell_row hM.out 6; have m7 := cell_row hM.out 7; have m8 := cell_row hM.out 8; have m9 := cell_row hM.out 9
          simp at m0 m1 m2 m3 m4 m5 m6 m7 m8 m9
          have CC := hd (canFollow_any (hT3.below hb.out) (HV.out.below I4.out.2.2 (Nat.le_refl _)) i hlt (by have := HNE.out; omega) st si ha ma ok op oc oL os ad nd cd (stP evs i) rfl)
          have HCC := hd hcc
          clear hT3 hb I4 hcc
          go_wp2_with fail
          refine CC.out.mono ?_
          rintro e u ⟨r, rfl, hr, bu⟩
          have BU := hd (HBw.out.trans (bu.mono HBw.out.size))
          have Iu := hd (HI.out.below BU.out)
          have BWu := hd bu
          have HR1 := hd hr
          clear bu CC hr
          cases r with
          | false =>
            have NOT := hd (NO.out (fun h => by have := HR1.out.2 h.1; cases this))
            clear HR1 NO YE ND MD
            go_wp2_with fail
            refine (CW.out _ _ _).mono ?_
            rintro e u2 ⟨v, rfl, hF, b2⟩
            have Z := hd (show IsF u2 v i 142 ∧ Below w.heap.size w u2 from ⟨hF, Iu.out.2.2.trans (b2.mono Iu.out.2.2.size)⟩)
            clear hF b2
            go_wp2
            go_ret2
            exact ⟨_, _, rfl, Z.out.2, .inr (.inr (.inr (.inl ⟨HC.out, HN.out, G1.out, i, hlt, HG.out, NOT.out, Z.out.1⟩)))⟩
          | true =>
            have HA := hd (HR1.out.1 rfl)
            obtain ⟨a1, a2, -, -⟩ := HA.out
            obtain ⟨cN, rfl⟩ : ∃ cN : Nat, si = (cN : Int) := ⟨si.toNat, by omega⟩
            have hc : cN < 65 := by have := HC.out; omega
            have n0 := (BWu.out.cell (p := ⟨wr.heap.size, 0, none⟩) lM).trans m0; have n1 := (BWu.out.cell (p := ⟨wr.heap.size, 1, none⟩) lM).trans m1; have n2 := (BWu.out.cell (p := ⟨wr.heap.size, 2, none⟩) lM).trans m2; have n3 := (BWu.out.cell (p := ⟨wr.heap.size, 3, none⟩) lM).trans m3; have n4 := (BWu.out.cell (p := ⟨wr.heap.size, 4, none⟩) lM).trans m4
            have n5 := (BWu.out.cell (p := ⟨wr.heap.size, 5, none⟩) lM).trans m5; have n6 := (BWu.out.cell (p := ⟨wr.heap.size, 6, none⟩) lM).trans m6; have n7 := (BWu.out.cell (p := ⟨wr.heap.size, 7, none⟩) lM).trans m7; have n8 := (BWu.out.cell (p := ⟨wr.heap.size, 8, none⟩) lM).trans m8; have n9 := (BWu.out.cell (p := ⟨wr.heap.size, 9, none⟩) lM).trans m9
            have lu := Nat.lt_of_lt_of_le lM BWu.out.size
            have HTu := hd (HT3.out.below BU.out)
            have HLu := hd (HL.out.below Iu.out.2.2 (Nat.le_refl _))
            have HVu := hd (HV.out.below Iu.out.2.2 (Nat.le_refl _))
            have HXu := hd (HX.out.below Iu.out.2.2 (Nat.le_refl _))
            have hS0 : Hid (∀ c : Nat, c < 65 → S2 log evs D i c = .ns (lgAt log log.length c)) := fun c hc => by simp only [S2, if_pos hc]
            have hS5 : Hid (S2 log evs D i (65 + cN) = .ns (shAt evs i (cN : Int))) := by
              unfold Hid
              simp only [S2, if_neg (show ¬ 65 + cN < 65 by omega), if_pos (show 65 + cN < 130 by omega)]
              rw [show (65 + cN - 65 : Nat) = cN from by omega]
            have hS9 : Hid (S2 log evs D i (130 + cN) = .ds (ddAt evs D i (cN : Int))) := by
              unfold Hid
              simp only [S2, if_neg (show ¬ 130 + cN < 65 by omega), if_neg (show ¬ 130 + cN < 130 by omega)]
              rw [show (130 + cN - 130 : Nat) = cN from by omega]
            obtain ⟨pa, pc, hpe⟩ := HEO.out (cN : Int)
            have hpb := PB.out (cN : Int)
            have ELC := hd (ELT.out (cN : Int))
            generalize hpv : pv evs i (cN : Int) = p at *
            obtain ⟨pst, psi, pha, pma, ⟨pok, pop, poc, pol, pos⟩, pnd⟩ := p
            simp only [evV] at hpe
            simp only at hpb
            have HHC := hd hc
            have CC2 := hd (fun G hG => canShow_of HTu.out HLu.out HVu.out hS0.out (shAt evs i (cN : Int)) cN hc hS5.out (fun k hk => HSL.out k _ hk) pst psi pha pma pok pop poc pol pos pa pnd pc hpe ⟨hpb.2.1, by have := HNE.out; omega⟩ st ha ma ok op oc oL os ad nd cd HCC.out.1 HCC.out.2 G hG)
            clear m0 m1 m2 m3 m4 m5 m6 m7 m8 m9 a1 a2 hpe hpb hc HR1 PB ELT HEO lM
            go_wp2_with fail
            refine (CC2.out _ (Iff.refl _)).mono ?_
            rintro e u2 ⟨r2, rfl, hr2, b2⟩
            have BU2 := hd (BU.out.trans (b2.mono BU.out.size))
            have I2 := hd (HI.out.below BU2.out)
            have HTs := hd (HT3.out.below BU2.out)
            have B2w := hd b2
            have HR2 := hd hr2
            have HLL := hd HL.out.1
            clear b2 hr2 CC2 Iu
            cases r2 with
            | false =>
              have NOT := hd (NO.out (fun h => by
                have h2 := HR2.out.2 ⟨⟨h.2.1.1, by have := h.2.1.2; rw [HLL.out] at this; exact this⟩, by
                  rcases h.2.2 with h3 | h3 | h3
                  · exact .inl h3
                  · exact .inr (.inl ⟨h3.1, h3.2.1, h3.2.2.1, h3.2.2.2.1, h3.2.2.2.2.1, h3.2.2.2.2.2⟩)
                  · exact .inr (.inr h3)⟩
                cases h2))
              clear HR2 NO YE ND MD
              go_wp2_with fail
              refine (CW.out _ _ _).mono ?_
              rintro e u3 ⟨v, rfl, hF, b3⟩
              have Z := hd (show IsF u3 v i 142 ∧ Below w.heap.size w u3 from ⟨hF, I2.out.2.2.trans (b3.mono I2.out.2.2.size)⟩)
              clear hF b3
              go_wp2
              go_ret2
              exact ⟨_, _, rfl, Z.out.2, .inr (.inr (.inr (.inl ⟨HC.out, HN.out, G1.out, i, hlt, HG.out, NOT.out, Z.out.1⟩)))⟩
            | true =>
              have HQ := hd (HR2.out.1 rfl)
              have YES := hd (YE.out ⟨HA.out, ⟨HQ.out.1.1, by have := HQ.out.1.2; rw [← HLL.out] at this; exact this⟩, by
                rcases HQ.out.2 with h3 | h3 | h3
                · exact .inl h3
                · exact .inr (.inl ⟨h3.1, h3.2.1, h3.2.2.1, h3.2.2.2.1, h3.2.2.2.2.1, h3.2.2.2.2.2⟩)
                · exact .inr (.inr h3)⟩)
              have o0 := (B2w.out.cell (p := ⟨wr.heap.size, 0, none⟩) lu).trans n0; have o1 := (B2w.out.cell (p := ⟨wr.heap.size, 1, none⟩) lu).trans n1; have o2 := (B2w.out.cell (p := ⟨wr.heap.size, 2, none⟩) lu).trans n2; have o3 := (B2w.out.cell (p := ⟨wr.heap.size, 3, none⟩) lu).trans n3; have o4 := (B2w.out.cell (p := ⟨wr.heap.size, 4, none⟩) lu).trans n4
              have o5 := (B2w.out.cell (p := ⟨wr.heap.size, 5, none⟩) lu).trans n5; have o6 := (B2w.out.cell (p := ⟨wr.heap.size, 6, none⟩) lu).trans n6; have o7 := (B2w.out.cell (p := ⟨wr.heap.size, 7, none⟩) lu).trans n7; have o8 := (B2w.out.cell (p := ⟨wr.heap.size, 8, none⟩) lu).trans n8; have o9 := (B2w.out.cell (p := ⟨wr.heap.size, 9, none⟩) lu).trans n9
              have E3 : wrap64 ((i : Int) + 1) = ((i + 1 : Nat) : Int) := by have := HNE.out; rw [wrap64]; omega
              have CS : Hid (Calls Tryz.prog 45 #[.pointer (some ⟨w.heap.size + 1, 0, none⟩), .int .i64 i, .agg #[.int .i64 st, .int .i64 (cN : Int), .int .i64 ha, .int .i64 ma, .int .i64 ok, .int .i64 op, .int .u8 oc, .int .i64 oL, .int .i64 os, .slice ad nd cd]] u2 fun e w' => e = .returned (.tuple #[]) ∧ RI C aL (some ⟨b, off, none⟩) nL cL nE cE w w' (S2 log evs D (i + 1))) := by
                by_cases ho : (⟨ok, op, oc, oL, os⟩ : OpE) = zo
                · have hstep := ND.out cN rfl HHC.out ho
                  obtain ⟨rfl, rfl, rfl, rfl, rfl⟩ := OpE.mk.inj ho
                  refine (show_idle HTs.out i cN HHC.out (shAt evs i (cN : Int)) hS5.out (by have := HSE.out (cN : Int); have := HNE.out; omega) st ha ma ad nd cd).mono ?_
                  rintro e w' ⟨he, ⟨L', h1⟩, h2⟩
                  rw [← hstep] at h1
                  exact ⟨he, I2.out.fr h2 h1⟩
                · have hstep := MD.out cN rfl HHC.out ho
                  have hfit : ok = 2 → fitsP pnd ⟨ok, op, oc, oL, os⟩ = 0 := fun _ => by
                    rcases HQ.out.2 with h3 | h3 | h3
                    · exact absurd h3.2.2 ho
                    · exact h3.2.2.2.2.1
                    · exact absurd h3.2.1 ho
                  refine (show_made HTs.out (HV.out.below I2.out.2.2 (Nat.le_refl _)) (HX.out.below I2.out.2.2 (Nat.le_refl _)) i cN HHC.out (shAt evs i (cN : Int)) hS5.out (by have := HSE.out (cN : Int); have := HNE.out; omega) (ddAt evs D i (cN : Int)) hS9.out (by have := HDE.out (cN : Int); have := HNE.out; omega) (fun k hk => HSL.out k _ hk) st ha ma ok op oc oL os ad nd cd ((zoB_false _).2 ho) (elD (pvD evs D i (cN : Int)) ⟨st, (cN : Int), ha, ma, ⟨ok, op, oc, oL, os⟩, nd⟩).1 (elD (pvD evs D i (cN : Int)) ⟨st, (cN : Int), ha, ma, ⟨ok, op, oc, oL, os⟩, nd⟩).2.1 (elD (pvD evs D i (cN : Int)) ⟨st, (cN : Int), ha, ma, ⟨ok, op, oc, oL, os⟩, nd⟩).2.2 ?_).mono ?_
                  · by_cases hk2 : ok = 2
                    · left
                      obtain ⟨j, pN, e1, e2, e3, hp, e4⟩ := ELC.out ⟨ok, op, oc, oL, os⟩ hk2 (hfit hk2)
                      refine ⟨hk2, j, pN, e1, e2, ?_⟩
                      have he2 : elD (pvD evs D i (cN : Int)) ⟨st, (cN : Int), ha, ma, ⟨ok, op, oc, oL, os⟩, nd⟩ = (D j)[pN] := by
                        unfold elD
                        exact (if_pos hk2).trans e4
                      rw [List.getElem?_eq_getElem hp, he2]
                      rfl
                    · right
                      have he2 : elD (pvD evs D i (cN : Int)) ⟨st, (cN : Int), ha, ma, ⟨ok, op, oc, oL, os⟩, nd⟩ = (oc, oL, os) := by
                        unfold elD
                        exact if_neg hk2
                      rw [he2]
                      exact ⟨hk2, rfl, rfl, rfl⟩
                  · rintro e w' ⟨he, ⟨L', h1⟩, h2⟩
                    have h1' : TL w' (w.heap.size + 1) C (.slice aL nL cL) (.slice (some ⟨b, off, none⟩) nE cE) (S2 log evs D (i + 1)) L' := by rw [hstep]; exact h1
                    exact ⟨he, I2.out.fr h2 h1'⟩
              clear HR2 NO YE ND MD HQ HA ELC n0 n1 n2 n3 n4 n5 n6 n7 n8 n9 hpv
              go_wp2_with fail
              refine CS.out.mono ?_
              rintro e u3 ⟨rfl, h3⟩
              have NX := hd h3
              clear h3 CS o0 o1 o2 o3 o4 o5 o6 o7 o8 o9
              go_wp2
              exact ⟨⟨i + 1, by omega, by rw [E3], NX.out, YES.out⟩, by rw [E3]; simp only [intOf, Int.toNat_natCast]; omega⟩
        · have hin : nE = i := by omega
          subst hin
          have I1 := hd HR.out.1
          have G2 := hd HR.out.2
          clear HR hi hlt
          have x1 := cell_row I1.out.1 1
          simp at x1
          go_wp2_with fail
          clear x1
          go_loopw [91] (fun v wr => ∃ k : Nat, k ≤ nL ∧ v = .int .i64 k ∧ Hid (RI C aL aE nL cL nE cE w wr (S2 log evs D nE) ∧ ∀ j (x : Ed), j < k → log[j]? = some x → x.o.sq ≤ (dn evs nE x.o.cl : Int))) (fun v _ => nL - (intOf v).toNat)
          case atStart => exact ⟨0, Nat.zero_le _, rfl, I1.out, fun j x h => by omega⟩
          case round =>
            obtain ⟨k, hk, rfl, HR⟩ := hrel
            clear I1
            by_cases hlt : k < nL
            · have l1 : k < log.length := by have := HL.out.1; omega
              obtain ⟨b, off, rfl, s1, q⟩ := (HL.out.below HR.out.1.2.2 (Nat.le_refl _)).2 (by omega)
              obtain ⟨q0, q1, q2, q3, q4, q5⟩ := q k l1
              have i1 : (k : Int) < (nL : Int) := by omega
              have hgk := G1.out k log[k] hlt (List.getElem?_eq_getElem l1)
              have hrg := chP_range hgk.1
              have NO := hd (show ((dn evs nE log[k].o.cl : Int) < log[k].o.sq) → ∀ x, log[k]? = some x → (dn evs nE x.o.cl : Int) < x.o.sq from fun h x hx => by rw [List.getElem?_eq_getElem l1] at hx; injection hx with hx; rw [← hx]; exact h)
              have YE := hd (show log[k].o.sq ≤ (dn evs nE log[k].o.cl : Int) → ∀ j (x : Ed), j < k + 1 → log[j]? = some x → x.o.sq ≤ (dn evs nE x.o.cl : Int) from fun h j x hj hx => by
                by_cases e : j = k
                · subst e
                  rw [List.getElem?_eq_getElem l1] at hx
                  injection hx with hx
                  rw [← hx]
                  exact h
                · exact HR.out.2 j x (by omega) hx)
              have HG := hd HR.out.2
              have HI := hd HR.out.1
              clear q HR s1 hgk
              generalize log[k] = y at *
              obtain ⟨tg, ⟨ok, op, oc, oL, os⟩⟩ := y
              simp only at q0 q1 q2 q3 q4 q5 NO YE hrg
              obtain ⟨cN, rfl⟩ : ∃ cN : Nat, oL = (cN : Int) := ⟨oL.toNat, by omega⟩
              have c65 : (cN : Int) < 65 := by omega
              have HHC := hd (show cN < 65 by omega)
              clear hrg
              have hM := hd (heap_alloc_new wr (.cells #[.int .i64 tg, .int .i64 ok, .int .i64 op, .int .u8 oc, .int .i64 (cN : Int), .int .i64 os] 74))
              have hb : Hid (Below wr.heap.size wr (wr.alloc (.cells #[.int .i64 tg, .int .i64 ok, .int .i64 op, .int .u8 oc, .int .i64 (cN : Int), .int .i64 os] 74))) := (Below.refl _ _).alloc (Nat.le_refl _) _
              go_upto_region 23 with fail
              generalize wr.alloc (.cells #[.int .i64 tg, .int .i64 ok, .int .i64 op, .int .u8 oc, .int .i64 (cN : Int), .int .i64 os] 74) = w4 at *
              clear q0 q1 q2 q3 q4 q5
              have I4 := hd (HI.out.below hb.out)
              obtain ⟨L4, hT4⟩ := I4.out.2.1
              have m4 := cell_row hM.out 4; have m5 := cell_row hM.out 5
              simp at m4 m5
              obtain ⟨v, hv, hs⟩ := hT4.slot (130 + cN) (by have := HHC.out; omega)
              rw [show 3 + (130 + cN) = 133 + cN from by omega] at hv
              rw [show S2 log evs D nE (130 + cN) = .ds (ddAt evs D nE (cN : Int)) from by
                simp only [S2, if_neg (show ¬ 130 + cN < 65 by omega), if_neg (show ¬ 130 + cN < 130 by omega)]
                rw [show (130 + cN - 130 : Nat) = cN from by omega]] at hs
              obtain ⟨oa, oc', rfl, -, -⟩ := SF.form hs
              rw [ddAt_len] at hv
              clear hs hT4 hb
              generalize dn evs nE (cN : Int) = n at *
              by_cases hgt : (n : Int) < os
              · have NOT := hd (NO.out hgt)
                clear NO YE
                go_quiet (fail)
                go_wp2_with fail
                refine (CW.out _ _ _).mono ?_
                rintro e u2 ⟨v, rfl, hF, b2⟩
                have Z := hd (show IsF u2 v k 141 ∧ Below w.heap.size w u2 from ⟨hF, (below_drewN I4.out.2.2 _).trans (b2.mono I4.out.2.2.size)⟩)
                clear hF b2
                go_wp2
                go_ret2
                exact ⟨_, _, rfl, Z.out.2, .inr (.inr (.inr (.inr (.inl ⟨HC.out, HN.out, G1.out, G2.out, k, hlt, HG.out, NOT.out, Z.out.1⟩))))⟩
              · have YES := hd (YE.out (by omega))
                have kd : decide ((n : Int) < os) = false := by simpa using hgt
                have E3 : wrap64 ((k : Int) + 1) = ((k + 1 : Nat) : Int) := by have := HN.out; rw [wrap64]; omega
                clear NO YE hgt
                go_quiet (fail)
                have NX := hd (I4.out.below (below_drewN (Below.refl w4.heap.size w4) nq))
                generalize w4.drewN nq = u2 at *
                go_wp2
                exact ⟨⟨k + 1, by omega, by rw [E3], NX.out, YES.out⟩, by rw [E3]; simp only [intOf, Int.toNat_natCast]; omega⟩
            · have hkn : nL = k := by omega
              subst hkn
              have Z := hd HR.out
              clear HR hlt hk
              go_wp2
              go_ret2
              obtain ⟨L, hT⟩ := Z.out.1.2.1
              exact ⟨_, _, rfl, Z.out.1.2.2, .inr (.inr (.inr (.inr (.inr ⟨HC.out, HN.out, G1.out, G2.out, fun j x hx => Z.out.2 j x (by have := (List.getElem?_eq_some_iff.1 hx).1; have := HL.out.1; omega) hx, rfl, _, L, rfl, by omega, hT⟩))))⟩

end Go.Proofs.YtfhghijefjhehaaGreatDoor

/-! Ip -/
namespace Go.Proofs.YtfhghijefjhehaaGreatDoor
open Go.RowKit
set_option linter.unusedVariables false

def GLd (C : Int) (log : List Ed) (k : Nat) : Prop := ∀ j x, j < k → log[j]? = some x → canD chg C log j x
def GEr (C : Int) (log : List Ed) (evs : List Ev) (i : Nat) : Prop := ∀ j x, j < i → evs[j]? = some x → canR chg fit C log (stP evs j) (pv evs j x.site) x
def MkE (evs : List Ev) (x : Ed) : Prop := ∃ (j : Nat) (e : Ev), evs[j]? = some e ∧ e.o ≠ zo ∧ e.o = x.o
/-- What the document's Check answers. -/
def RCs (C : Int) (nL nE : Nat) (log : List Ed) (evs : List Ev) (c p : Int) : Prop :=
  (¬ (1 ≤ C ∧ C ≤ 64) ∧ c = 140 ∧ p = 0) ∨ ((1 ≤ C ∧ C ≤ 64) ∧ 4096 < nL ∧ c = 143 ∧ p = 0) ∨
  ((1 ≤ C ∧ C ≤ 64) ∧ nL ≤ 4096 ∧ ∃ k : Nat, k < nL ∧ GLd C log k ∧ (∀ x, log[k]? = some x → ¬ canD chg C log k x) ∧ c = 141 ∧ p = k) ∨
  ((1 ≤ C ∧ C ≤ 64) ∧ nL ≤ 4096 ∧ GLd C log nL ∧ ∃ i : Nat, i < nE ∧ GEr C log evs i ∧ (∀ x, evs[i]? = some x → ¬ canR chg fit C log (stP evs i) (pv evs i x.site) x) ∧ c = 142 ∧ p = i) ∨
  ((1 ≤ C ∧ C ≤ 64) ∧ nL ≤ 4096 ∧ GLd C log nL ∧ GEr C log evs nE ∧ ∃ k : Nat, k < nL ∧ (∀ (j : Nat) (x : Ed), j < k → log[j]? = some x → MkE evs x) ∧ (∀ x : Ed, log[k]? = some x → ¬ MkE evs x) ∧ c = 141 ∧ p = k) ∨
  ((1 ≤ C ∧ C ≤ 64) ∧ nL ≤ 4096 ∧ GLd C log nL ∧ GEr C log evs nE ∧ (∀ (j : Nat) (x : Ed), log[j]? = some x → MkE evs x) ∧ c = 0 ∧ p = -1)

theorem glD {C : Int} {log : List Ed} {k : Nat} (h : GLd C log k) : GL C log k := by
  induction k with
  | zero => exact fun j x hj => by omega
  | succ k ih =>
    have ih' := ih (fun j x hj => h j x (by omega))
    intro j x hj hx
    by_cases e : j = k
    · subst e
      exact (can_iff (chg := chg) (C := C) (log := log) (k := j) ih' x).2 (h j x (by omega) hx)
    · exact ih' j x (by omega) hx
theorem dGl {C : Int} {log : List Ed} {k : Nat} (h : GL C log k) : GLd C log k := fun j x hj hx => (can_iff (chg := chg) (C := C) (log := log) (k := j) (fun i e hi => h i e (by omega)) x).1 (h j x hj hx)
theorem chg_sq (o : OpE) (h : chg o) : 1 ≤ o.sq := (chP_range h).2.2.1
theorem gE_R {C : Int} {log : List Ed} {evs : List Ev} {i : Nat} (hg : GL C log log.length) (h : GE C log evs i) : GEr C log evs i := fun j x hj hx => by
  have hb := pv_bounds (C := C) (log := log) (evs := evs) (i := j) (fun q y hq => h q y (by omega)) x.site
  exact (canS_iff hg chg_sq hb.1 hb.2.1).1 (h j x hj hx)
theorem gR_E {C : Int} {log : List Ed} {evs : List Ev} {i : Nat} (hg : GL C log log.length) (h : GEr C log evs i) : GE C log evs i := by
  induction i with
  | zero => exact fun j x hj => by omega
  | succ i ih =>
    have ih' := ih (fun j x hj => h j x (by omega))
    intro j x hj hx
    by_cases e : j = i
    · subst e
      have hb := pv_bounds (C := C) (log := log) (evs := evs) (i := j) ih' x.site
      exact (canS_iff hg chg_sq hb.1 hb.2.1).2 (h j x (by omega) hx)
    · exact ih' j x (by omega) hx
theorem mk_iff {C : Int} {log : List Ed} {evs : List Ev} (hg : GL C log log.length) (h : GEr C log evs evs.length) {k : Nat} {x : Ed} (hk : log[k]? = some x) : MkE evs x ↔ x.o.sq ≤ (dn evs evs.length x.o.cl : Int) := by
  have hc := hg k x (List.getElem?_eq_some_iff.1 hk).1 hk
  have hr := chP_range hc.1
  refine makes_iff (fun j e hj he => (h j e hj he).fact) hk (fun hz => ?_) (by omega) hr.2.2.1
  have := (chP_iff x.o).1 hc.1
  rw [hz] at this
  exact this.1 rfl

theorem first_eq {P : Nat → Prop} {k k' : Nat} (h1 : ∀ j, j < k → P j) (h2 : ¬ P k) (h1' : ∀ j, j < k' → P j) (h2' : ¬ P k') : k = k' := by
  rcases Nat.lt_trichotomy k k' with h | h | h
  · exact absurd (h1' k h) h2
  · exact h
  · exact absurd (h1 k' h) h2'

theorem rcs_one {C : Int} {nL nE : Nat} {log : List Ed} {evs : List Ev} {c p c' p' : Int} (hl : log.length = nL) (he : evs.length = nE) (h1 : RCs C nL nE log evs c p) (h2 : RCs C nL nE log evs c' p') : c = c' ∧ p = p' := by
  have LP : ∀ k, GLd C log k → ∀ j, j < k → (fun j => ∀ x, log[j]? = some x → canD chg C log j x) j := fun k h j hj x hx => h j x hj hx
  have LN : ∀ k, k < nL → (∀ x, log[k]? = some x → ¬ canD chg C log k x) → ¬ (fun j => ∀ x, log[j]? = some x → canD chg C log j x) k := fun k hk h hh => h _ (List.getElem?_eq_getElem (by omega)) (hh _ (List.getElem?_eq_getElem (by omega)))
  have EP : ∀ k, GEr C log evs k → ∀ j, j < k → (fun j => ∀ x, evs[j]? = some x → canR chg fit C log (stP evs j) (pv evs j x.site) x) j := fun k h j hj x hx => h j x hj hx
  have EN : ∀ k, k < nE → (∀ x, evs[k]? = some x → ¬ canR chg fit C log (stP evs k) (pv evs k x.site) x) → ¬ (fun j => ∀ x, evs[j]? = some x → canR chg fit C log (stP evs j) (pv evs j x.site) x) k := fun k hk h hh => h _ (List.getElem?_eq_getElem (by omega)) (hh _ (List.getElem?_eq_getElem (by omega)))
  have MP : ∀ k, (∀ (j : Nat) (x : Ed), j < k → log[j]? = some x → MkE evs x) → ∀ j, j < k → (fun j => ∀ x, log[j]? = some x → MkE evs x) j := fun k h j hj x hx => h j x hj hx
  have MN : ∀ k, k < nL → (∀ x : Ed, log[k]? = some x → ¬ MkE evs x) → ¬ (fun j => ∀ x, log[j]? = some x → MkE evs x) k := fun k hk h hh => h _ (List.getElem?_eq_getElem (by omega)) (hh _ (List.getElem?_eq_getElem (by omega)))
  rcases h1 with ⟨a, rfl, rfl⟩ | ⟨a, b, rfl, rfl⟩ | ⟨a, b, k, hk, g1, g2, rfl, rfl⟩ | ⟨a, b, g, i, hi, g1, g2, rfl, rfl⟩ | ⟨a, b, g, ge, k, hk, g1, g2, rfl, rfl⟩ | ⟨a, b, g, ge, g1, rfl, rfl⟩
  · rcases h2 with ⟨a', rfl, rfl⟩ | ⟨a', h2⟩ | ⟨a', h2⟩ | ⟨a', h2⟩ | ⟨a', h2⟩ | ⟨a', h2⟩
    · exact ⟨rfl, rfl⟩
    all_goals exact absurd a' a
  · rcases h2 with ⟨a', -⟩ | ⟨a', b', rfl, rfl⟩ | ⟨a', b', h2⟩ | ⟨a', b', h2⟩ | ⟨a', b', h2⟩ | ⟨a', b', h2⟩
    · exact absurd a a'
    · exact ⟨rfl, rfl⟩
    all_goals omega
  · rcases h2 with ⟨a', -⟩ | ⟨a', b', -⟩ | ⟨a', b', k', hk', g1', g2', rfl, rfl⟩ | ⟨a', b', g', h2⟩ | ⟨a', b', g', h2⟩ | ⟨a', b', g', h2⟩
    · exact absurd a a'
    · omega
    · have := first_eq (LP k g1) (LN k hk g2) (LP k' g1') (LN k' hk' g2')
      subst this
      exact ⟨rfl, rfl⟩
    all_goals exact absurd (LP nL g' k hk) (LN k hk g2)
  · rcases h2 with ⟨a', -⟩ | ⟨a', b', -⟩ | ⟨a', b', k', hk', g1', g2', -⟩ | ⟨a', b', g', i', hi', g1', g2', rfl, rfl⟩ | ⟨a', b', g', ge', h2⟩ | ⟨a', b', g', ge', h2⟩
    · exact absurd a a'
    · omega
    · exact absurd (LP nL g k' hk') (LN k' hk' g2')
    · have := first_eq (EP i g1) (EN i hi g2) (EP i' g1') (EN i' hi' g2')
      subst this
      exact ⟨rfl, rfl⟩
    all_goals exact absurd (EP nE ge' i hi) (EN i hi g2)
  · rcases h2 with ⟨a', -⟩ | ⟨a', b', -⟩ | ⟨a', b', k', hk', g1', g2', -⟩ | ⟨a', b', g', i', hi', g1', g2', -⟩ | ⟨a', b', g', ge', k', hk', g1', g2', rfl, rfl⟩ | ⟨a', b', g', ge', g1', -⟩
    · exact absurd a a'
    · omega
    · exact absurd (LP nL g k' hk') (LN k' hk' g2')
    · exact absurd (EP nE ge i' hi') (EN i' hi' g2')
    · have := first_eq (MP k g1) (MN k hk g2) (MP k' g1') (MN k' hk' g2')
      subst this
      exact ⟨rfl, rfl⟩
    · exact absurd (fun x hx => g1' k x hx) (MN k hk g2)
  · rcases h2 with ⟨a', -⟩ | ⟨a', b', -⟩ | ⟨a', b', k', hk', g1', g2', -⟩ | ⟨a', b', g', i', hi', g1', g2', -⟩ | ⟨a', b', g', ge', k', hk', g1', g2', -⟩ | ⟨a', b', g', ge', g1', rfl, rfl⟩
    · exact absurd a a'
    · omega
    · exact absurd (LP nL g k' hk') (LN k' hk' g2')
    · exact absurd (EP nE ge i' hi') (EN i' hi' g2')
    · exact absurd (fun x hx => g1 k' x hx) (MN k' hk' g2')
    · exact ⟨rfl, rfl⟩

/-- What read answers is what the document's Check does. -/
theorem ro_rcs {C : Int} {aL aE : Option Addr} {nL cL nE cE : Nat} {log : List Ed} {evs : List Ev} {D : Nat → List El} {w w' : World} {e : Ending} (hl : log.length = nL) (he : evs.length = nE) (h1 : RO C aL aE nL cL nE cE log evs D w e w') :
    ∃ v ev c p, e = .returned (.tuple #[v, ev]) ∧ Below w.heap.size w w' ∧ RCs C nL nE log evs c p ∧ ((IsF w' ev p c ∧ c ≠ 0) ∨ (ev = .nilIface ∧ c = 0 ∧ p = -1)) := by
  obtain ⟨v, ev, e0, hB, h1⟩ := h1
  rcases h1 with ⟨a, h1⟩ | ⟨a, b, h1⟩ | ⟨a, b, k, hk, g1, g2, h1⟩ | ⟨a, b, g, i, hi, g1, g2, h1⟩ | ⟨a, b, g, ge, k, hk, g1, g2, h1⟩ | ⟨a, b, g, ge, g1, h1, -⟩
  · exact ⟨v, ev, _, _, e0, hB, .inl ⟨a, rfl, rfl⟩, .inl ⟨h1, by omega⟩⟩
  · exact ⟨v, ev, _, _, e0, hB, .inr (.inl ⟨a, b, rfl, rfl⟩), .inl ⟨h1, by omega⟩⟩
  · exact ⟨v, ev, _, _, e0, hB, .inr (.inr (.inl ⟨a, b, k, hk, dGl g1, fun x hx hd => g2 x hx ((can_iff (chg := chg) (C := C) (log := log) (k := k) g1 x).2 hd), rfl, rfl⟩)), .inl ⟨h1, by omega⟩⟩
  · refine ⟨v, ev, _, _, e0, hB, .inr (.inr (.inr (.inl ⟨a, b, dGl g, i, hi, gE_R (by rw [hl]; exact g) g1, fun x hx hr => ?_, rfl, rfl⟩))), .inl ⟨h1, by omega⟩⟩
    have hbd := pv_bounds (C := C) (log := log) (evs := evs) (i := i) g1 x.site
    exact g2 x hx ((canS_iff (by rw [hl]; exact g) chg_sq hbd.1 hbd.2.1).2 hr)
  · have gl : GL C log log.length := by rw [hl]; exact g
    have gr : GEr C log evs evs.length := by rw [he]; exact gE_R gl ge
    refine ⟨v, ev, _, _, e0, hB, .inr (.inr (.inr (.inr (.inl ⟨a, b, dGl g, gE_R gl ge, k, hk, fun j x hj hx => ?_, fun x hx hm => ?_, rfl, rfl⟩)))), .inl ⟨h1, by omega⟩⟩
    · rw [mk_iff gl gr hx, he]
      exact g1 j x hj hx
    · rw [mk_iff gl gr hx, he] at hm
      have := g2 x hx
      omega
  · have gl : GL C log log.length := by rw [hl]; exact g
    have gr : GEr C log evs evs.length := by rw [he]; exact gE_R gl ge
    refine ⟨v, ev, _, _, e0, hB, .inr (.inr (.inr (.inr (.inr ⟨a, b, dGl g, gE_R gl ge, fun j x hx => ?_, rfl, rfl⟩)))), .inr ⟨h1, rfl, rfl⟩⟩
    rw [mk_iff gl gr hx, he]
    exact g1 j x hx

set_option maxRecDepth 100000 in
set_option maxHeartbeats 4000000 in
set_option maxRecDepth 100000 in
set_option maxHeartbeats 8000000 in
theorem rcheck_any (C : Int) (aL aE : Option Addr) (nL cL nE cE : Nat) (log : List Ed) (evs : List Ev) (A : Nat → Option Addr) (K : Nat → Nat) (w : World) (hL : IsL w aL nL log) (hV : IsV w aE nE evs A K) (hnE : nE ≤ 2199023255552) :
    Calls Tryz.prog 20 #[.agg #[.int .i64 C, .slice aL nL cL, .slice aE nE cE]] w fun e w' => ∃ c p : Int, e = .returned (.tuple #[.int .i64 c, .int .i64 p]) ∧ RCs C nL nE log evs c p ∧ Below w.heap.size w w' := by
  have HNE := hd hnE
  have hb : Below w.heap.size w (w.alloc (.cells #[.int .i64 C, .slice aL nL cL, .slice aE nE cE] 25)) := (Below.refl _ _).alloc (Nat.le_refl _) _
  have hE := hd (heap_alloc_new w (.cells #[.int .i64 C, .slice aL nL cL, .slice aE nE cE] 25))
  have HB := hd hb
  have HL := hd (hL.below hb (Nat.le_refl _))
  have HV := hd (hV.below hb (Nat.le_refl _))
  clear hb hL hV hnE
  go_enter Tryz.func20, Tryz.ntmps20
  go_upto_region 1 with fail
  generalize w.alloc (.cells #[.int .i64 C, .slice aL nL cL, .slice aE nE cE] 25) = w0 at *
  have x0 := cell_row hE.out 0; have x1 := cell_row hE.out 1; have x2 := cell_row hE.out 2
  simp at x0 x1 x2
  by_cases b1 : C < 1
  · have Z : Hid (RCs C nL nE log evs 140 0) := .inl ⟨by omega, rfl, rfl⟩
    go_wp2
    go_ret2
    exact ⟨_, _, rfl, Z.out, HB.out⟩
  by_cases b2 : 64 < C
  · have Z : Hid (RCs C nL nE log evs 140 0) := .inl ⟨by omega, rfl, rfl⟩
    go_wp2
    go_ret2
    exact ⟨_, _, rfl, Z.out, HB.out⟩
  have HC := hd (show 1 ≤ C ∧ C ≤ 64 from ⟨by omega, by omega⟩)
  by_cases b3 : (4096 : Int) < (nL : Int)
  · have Z : Hid (RCs C nL nE log evs 143 0) := .inr (.inl ⟨HC.out, by omega, rfl, rfl⟩)
    go_wp2
    go_ret2
    exact ⟨_, _, rfl, Z.out, HB.out⟩
  have HN := hd (show nL ≤ 4096 by omega)
  have CLg := hd (logged_any C aL aE nL cL nE cE log w0 HL.out HN.out)
  go_wp2_with fail
  refine CLg.out.mono ?_
  rintro e u ⟨r, rfl, hr, bu⟩
  have BU := hd (HB.out.trans (bu.mono HB.out.size))
  have hEu := hd (block_keep bu hE.out (block_lt hE.out))
  have HLu := hd (HL.out.below bu (Nat.le_refl _))
  have HVu := hd (HV.out.below bu (Nat.le_refl _))
  clear bu CLg HL HV hE x0 x1 x2 b1 b2 b3 HB
  have HRR := hd hr
  clear hr
  rcases HRR.out with ⟨k, rfl, hk, g2, g1⟩ | ⟨rfl, g1⟩
  · have Z : Hid (RCs C nL nE log evs 141 k) := .inr (.inr (.inl ⟨HC.out, HN.out, k, hk, g1, g2, rfl, rfl⟩))
    have k0 : (0 : Int) ≤ (k : Int) := by omega
    clear g1 g2 HRR
    go_wp2
    go_ret2
    exact ⟨_, _, rfl, Z.out, BU.out⟩
  have G1 : Hid (GLd C log nL) := fun j x _ hx => g1 j x hx
  clear g1 HRR
  have y0 := cell_row hEu.out 0; have y1 := cell_row hEu.out 1; have y2 := cell_row hEu.out 2
  simp at y0 y1 y2
  go_wp2_with fail
  go_loopw [5] (fun v wr => ∃ i : Nat, i ≤ nE ∧ v = .int .i64 i ∧ Hid (Below u.heap.size u wr ∧ GEr C log evs i)) (fun v _ => nE - (intOf v).toNat)
  case atStart => exact ⟨0, Nat.zero_le _, rfl, Below.refl _ _, fun j x h => by omega⟩
  case round =>
    obtain ⟨i, hi, rfl, HR⟩ := hrel
    clear y0 y1 y2
    have hEr := hd (block_keep HR.out.1 hEu.out (block_lt hEu.out))
    have y0 := cell_row hEr.out 0; have y1 := cell_row hEr.out 1; have y2 := cell_row hEr.out 2
    simp at y0 y1 y2
    by_cases hlt : i < nE
    · have l1 : i < evs.length := by have := HVu.out.1; omega
      have i1 : (i : Int) < (nE : Int) := by omega
      have gl : GL C log log.length := by rw [HLu.out.1]; exact glD G1.out
      have hbd := pv_bounds (gR_E gl HR.out.2) evs[i].site
      have CC := hd (can_any C aL aE nL cL nE cE i evs A K wr (HVu.out.below HR.out.1 (Nat.le_refl _)) hlt l1 (by have := HNE.out; omega) log (HLu.out.below HR.out.1 (Nat.le_refl _)) HN.out hbd.1 ⟨hbd.2.1, by have := HNE.out; omega⟩)
      have NO := hd (show ¬ canR chg fit C log (stP evs i) (pv evs i evs[i].site) evs[i] → ∀ x, evs[i]? = some x → ¬ canR chg fit C log (stP evs i) (pv evs i x.site) x from fun h x hx => by rw [List.getElem?_eq_getElem l1] at hx; injection hx with hx; rw [← hx]; exact h)
      have YE := hd (show canR chg fit C log (stP evs i) (pv evs i evs[i].site) evs[i] → GEr C log evs (i + 1) from fun h j x hj hx => by
        by_cases e : j = i
        · subst e
          rw [List.getElem?_eq_getElem l1] at hx
          injection hx with hx
          rw [← hx]
          exact h
        · exact HR.out.2 j x (by omega) hx)
      have HG := hd HR.out.2
      have HW := hd HR.out.1
      have E3 : wrap64 ((i : Int) + 1) = ((i + 1 : Nat) : Int) := by have := HNE.out; rw [wrap64]; omega
      generalize hG : canR chg fit C log (stP evs i) (pv evs i evs[i].site) evs[i] = GG at *
      clear hG HR hbd gl
      go_wp2_with fail
      refine CC.out.mono ?_
      rintro e u2 ⟨r, rfl, hr, b2⟩
      have HR2 := hd hr
      have B2 := hd (HW.out.trans (b2.mono HW.out.size))
      have BZ := hd (BU.out.trans (B2.out.mono BU.out.size))
      clear hr b2 CC y0 y1 y2
      cases r with
      | false =>
        have Z : Hid (RCs C nL nE log evs 142 i) := .inr (.inr (.inr (.inl ⟨HC.out, HN.out, G1.out, i, hlt, HG.out, NO.out (fun h => by have := HR2.out.2 h; cases this), rfl, rfl⟩)))
        clear NO YE HR2
        go_wp2
        go_ret2
        exact ⟨_, _, rfl, Z.out, BZ.out⟩
      | true =>
        have YES := hd (YE.out (HR2.out.1 rfl))
        clear NO YE HR2
        go_wp2
        exact ⟨⟨i + 1, by omega, by rw [E3], B2.out, YES.out⟩, by rw [E3]; simp only [intOf, Int.toNat_natCast]; omega⟩
    · have hin : nE = i := by omega
      subst hin
      have i1 : ¬ (nE : Int) < (nE : Int) := by omega
      have G2 := hd HR.out.2
      have B3 := hd (BU.out.trans (HR.out.1.mono BU.out.size))
      have HLr := hd (HLu.out.below HR.out.1 (Nat.le_refl _))
      have HVr := hd (HVu.out.below HR.out.1 (Nat.le_refl _))
      clear HR hi hlt HLu HVu
      go_wp2_with fail
      go_loopw [6] (fun v wq => ∃ k : Nat, k ≤ nL ∧ v = .int .i64 k ∧ Hid (Below wr.heap.size wr wq ∧ ∀ (j : Nat) (x : Ed), j < k → log[j]? = some x → MkE evs x)) (fun v _ => nL - (intOf v).toNat)
      case atStart => exact ⟨0, Nat.zero_le _, rfl, Below.refl _ _, fun j x h => by omega⟩
      case round =>
        obtain ⟨k, hk, rfl, HR⟩ := hrel
        clear y0 y1 y2
        have hE2 := hd (block_keep HR.out.1 hEr.out (block_lt hEr.out))
        have y0 := cell_row hE2.out 0; have y1 := cell_row hE2.out 1; have y2 := cell_row hE2.out 2
        simp at y0 y1 y2
        by_cases hlt : k < nL
        · have l1 : k < log.length := by have := HLr.out.1; omega
          have j1 : (k : Int) < (nL : Int) := by omega
          have CC := hd (rmakes_any C aL aE nL cL nE cE k log evs A K wr (HLr.out.below HR.out.1 (Nat.le_refl _)) (HVr.out.below HR.out.1 (Nat.le_refl _)) hlt l1 (by have := HNE.out; omega) HN.out)
          have MI := hd (show (∃ j, ∃ h : j < evs.length, mkE evs[j] log[k].o) ↔ MkE evs log[k] from ⟨fun ⟨j, h, h1⟩ => ⟨j, evs[j], List.getElem?_eq_getElem h, h1⟩, fun ⟨j, e, h1, h2⟩ => by
            obtain ⟨h3, h4⟩ := List.getElem?_eq_some_iff.1 h1
            exact ⟨j, h3, by rw [h4]; exact h2⟩⟩)
          have NO := hd (show ¬ MkE evs log[k] → ∀ x : Ed, log[k]? = some x → ¬ MkE evs x from fun h x hx => by rw [List.getElem?_eq_getElem l1] at hx; injection hx with hx; rw [← hx]; exact h)
          have YE := hd (show MkE evs log[k] → ∀ (j : Nat) (x : Ed), j < k + 1 → log[j]? = some x → MkE evs x from fun h j x hj hx => by
            by_cases e : j = k
            · subst e
              rw [List.getElem?_eq_getElem l1] at hx
              injection hx with hx
              rw [← hx]
              exact h
            · exact HR.out.2 j x (by omega) hx)
          have HG := hd HR.out.2
          have HW := hd HR.out.1
          have E3 : wrap64 ((k : Int) + 1) = ((k + 1 : Nat) : Int) := by have := HN.out; rw [wrap64]; omega
          rw [MI.out] at CC
          generalize MkE evs log[k] = GG at *
          clear HR MI
          go_wp2_with fail
          refine CC.out.mono ?_
          rintro e u2 ⟨r, rfl, hr, b2⟩
          have HR2 := hd hr
          have B2 := hd (HW.out.trans (b2.mono HW.out.size))
          have BZ := hd (B3.out.trans (B2.out.mono B3.out.size))
          clear hr b2 CC y0 y1 y2
          cases r with
          | false =>
            have Z : Hid (RCs C nL nE log evs 141 k) := .inr (.inr (.inr (.inr (.inl ⟨HC.out, HN.out, G1.out, G2.out, k, hlt, HG.out, NO.out (fun h => by have := HR2.out.2 h; cases this), rfl, rfl⟩))))
            clear NO YE HR2
            go_wp2
            go_ret2
            exact ⟨_, _, rfl, Z.out, BZ.out⟩
          | true =>
            have YES := hd (YE.out (HR2.out.1 rfl))
            clear NO YE HR2
            go_wp2
            exact ⟨⟨k + 1, by omega, by rw [E3], B2.out, YES.out⟩, by rw [E3]; simp only [intOf, Int.toNat_natCast]; omega⟩
        · have hkn : nL = k := by omega
          subst hkn
          have j1 : ¬ (nL : Int) < (nL : Int) := by omega
          have Z : Hid (RCs C nL nE log evs 0 (-1)) := .inr (.inr (.inr (.inr (.inr ⟨HC.out, HN.out, G1.out, G2.out, fun j x hx => HR.out.2 j x (by have := (List.getElem?_eq_some_iff.1 hx).1; have := HLr.out.1; omega) hx, rfl, rfl⟩))))
          have BZ := hd (B3.out.trans (HR.out.1.mono B3.out.size))
          clear HR hlt hk
          go_wp2
          go_ret2
          exact ⟨_, _, rfl, Z.out, BZ.out⟩
end Go.Proofs.YtfhghijefjhehaaGreatDoor
