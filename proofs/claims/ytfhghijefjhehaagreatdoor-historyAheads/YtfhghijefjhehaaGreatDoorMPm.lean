/-
  Texts put together: Pm Qa.
-/
import Derived.Test.YtfhghijefjhehaaGreatDoorMPk
import Derived.Test.YtfhghijefjhehaaGreatDoorMOh
/-! Pm -/
namespace Go.Proofs.YtfhghijefjhehaaGreatDoor
open Go.RowKit
set_option linter.unusedVariables false

set_option maxRecDepth 100000 in
set_option maxHeartbeats 8000000 in
theorem walked_any (C : Nat) (aL aE : Option Addr) (nL cL nE cE : Nat) (log : List Ed) (evs : List Ev) (A : Nat → Option Addr) (K : Nat → Nat) (D : Nat → List El) (w : World) (hL : IsL w aL nL log) (hV : IsV w aE nE evs A K) (hC0 : 1 ≤ C) (hC : C ≤ 64) (hn : nL ≤ 4096) (hnE : nE ≤ 1466015503701) (hP : PF C log (edW evs D)) (hwl : ∀ d k, k ≤ nL → (wayD apE log (edW evs D) d k).length ≤ 5000) (hsite : ∀ j (hj : j < evs.length), zoB evs[j].o = false → ∃ cN : Nat, evs[j].site = (cN : Int) ∧ cN ≤ C) :
    Calls Tryz.prog 21 #[.agg #[.int .i64 (C : Int), .slice aL nL cL, .slice aE nE cE]] w fun e w' => ∃ g vd, e = .returned (.tuple #[.slice (some ⟨g, 0, none⟩) (C + 1) (C + 1), vd]) ∧ WS w w' g (C + 1) (edW evs D) (fun d => ((stW apE log (edW evs D) nL).1 d).all apE) (fun d => wayD apE log (edW evs D) d nL ++ mkV apE (nL : Int) ((stW apE log (edW evs D) nL).1 d).still ((stW apE log (edW evs D) nL).1 d)) vd (stW apE log (edW evs D) nL).2 := by
  obtain ⟨i0, hi0, hz0, hz1, hz2⟩ := info_parts infoWk
  have hb : Below w.heap.size w (w.alloc (.cells #[.int .i64 (C : Int), .slice aL nL cL, .slice aE nE cE] 25)) := (Below.refl _ _).alloc (Nat.le_refl _) _
  have HG := hd (heap_alloc_new w (.cells #[.int .i64 (C : Int), .slice aL nL cL, .slice aE nE cE] 25))
  have HB := hd hb
  have HL := hd (hL.below hb (Nat.le_refl _))
  have HV := hd (hV.below hb (Nat.le_refl _))
  have HP := hd hP
  have HWL := hd hwl
  have HSI := hd hsite
  have HNE := hd hnE
  clear hL hV hb hP hwl hsite hnE
  go_enter Tryz.func21, Tryz.ntmps21
  go_upto_region 1 with fail
  generalize w.alloc (.cells #[.int .i64 (C : Int), .slice aL nL cL, .slice aE nE cE] 25) = w1 at *
  have m0 := cell_row HG.out 0; have m1 := cell_row HG.out 1; have m2 := cell_row HG.out 2
  simp at m0 m1 m2
  have lw1 : w.heap.size < w1.heap.size := block_lt HG.out
  go_upto_region 2 with (at_make; refine wpList_make_k _ rfl _ _ 80 rfl 84 i0 _ Tryz.underlying80 hi0 hz0 _ _ _ _ (C + 1) (C + 1) rfl rfl (by go_num) (by go_num) (Nat.le_refl _) (by rw [hz2]; omega) (by omega) ?_; intro w2 cur hg3 hcur hb3)
  have J0 := hd (W1.begin (evs := evs) (D := D) (n := C + 1) hg3.out (by have := hcur.out; rw [hz1] at this; exact this) hb3.out (Nat.le_refl _))
  generalize hgg : w1.heap.size = g at *
  have HGG := hd hgg
  clear hi0 hz0 hz1 hz2 hg3 hcur hb3 hgg
  go_wp2_with fail
  go_loopw [5] (fun i wr => ∃ q : Nat, q ≤ nE ∧ i = .int .i64 (q : Int) ∧ Hid (W1 w1 wr g (C + 1) evs D q)) (fun i _ => nE - (intOf i).toNat)
  case atStart => exact ⟨0, Nat.zero_le _, rfl, J0⟩
  case round =>
    obtain ⟨q, hq, rfl, HR⟩ := hrel
    clear J0
    have hB := HR.out.bel
    have lwg : w.heap.size < w1.heap.size := by have := HGG.out; omega
    have s0 := (hB.cell (p := ⟨w.heap.size, 0, none⟩) lwg).trans m0
    have s2 := (hB.cell (p := ⟨w.heap.size, 2, none⟩) lwg).trans m2
    by_cases hlt : q < nE
    · have i1 : (q : Int) < (nE : Int) := by omega
      have hql : q < evs.length := by have := HV.out.1; omega
      have heq : evs[q]? = some evs[q] := List.getElem?_eq_getElem hql
      obtain ⟨b, off, hab, hbl, hcells⟩ := HV.out.2 (by omega)
      subst hab
      obtain ⟨x0, x1, x2, x3, x4, x5, x6, x7, x8, x9⟩ := hcells q hql
      have x0 := (hB.cell (p := ⟨b, off + q * 10, none⟩) hbl).trans x0
      have x1 := (hB.cell (p := ⟨b, off + q * 10 + 1, none⟩) hbl).trans x1
      have x2 := (hB.cell (p := ⟨b, off + q * 10 + 2, none⟩) hbl).trans x2
      have x3 := (hB.cell (p := ⟨b, off + q * 10 + 3, none⟩) hbl).trans x3
      have x4 := (hB.cell (p := ⟨b, off + q * 10 + 4, none⟩) hbl).trans x4
      have x5 := (hB.cell (p := ⟨b, off + q * 10 + 5, none⟩) hbl).trans x5
      have x6 := (hB.cell (p := ⟨b, off + q * 10 + 6, none⟩) hbl).trans x6
      have x7 := (hB.cell (p := ⟨b, off + q * 10 + 7, none⟩) hbl).trans x7
      have x8 := (hB.cell (p := ⟨b, off + q * 10 + 8, none⟩) hbl).trans x8
      have x9 := (hB.cell (p := ⟨b, off + q * 10 + 9, none⟩) hbl).trans x9
      have hsi := HSI.out q hql
      have hddl : ∀ cN : Nat, (ddAt evs D q (cN : Int)).length ≤ 1000000 := fun cN => by
        have h1 := dd_mono evs D (cN : Int) (Nat.le_of_lt hql)
        have h2 := (HP.out.gw 0 cN).n
        have h3 : ((stW apE log (edW evs D) 0).1 cN).still.length = (ddAt evs D evs.length (cN : Int)).length := by show (edW evs D cN).length = _; unfold edW; rw [List.length_map]
        omega
      have HDL := hd hddl
      have HEQ := hd heq
      clear hcells hddl heq
      generalize evs[q] = e at *
      obtain ⟨est, esi, eha, ema, ⟨ek, ep, ec, el, es⟩, eln⟩ := e
      simp only at x0 x1 x2 x3 x4 x5 x6 x7 x8 x9 hsi
      have b5 : Below wr.heap.size wr (wr.alloc (.cells #[.int .i64 est, .int .i64 esi, .int .i64 eha, .int .i64 ema, .int .i64 ek, .int .i64 ep, .int .u8 ec, .int .i64 el, .int .i64 es, .slice (A q) eln (K q)] 76)) := (Below.refl _ _).alloc (Nat.le_refl _) _
      have hev := hd (heap_alloc_new wr (.cells #[.int .i64 est, .int .i64 esi, .int .i64 eha, .int .i64 ema, .int .i64 ek, .int .i64 ep, .int .u8 ec, .int .i64 el, .int .i64 es, .slice (A q) eln (K q)] 76))
      have HR2 := hd (HR.out.below b5)
      have hmm : nE - (q + 1) < nE - q := by omega
      have hqb : q + 1 ≤ 1466015503701 := by have := HNE.out; omega
      clear HR hB b5
      by_cases hz : zoB ⟨ek, ep, ec, el, es⟩ = true
      · have ho : (⟨ek, ep, ec, el, es⟩ : OpE) = zo := (zoB_iff _).1 hz
        have e0 : ek = 0 ∧ ep = 0 ∧ ec = 0 ∧ el = 0 ∧ es = 0 := by simpa [zo] using ho
        have hcmp : ∀ W, (Op.equalIn 10000 69 (.agg #[.int .i64 ek, .int .i64 ep, .int .u8 ec, .int .i64 el, .int .i64 es]) (.agg #[.int .i64 0, .int .i64 0, .int .u8 0, .int .i64 0, .int .i64 0])).run Tryz.prog W = .ok true W := fun W => by
          obtain ⟨rfl, rfl, rfl, rfl, rfl⟩ := e0
          exact opSame 0 0 0 0 0 W
        have NX := hd (HR2.out.skip HEQ.out hz)
        clear ho hz HR2 hsi HDL e0
        go_upto_region 6 with fail
        generalize wr.alloc (.cells #[.int .i64 est, .int .i64 esi, .int .i64 eha, .int .i64 ema, .int .i64 ek, .int .i64 ep, .int .u8 ec, .int .i64 el, .int .i64 es, .slice (A q) eln (K q)] 76) = w5 at *
        generalize wr.heap.size = be at *
        clear x0 x1 x2 x3 x4 x5 x6 x7 x8 x9 s0 s2
        have k4 := cell_row hev.out 4; have k5 := cell_row hev.out 5; have k6 := cell_row hev.out 6; have k7 := cell_row hev.out 7; have k8 := cell_row hev.out 8
        simp at k4 k5 k6 k7 k8
        clear hev
        go_wp2_with fail
        exact ⟨⟨q + 1, by omega, by go_num, NX⟩, by simp [intOf]; omega⟩
      · have hz' : zoB ⟨ek, ep, ec, el, es⟩ = false := by simpa using hz
        have hne : (⟨ek, ep, ec, el, es⟩ : OpE) ≠ ⟨0, 0, 0, 0, 0⟩ := fun e => hz ((zoB_iff _).2 e)
        have hcmp := fun W => opNe hne W
        obtain ⟨cN, hcs, hcC⟩ := hsi hz'
        subst hcs
        clear hz hsi
        go_upto_region 6 with fail
        generalize wr.alloc (.cells #[.int .i64 est, .int .i64 (cN : Int), .int .i64 eha, .int .i64 ema, .int .i64 ek, .int .i64 ep, .int .u8 ec, .int .i64 el, .int .i64 es, .slice (A q) eln (K q)] 76) = w5 at *
        generalize wr.heap.size = be at *
        clear x0 x1 x2 x3 x4 x5 x6 x7 x8 x9 s0 s2
        have k1 := cell_row hev.out 1; have k2 := cell_row hev.out 2; have k4 := cell_row hev.out 4; have k5 := cell_row hev.out 5; have k6 := cell_row hev.out 6; have k7 := cell_row hev.out 7; have k8 := cell_row hev.out 8
        simp at k1 k2 k4 k5 k6 k7 k8
        obtain ⟨⟨oa, oc, hcell⟩, lg5⟩ := HR2.out.cell (c := cN) (by omega)
        have lbe : be < w5.heap.size := block_lt hev.out
        go_upto_region 7 with fail
        refine pushW _ w5 g be cN (C + 1) (ddAt evs D q (cN : Int)).length oc oa eha ek ep ec el es rfl rfl (by simp) (by omega) (by omega) (PW w1 g (C + 1) cN be evs D q oa (ddAt evs D q (cN : Int)).length oc eha ek ep ec el es) (fun u hB => ⟨(hB.cell (p := ⟨be, 1, none⟩) lbe).trans k1, (hB.cell (p := ⟨g, cN * 6, none⟩) lg5).trans hcell, (hB.cell (p := ⟨be, 2, none⟩) lbe).trans k2, (hB.cell (p := ⟨be, 4, none⟩) lbe).trans k4, (hB.cell (p := ⟨be, 5, none⟩) lbe).trans k5, (hB.cell (p := ⟨be, 6, none⟩) lbe).trans k6, (hB.cell (p := ⟨be, 7, none⟩) lbe).trans k7, (hB.cell (p := ⟨be, 8, none⟩) lbe).trans k8⟩) (fun v u hp => hp.2.2.1) (fun u b hB hb => (HR2.out.below hB).edit HEQ.out hz' rfl (by omega) (HDL.out cN) ((hB.block _ lbe).trans hev.out) ⟨rfl, rfl, rfl, rfl, rfl, rfl, rfl⟩ ((hB.cell (p := ⟨g, cN * 6, none⟩) lg5).trans hcell) hb) (fun v u hp => ⟨hp.1, hp.2.1⟩) ?_
        intro V' v' u1 hP
        have NX := hd hP.2.2.2
        clear hP HR2 hcell k1 k2 k4 k5 k6 k7 k8 hev hcmp hne hz' HDL lg5 lbe
        simp only [slpushW, List.getD_cons_zero, List.getD_cons_succ, List.range, List.range.loop, List.map_cons, List.map_nil, puts, List.foldl_cons, List.foldl_nil, Act.put, List.setIfInBounds_toArray, List.set_cons_succ, List.set_cons_zero]
        generalize u1.setCell ⟨g, cN * 6, none⟩ v' = u2 at *
        go_wp2_with fail
        exact ⟨⟨q + 1, by omega, by go_num, NX⟩, by simp [intOf]; omega⟩
    · have i1 : ¬ ((q : Int) < (nE : Int)) := by omega
      have J1 : Hid (WS w1 wr g (C + 1) (edW evs D) (fun d => (stW apE log (edW evs D) 0).1 d) (fun d => if d < 1 then [((stW apE log (edW evs D) 0).1 d).view] else []) (.slice none 0 0) []) := by
        have h := HR.out
        rw [show q = evs.length from by have := HV.out.1; omega] at h
        exact (W1.all (log := log) h).congr (fun d hd1 hd2 => ⟨rfl, by rw [if_neg (by omega)]⟩)
      clear HR hB HV HSI hlt s0
      go_wp2_with fail
      clear s2
      go_loopw [7] (fun i wr => ∃ m : Nat, 1 ≤ m ∧ m ≤ C + 1 ∧ i = .int .i64 (m : Int) ∧ Hid (WS w1 wr g (C + 1) (edW evs D) (fun d => (stW apE log (edW evs D) 0).1 d) (fun d => if d < m then [((stW apE log (edW evs D) 0).1 d).view] else []) (.slice none 0 0) [])) (fun i _ => C + 1 - (intOf i).toNat)
      case atStart => exact ⟨1, Nat.le_refl _, by omega, rfl, J1⟩
      case round =>
        obtain ⟨m, hm1, hm2, rfl, HR⟩ := hrel
        clear J1
        have s0 := (HR.out.bel.cell (p := ⟨w.heap.size, 0, none⟩) lwg).trans m0
        by_cases hmC : m ≤ C
        · have i2 : (m : Int) ≤ (C : Int) := by omega
          have i3 : (m : Int) < ((C + 1 : Nat) : Int) := by omega
          have CT := hd (ws_told HR.out hm1 (by omega) (by split <;> simp))
          have hmm : C + 1 - (m + 1) < C + 1 - m := by omega
          clear HR
          go_wp2_with fail
          refine CT.out.mono ?_
          rintro e w6 ⟨⟨vr, rfl⟩, hW⟩
          have NX : Hid (WS w1 w6 g (C + 1) (edW evs D) (fun d => (stW apE log (edW evs D) 0).1 d) (fun d => if d < m + 1 then [((stW apE log (edW evs D) 0).1 d).view] else []) (.slice none 0 0) []) := hW.congr (fun d hd1 hd2 => by
            by_cases e : d = m
            · subst e
              rw [upd_same, upd_same]
              simp
            · rw [upd_ne _ _ e, upd_ne _ _ e]
              refine ⟨rfl, ?_⟩
              by_cases e2 : d < m
              · rw [if_pos e2, if_pos (by omega)]
              · rw [if_neg e2, if_neg (by omega)])
          clear hW CT s0
          go_wp2_with fail
          exact ⟨⟨m + 1, by omega, by omega, by go_num, NX⟩, by simp [intOf]; omega⟩
        · have i2 : ¬ ((m : Int) ≤ (C : Int)) := by omega
          have J2 : Hid (WL w1 wr g C nL log (edW evs D) 0 (.slice none 0 0)) := ⟨fun _ => HR.out.congr (fun d hd1 hd2 => ⟨rfl, by rw [if_pos (by omega)]; rfl⟩), fun e => by omega⟩
          clear HR
          go_wp2_with fail
          clear s0
          go_loopw [8, 9] (fun vd i wr => ∃ k : Nat, k ≤ nL + 1 ∧ i = .int .i64 (k : Int) ∧ Hid (WL w1 wr g C nL log (edW evs D) k vd)) (fun _ i _ => nL + 1 - (intOf i).toNat)
          case atStart => exact ⟨0, Nat.zero_le _, rfl, J2⟩
          case round =>
            obtain ⟨k, hk, rfl, HR⟩ := hrel
            clear J2
            have hBk := HR.out.bel hk
            have s0 := (hBk.cell (p := ⟨w.heap.size, 0, none⟩) lwg).trans m0
            have s1 := (hBk.cell (p := ⟨w.heap.size, 1, none⟩) lwg).trans m1
            obtain ⟨aD, cD, nD, hvD⟩ := HR.out.form hk
            subst hvD
            clear hBk
            by_cases hkn : k ≤ nL
            · have i3 : (k : Int) ≤ (nL : Int) := by omega
              have hkl : k ≤ log.length := by have := HL.out.1; omega
              have hkb : k + 1 ≤ 4097 := by omega
              have JA0 := hd (WA.start HR.out hkn)
              have HWK := hd (fun d => HWL.out d k hkn)
              have HKL := hd hkl
              have HKN := hd hkn
              clear HR hkl hk s0
              go_wp2_with fail
              clear s1
              go_loopw [10] (fun i wr => ∃ m : Nat, 1 ≤ m ∧ m ≤ C + 1 ∧ i = .int .i64 (m : Int) ∧ Hid (WA w1 wr g C log (edW evs D) k m (.slice aD nD cD))) (fun i _ => C + 1 - (intOf i).toNat)
              case atStart => exact ⟨1, Nat.le_refl _, by omega, rfl, JA0⟩
              case round =>
                obtain ⟨m, hm1, hm2, rfl, HR⟩ := hrel
                clear JA0
                have s0 := (HR.out.bel.cell (p := ⟨w.heap.size, 0, none⟩) lwg).trans m0
                by_cases hmC : m ≤ C
                · have i4 : (m : Int) ≤ (C : Int) := by omega
                  have i5 : (m : Int) < ((C + 1 : Nat) : Int) := by omega
                  have CT := hd (HR.out.make HP.out HKL.out hm1 hmC (HWK.out m))
                  have hmm : C + 1 - (m + 1) < C + 1 - m := by omega
                  clear HR
                  go_wp2_with fail
                  refine CT.out.mono ?_
                  rintro e w6 ⟨⟨vr, rfl⟩, hW⟩
                  have NX := hd hW
                  clear hW CT s0
                  go_wp2_with fail
                  exact ⟨⟨m + 1, by omega, by omega, by go_num, NX⟩, by simp [intOf]; omega⟩
                · have i4 : ¬ ((m : Int) ≤ (C : Int)) := by omega
                  have eC : m = C + 1 := by omega
                  have HR2 : Hid (WA w1 wr g C log (edW evs D) k (C + 1) (.slice aD nD cD)) := by rw [← eC]; exact HR
                  have hB := HR2.out.bel
                  have s1 := (hB.cell (p := ⟨w.heap.size, 1, none⟩) lwg).trans m1
                  have hkm : nL + 1 - (k + 1) < nL + 1 - k := by have := HKN.out; omega
                  clear HR eC hmC hm1 hm2
                  by_cases hlt : k < nL
                  · have i6 : (k : Int) < (nL : Int) := by omega
                    have hkl : k < log.length := by have := HL.out.1; omega
                    obtain ⟨b, off, hab, -⟩ := HL.out.2 (by omega)
                    subst hab
                    obtain ⟨hb1, n0, n1, n2, n3, n4, n5⟩ := HL.out.cell hkl
                    have l4 := (hB.cell (p := ⟨b, off + k * 6 + 4, none⟩) hb1).trans n4
                    have hcl := HP.out.cl k hkl
                    obtain ⟨nI, hnI⟩ : ∃ nI : Nat, log[k].o.cl = (nI : Int) := ⟨log[k].o.cl.toNat, by omega⟩
                    rw [hnI] at l4
                    have i7 : (nI : Int) < ((C + 1 : Nat) : Int) := by omega
                    obtain ⟨gf, of, mf, cf, r5, hn0, hn1, hn2, hgf, hgg, r0, r1, r2, r3, r4⟩ := HR2.out.head HP.out hkl hnI
                    have HN := hd hnI
                    have HKL2 := hd hkl
                    have JT := hd (HR2.out.lay (w' := wr.alloc (.cells (opc (opK apE log (edW evs D) k)).toArray 69)) ((Below.refl _ _).alloc (Nat.le_refl _) _) (heap_alloc_new wr _))
                    simp only [opc] at JT
                    clear HR2 hB hcl hnI n0 n1 n2 n3 n4 n5
                    go_upto_region 23 with fail
                    generalize wr.alloc (.cells #[.int .i64 (opK apE log (edW evs D) k).kind, .int .i64 (opK apE log (edW evs D) k).pos, .int .u8 (opK apE log (edW evs D) k).ch, .int .i64 (opK apE log (edW evs D) k).cl, .int .i64 (opK apE log (edW evs D) k).sq] 69) = w7 at *
                    generalize wr.heap.size = bo at *
                    clear l4 r0 r1 r2 r3 r4 r5 s0 s1 hgf hgg hn0 hn1 hn2
                    have hop := JT.out.blk
                    simp only [opc] at hop
                    obtain ⟨⟨r0, r1, r2, r3, r4⟩, -⟩ := cellsF hop
                    obtain ⟨aN, cN, w9, hrun, hT9⟩ := JT.out.done HP.out HKL2.out (by omega) (w' := w7.alloc (.cells (opc (opK apE log (edW evs D) k)).toArray 69)) ((Below.refl _ _).alloc (Nat.le_refl _) _) w7.heap.size (heap_alloc_new w7 _)
                    simp only [opc] at hrun
                    have J5 := hd hT9
                    clear JT hT9 hop
                    go_wp2_with (at_builtin; refine wpList_append_k _ rfl _ _ 63 63 rfl _ _ rfl rfl (hrun _) ?_)
                    clear r0 r1 r2 r3 r4 hrun
                    go_loopw [13] (fun i wr => ∃ m : Nat, 1 ≤ m ∧ m ≤ C + 1 ∧ i = .int .i64 (m : Int) ∧ Hid (WT w1 wr g C log (edW evs D) k m (.slice aN (k + 1) cN) (stW apE log (edW evs D) (k + 1)).2 bo)) (fun i _ => C + 1 - (intOf i).toNat)
                    case atStart => exact ⟨1, Nat.le_refl _, by omega, rfl, J5⟩
                    case round =>
                      obtain ⟨m', hm1, hm2, rfl, HR⟩ := hrel
                      clear J5
                      have s0 := (HR.out.bel.cell (p := ⟨w.heap.size, 0, none⟩) lwg).trans m0
                      by_cases hmC : m' ≤ C
                      · have i8 : (m' : Int) ≤ (C : Int) := by omega
                        have i9 : (m' : Int) < ((C + 1 : Nat) : Int) := by omega
                        have i9b : m' < C + 1 := by omega
                        have i9c : (m' : Int) < (C : Int) + 1 := by omega
                        obtain ⟨own, hown⟩ : ∃ own, ((m' : Int) == (nI : Int)) = own := ⟨_, rfl⟩
                        have hop := HR.out.blk
                        simp only [opc] at hop
                        obtain ⟨⟨r0, r1, r2, r3, r4⟩, -⟩ := cellsF hop
                        have ho2 : own = (m' == nI) := by
                          rw [← hown]
                          by_cases e : m' = nI
                          · subst e; simp
                          · have e' : (m' : Int) ≠ (nI : Int) := by omega
                            rw [beq_false_of_ne e, beq_false_of_ne e']
                        have CT := hd (fun W (hB : Below wr.heap.size wr W) => (show WT w1 W g C log (edW evs D) k m' _ _ bo from WO.below HR.out hB).take HP.out HKL2.out (by omega) HN.out hm1 hmC (HWK.out m') own ho2)
                        simp only [OpE.val] at CT
                        have hmm : C + 1 - (m' + 1) < C + 1 - m' := by omega
                        clear HR hop ho2
                        go_upto_region 27 with fail
                        go_region_law (first | (go_simp; go_at_call 57; refine (CT.out _ (by repeat (first | exact Below.refl _ _ | refine Below.drew ?_ | refine below_drewN ?_ _))).mono ?_; rintro ex w3 ⟨⟨vr, rfl⟩, k3⟩))
                        all_goals
                          have NX := hd k3
                          clear k3 CT s0 r0 r1 r2 r3 r4 hown
                          go_wp2_with fail
                          exact ⟨⟨m' + 1, by omega, by omega, by go_num, NX⟩, by simp [intOf]; omega⟩
                      · have i8 : ¬ ((m' : Int) ≤ (C : Int)) := by omega
                        have eC : m' = C + 1 := by omega
                        have NX : Hid (WL w1 wr g C nL log (edW evs D) (k + 1) (.slice aN (k + 1) cN)) := by
                          have h := HR.out
                          rw [eC] at h
                          exact h.fin hlt
                        have hk1 : k + 1 ≤ nL + 1 := by omega
                        clear HR eC hmC
                        go_wp2_with fail
                        exact ⟨⟨k + 1, hk1, by go_num, NX⟩, by simp [intOf]; omega⟩
                  · have eK : k = nL := by omega
                    have i6 : ¬ ((k : Int) < (nL : Int)) := by omega
                    have NX : Hid (WL w1 wr g C nL log (edW evs D) (k + 1) (.slice aD nD cD)) := by
                      have h := HR2.out
                      rw [eK] at h ⊢
                      exact h.last
                    have hk1 : k + 1 ≤ nL + 1 := by omega
                    clear HR2 hB eK hlt
                    go_wp2_with fail
                    exact ⟨⟨k + 1, hk1, by go_num, NX⟩, by simp [intOf]; omega⟩
            · have i3 : ¬ ((k : Int) ≤ (nL : Int)) := by omega
              have Z := hd ((HR.out.2 (by omega)).base HB.out)
              clear HR s0
              go_wp2
              refine bodyPost_ret (v := .tuple #[.slice (some ⟨g, 0, none⟩) (C + 1) (C + 1), .slice aD nD cD]) (by simp [results, Tryz.results21, go_sem]) rfl ?_
              exact ⟨g, _, rfl, Z.out⟩

end Go.Proofs.YtfhghijefjhehaaGreatDoor

/-! Qa -/
namespace Go.Proofs.YtfhghijefjhehaaGreatDoor
open Go.RowKit
set_option linter.unusedVariables false

/-- The way of a walker, as it lies there. -/
theorem WS.way {w1 wr : World} {g n c : Nat} {E : Nat → List Ed} {G : Nat → Wk} {F : Nat → List Vw} {vd : Value} {ds : List OpE} (h : WS w1 wr g n E G F vd ds) (h1c : 1 ≤ c) (hc : c < n) : ∃ v, wr.cell? ⟨g, c * 6 + 3, none⟩ = some v ∧ IsVw wr v (F c) := by
  obtain ⟨B, Φ, N, K, Y, φd, h1, h2, h3, h4⟩ := h
  have hW := h1.wr c hc
  obtain ⟨cur, vE, vT, vF, vW, k1, k2, -, -, -, c3, -, -, -, -, -, hw⟩ := hW.blk
  exact ⟨vW, by rw [cell_row k1]; exact c3, Y c, ⟨_, hw⟩, hW.docs, (h2 c h1c hc).2⟩
/-- An edit is made by a client. -/
theorem site_of {C : Nat} {log : List Ed} {evs : List Ev} (hE : GE (C : Int) log evs evs.length) : ∀ j (hj : j < evs.length), zoB evs[j].o = false → ∃ cN : Nat, evs[j].site = (cN : Int) ∧ cN ≤ C := fun j hj _ => by
  obtain ⟨⟨a1, a2, -, -⟩, -⟩ := hE j evs[j] hj (List.getElem?_eq_getElem hj)
  exact ⟨evs[j].site.toNat, by omega, by omega⟩
theorem wayD_len {C : Nat} {log : List Ed} {evs : List Ev} {D : Nat → List El} (hg : GL (C : Int) log log.length) (hE : GE (C : Int) log evs evs.length) (hall : ∀ (j : Nat) (x : Ed), log[j]? = some x → x.o.sq ≤ (dn evs evs.length x.o.cl : Int)) (hP : PF C log (edW evs D)) (hn : log.length ≤ 4096) : ∀ d k, k ≤ log.length → (wayD apE log (edW evs D) d k).length ≤ 5000 := fun d k hk => by
  have h1 := congrArg List.length (way_doc (ap := apE) (D := D) hg hE (facts_of hg hE) hall d k hk)
  have h2 := path_len (c := d) hP (ds0 := ddAt evs D evs.length (d : Int)) rfl hn
  rw [← st0_wk (log := log) d] at h2
  rw [List.length_append] at h1
  omega

end Go.Proofs.YtfhghijefjhehaaGreatDoor
