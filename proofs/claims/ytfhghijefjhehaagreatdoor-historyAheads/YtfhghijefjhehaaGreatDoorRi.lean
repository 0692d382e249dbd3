/-
  The document's Ahead.
-/
import Derived.Test.YtfhghijefjhehaaGreatDoorMRe
import Derived.Test.YtfhghijefjhehaaGreatDoorQb
namespace Go.Proofs.YtfhghijefjhehaaGreatDoor
open Go.RowKit
set_option linter.unusedVariables false

/-- The boxes of a call: a history and two elements. -/
theorem box3 (w : World) (o1 o2 o3 : Obj) : Below w.heap.size w (((w.alloc o1).alloc o2).alloc o3) ∧ (((w.alloc o1).alloc o2).alloc o3).heap[w.heap.size]? = some o1 ∧ (((w.alloc o1).alloc o2).alloc o3).heap[w.heap.size + 1]? = some o2 ∧ (((w.alloc o1).alloc o2).alloc o3).heap[w.heap.size + 2]? = some o3 := by
  refine ⟨(((Below.refl _ _).alloc (Nat.le_refl _) _).alloc (by simp) _).alloc (by simp; omega) _, ?_, ?_, ?_⟩
  · exact (Below.heap_alloc _ _ _ (by simp; omega)).trans ((Below.heap_alloc _ _ _ (by simp)).trans (heap_alloc_new w _))
  · refine (Below.heap_alloc _ _ _ (by simp)).trans ?_
    have := heap_alloc_new (w.alloc o1) o2
    rwa [World.size_alloc] at this
  · have := heap_alloc_new ((w.alloc o1).alloc o2) o3
    rwa [World.size_alloc, World.size_alloc] at this

theorem fsN_step {α : Type} {f : α → Int} {l : List α} {q : Nat} (h : fsN f (l.take q) = 0) (hq : q < l.length) (hz : f l[q] = 0) : fsN f (l.take (q + 1)) = 0 := by
  rw [List.take_succ_eq_append_getElem hq, fsN_append, if_pos h]
  simp [fsN, hz]
theorem fsN_hit {α : Type} {f : α → Int} {l : List α} {q : Nat} (h : fsN f (l.take q) = 0) (hq : q < l.length) (hz : f l[q] ≠ 0) : fsN f l = f l[q] := by
  have e : l = l.take q ++ l[q] :: l.drop (q + 1) := by rw [List.getElem_cons_drop, List.take_append_drop]
  have e2 : fsN f l = fsN f (l.take q ++ l[q] :: l.drop (q + 1)) := congrArg (fsN f) e
  rw [e2, fsN_append, if_pos h]
  show (if f l[q] = 0 then _ else f l[q]) = _
  rw [if_neg hz]
theorem IsVs.below {w w' : World} {a : Option Addr} {vs : List Vw} (h : IsVs w a vs) (hb : Below w.heap.size w w') : IsVs w' a vs :=
  ⟨h.1, fun q hq => by
    obtain ⟨b, ad, cd, e, h0, h1, h2, h3, h4⟩ := h.2 q hq
    have hl : b < w.heap.size := cell_lt h0
    exact ⟨b, ad, cd, e, (hb.cell (p := ⟨b, q * 3, none⟩) hl).trans h0, (hb.cell (p := ⟨b, q * 3 + 1, none⟩) hl).trans h1, (hb.cell (p := ⟨b, q * 3 + 2, none⟩) hl).trans h2, h3.below hb (Nat.le_refl _), h4⟩⟩
theorem WS.done {w1 wr : World} {g n : Nat} {E : Nat → List Ed} {G : Nat → Wk} {F : Nat → List Vw} {vd : Value} {ds : List OpE} (h : WS w1 wr g n E G F vd ds) : (∃ φ, FO wr φ vd ds) ∧ g < wr.heap.size := by
  obtain ⟨B, Φ, N, K, Y, φd, h1, h2, h3, h4⟩ := h
  exact ⟨⟨φd, h3⟩, h1.lt⟩

set_option maxRecDepth 100000 in
set_option maxHeartbeats 8000000 in
theorem rahead_law (C : Int) (aL aE : Option Addr) (nL cL nE cE : Nat) (log : List Ed) (evs : List Ev) (A : Nat → Option Addr) (K : Nat → Nat) (D : Nat → List El) (a b : El) (w : World) (hL : IsL w aL nL log) (hV : IsV w aE nE evs A K) (hnE : nE ≤ 1466015503701)
    (hce : ∀ j (h : j < evs.length), 0 ≤ evs[j].o.ch ∧ evs[j].o.ch ≤ 255) :
    Calls Tryz.prog 12 #[.agg #[.int .i64 C, .slice aL nL cL, .slice aE nE cE], elV a, elV b] w fun e w' => ∃ n c p, e = .returned (.tuple #[.int .i64 n, .int .i64 c, .int .i64 p]) ∧ Below w.heap.size w w' ∧ AhP C nL nE log evs D a b n c p := by
  obtain ⟨a0, a1, a2⟩ := a
  obtain ⟨b0, b1, b2⟩ := b
  obtain ⟨hb, hH, hA, hB⟩ := box3 w (.cells #[.int .i64 C, .slice aL nL cL, .slice aE nE cE] 25) (.cells #[.int .u8 a0, .int .i64 a1, .int .i64 a2] 42) (.cells #[.int .u8 b0, .int .i64 b1, .int .i64 b2] 42)
  have HLE := hd (show log.length = nL ∧ evs.length = nE from ⟨hL.1, hV.1⟩)
  have CR := hd (rcheck_any C aL aE nL cL nE cE log evs A K _ (hL.below hb (Nat.le_refl _)) (hV.below hb (Nat.le_refl _)) (by omega))
  have HL := hd (fun u (hu : Below w.heap.size w u) => hL.below hu (Nat.le_refl _))
  have HV := hd (fun u (hu : Below w.heap.size w u) => hV.below hu (Nat.le_refl _))
  have CIA := hd (fun u (hu : Below w.heap.size w u) => rinserted_any C aL aE nL cL nE cE evs A K (a0, a1, a2) u (HV.out u hu) hnE)
  have CIB := hd (fun u (hu : Below w.heap.size w u) => rinserted_any C aL aE nL cL nE cE evs A K (b0, b1, b2) u (HV.out u hu) hnE)
  simp only [elV] at CIA CIB ⊢
  have HB := hd hb
  have HH := hd hH
  have HA := hd hA
  have HBB := hd hB
  have HN := hd hnE
  have HCE := hd hce
  clear hb hL hV hnE hce hH hA hB
  go_enter Tryz.func12, Tryz.ntmps12
  go_upto_region 1 with fail
  generalize ((w.alloc (.cells #[.int .i64 C, .slice aL nL cL, .slice aE nE cE] 25)).alloc (.cells #[.int .u8 a0, .int .i64 a1, .int .i64 a2] 42)).alloc (.cells #[.int .u8 b0, .int .i64 b1, .int .i64 b2] 42) = w0 at *
  have CL := hd (fun (u : World) (hu : Below w0.heap.size w0 u) => (show (u.cell? ⟨w.heap.size, 0, none⟩ = some (.int .i64 C) ∧ u.cell? ⟨w.heap.size, 1, none⟩ = some (.slice aL nL cL) ∧ u.cell? ⟨w.heap.size, 2, none⟩ = some (.slice aE nE cE)) ∧ (u.cell? ⟨w.heap.size + 1, 0, none⟩ = some (.int .u8 a0) ∧ u.cell? ⟨w.heap.size + 1, 1, none⟩ = some (.int .i64 a1) ∧ u.cell? ⟨w.heap.size + 1, 2, none⟩ = some (.int .i64 a2)) ∧ (u.cell? ⟨w.heap.size + 2, 0, none⟩ = some (.int .u8 b0) ∧ u.cell? ⟨w.heap.size + 2, 1, none⟩ = some (.int .i64 b1) ∧ u.cell? ⟨w.heap.size + 2, 2, none⟩ = some (.int .i64 b2)) from
    ⟨(cells3F ((hu.block _ (block_lt HH.out)).trans HH.out)).1, (cells3F ((hu.block _ (block_lt HA.out)).trans HA.out)).1, (cells3F ((hu.block _ (block_lt HBB.out)).trans HBB.out)).1⟩))
  obtain ⟨⟨m0, m1, m2⟩, -, -⟩ := CL.out w0 (Below.refl _ _)
  go_upto_region 2 with (go_at_call 20; refine CR.out.mono ?_; rintro e u ⟨c, p, rfl, hR, bu⟩)
  have BU := hd bu
  have BW := hd (HB.out.trans (bu.mono HB.out.size))
  have HR := hd hR
  clear CR m0 m1 m2 bu hR
  by_cases hc : c = 0
  · subst hc
    obtain ⟨r1, r2, r3, r4, r5, rfl⟩ := rcs_zero HLE.out.1 HLE.out.2 HR.out
    have GG := hd (show (1 ≤ C ∧ C ≤ 64) ∧ log.length ≤ 4096 ∧ GL C log log.length ∧ GE C log evs evs.length ∧ (∀ (j : Nat) (x : Ed), log[j]? = some x → x.o.sq ≤ (dn evs evs.length x.o.cl : Int)) from ⟨r1, r2, r3, r4, r5⟩)
    clear r1 r2 r3 r4 r5
    obtain ⟨⟨m0, m1, m2⟩, ⟨m3, m4, m5⟩, -⟩ := CL.out u BU.out
    have HRI := HR
    by_cases hia : InsP evs (a0, a1, a2)
    · have CA2 : Hid (Calls Tryz.prog 28 #[.agg #[.int .i64 C, .slice aL nL cL, .slice aE nE cE], .agg #[.int .u8 a0, .int .i64 a1, .int .i64 a2]] u fun e w' => e = .returned (.bool true) ∧ Below u.heap.size u w') := (CIA.out u BW.out).mono (fun e w' ⟨ba, h1, h2, h3⟩ => ⟨by rw [h1, h2.2 hia], h3⟩)
      have HIA := hd hia
      clear CIA hia
      go_upto_region 6 with (go_at_call 28; refine CA2.out.mono ?_; rintro e u2 ⟨rfl, bu2⟩)
      have BU2 := hd (BU.out.trans (bu2.mono BU.out.size))
      have BW2 := hd (BW.out.trans (bu2.mono BW.out.size))
      clear bu2 m0 m1 m2 m3 m4 m5 CA2 BU BW
      obtain ⟨⟨m0, m1, m2⟩, ⟨m3, m4, m5⟩, ⟨m6, m7, m8⟩⟩ := CL.out u2 BU2.out
      by_cases hib : InsP evs (b0, b1, b2)
      · have CB2 : Hid (Calls Tryz.prog 28 #[.agg #[.int .i64 C, .slice aL nL cL, .slice aE nE cE], .agg #[.int .u8 b0, .int .i64 b1, .int .i64 b2]] u2 fun e w' => e = .returned (.bool true) ∧ Below u2.heap.size u2 w') := (CIB.out u2 BW2.out).mono (fun e w' ⟨ba, h1, h2, h3⟩ => ⟨by rw [h1, h2.2 hib], h3⟩)
        have HIB := hd hib
        clear CIB hib
        by_cases hab : ((a0, a1, a2) : El) = (b0, b1, b2)
        · have Z : Hid (AhP C nL nE log evs D (a0, a1, a2) (b0, b1, b2) 0 144 1) := .inr (.inr (.inl ⟨HR.out, HIA.out, .inr hab, rfl, rfl, rfl⟩))
          injection hab with e0 e1
          injection e1 with e1 e2
          subst e0
          subst e1
          subst e2
          have eqs := elSame a0 a1 a2
          clear HL HV HR HCE
          go_wp2_with (go_at_call 28; refine CB2.out.mono ?_; rintro e u3 ⟨rfl, bu3⟩; obtain ⟨-, ⟨n3, n4, n5⟩, ⟨n6, n7, n8⟩⟩ := CL.out u3 (BU2.out.trans (bu3.mono BU2.out.size)))
          go_ret3
          exact ⟨0, 144, 1, rfl, BW2.out.trans (bu3.mono BW2.out.size), Z.out⟩
        · have eqs := fun W => elNe hab W
          have HAB := hd hab
          clear hab
          go_upto_region 8 with (go_at_call 28; refine CB2.out.mono ?_; rintro e u3 ⟨rfl, bu3⟩; obtain ⟨-, ⟨n3, n4, n5⟩, ⟨n6, n7, n8⟩⟩ := CL.out u3 (BU2.out.trans (bu3.mono BU2.out.size)))
          have BU3 := hd (BU2.out.trans (bu3.mono BU2.out.size))
          have BW3 := hd (BW2.out.trans (bu3.mono BW2.out.size))
          clear bu3 m0 m1 m2 m3 m4 m5 m6 m7 m8 n3 n4 n5 n6 n7 n8 CB2 BU2 BW2 eqs
          obtain ⟨CN, hCN⟩ : ∃ CN : Nat, C = (CN : Int) := ⟨C.toNat, by have := GG.out.1; omega⟩
          subst hCN
          have gg := GG.out
          obtain ⟨r1, r2, r3, r4, r5⟩ := gg
          have hP := pf_of (D := D) r3 r4 r5 HCE.out
          have CW := hd (walked_any CN aL aE nL cL nE cE log evs A K D u3 (HL.out u3 BW3.out) (HV.out u3 BW3.out) (by omega) (by omega) (by have := HLE.out.1; omega) HN.out hP (fun d k hk => wayD_len r3 r4 r5 hP r2 d k (by have := HLE.out.1; omega)) (site_of r4))
          have WW := hd (fun c => way_whole (ap := apE) (D := D) r3 r4 (facts_of r3 r4) r5 c)
          have hC64 : CN ≤ 64 := by omega
          have HLN := hd (hP.len log.length (Nat.le_refl _))
          clear hP r1 r2 r3 r4 r5 HL HV HCE
          obtain ⟨⟨m0, m1, m2⟩, -, -⟩ := CL.out u3 BU3.out
          go_upto_region 9 with (go_at_call 21; refine CW.out.mono ?_; rintro e u4 ⟨g, vd, rfl, hS⟩)
          have BU4 := hd (BU3.out.trans (hS.bel.mono BU3.out.size))
          have BW4 := hd (BW3.out.trans (hS.bel.mono BW3.out.size))
          obtain ⟨⟨φ, hFO⟩, lg⟩ := hS.done
          have WAY : Hid (∀ c, 1 ≤ c → c ≤ CN → ∃ a cc, u4.cell? ⟨g, c * 6 + 3, none⟩ = some (.slice a (pathP log evs D c).length cc) ∧ IsVs u4 a (pathP log evs D c)) := fun c h1 h2 => by
            obtain ⟨v, k1, k2⟩ := hS.way h1 (show c < CN + 1 by omega)
            have e := WW.out c
            rw [HLE.out.1] at e
            have k3 : IsVw u4 v (pathP log evs D c) := by
              unfold pathP
              rw [HLE.out.1, ← e]
              exact k2
            obtain ⟨a, cc, rfl, k4⟩ := k3.form
            exact ⟨a, cc, k1, k4⟩
          obtain ⟨aD, cD, hvd, -⟩ := hFO.is
          have eL : (stW apE log (edW evs D) nL).2.length = nL := by
            have h := HLN.out
            rw [HLE.out.1] at h
            exact h
          rw [eL] at hvd
          subst hvd
          have hFO2 : Hid (FO u4 φ (.slice aD nL cD) (stW apE log (edW evs D) log.length).2) := by
            rw [HLE.out.1]
            exact hFO
          clear hS WW CW m0 m1 m2 hFO eL
          go_wp2_with fail
          go_loopw [13] (fun i wr => ∃ m : Nat, m ≤ CN ∧ i = .int .i64 ((m + 1 : Nat) : Int) ∧ Hid (Below u4.heap.size u4 wr) ∧ Hid (clisP log evs D (a0, a1, a2) (b0, b1, b2) m = 0)) (fun i _ => CN + 2 - (intOf i).toNat)
          case atStart => exact ⟨0, Nat.zero_le _, rfl, Below.refl _ _, rfl⟩
          case round =>
            obtain ⟨m, hm, rfl, hBr, hZ⟩ := hrel
            have BR := hd (BU4.out.trans (hBr.out.mono BU4.out.size))
            obtain ⟨⟨m0, -, -⟩, -, -⟩ := CL.out wr BR.out
            generalize hm1 : m + 1 = m1 at *
            have HM1 := hd hm1
            by_cases hlt : m1 ≤ CN
            · have i1 : (m1 : Int) ≤ (CN : Int) := by omega
              obtain ⟨av, cv, hcell, hvs⟩ := WAY.out m1 (by omega) hlt
              have HVS := hd hvs
              have i2 : (m1 : Int) < ((CN + 1 : Nat) : Int) := by omega
              have i2b : m1 < CN + 1 := by omega
              have i2c : (m1 : Int) < (CN : Int) + 1 := by omega
              have hmm : CN + 2 - (m1 + 1) < CN + 2 - m1 := by omega
              have hpl := hvs.1
              clear hvs hm1
              go_wp2_with fail
              clear m0
              go_loopw [14] (fun i wr => ∃ q : Nat, q ≤ (pathP log evs D m1).length ∧ i = .int .i64 (q : Int) ∧ Hid (Below u4.heap.size u4 wr) ∧ Hid (fsN (fun v : Vw => ordP v.doc (a0, a1, a2) (b0, b1, b2)) ((pathP log evs D m1).take q) = 0)) (fun i _ => (pathP log evs D m1).length - (intOf i).toNat)
              case atStart => exact ⟨0, Nat.zero_le _, rfl, hBr, rfl⟩
              case round =>
                obtain ⟨q, hq, rfl, hBq, hF⟩ := hrel
                clear hBr BR
                have BQ := hd (BU4.out.trans (hBq.out.mono BU4.out.size))
                have cw := (hBq.out.cell (p := ⟨g, m1 * 6 + 3, none⟩) lg).trans hcell
                by_cases hql : q < (pathP log evs D m1).length
                · have i3 : (q : Int) < ((pathP log evs D m1).length : Int) := by omega
                  obtain ⟨bv, ad, cd, rfl, -, -, hdoc, htx, hdl⟩ := HVS.out.2 q hql
                  have lbv : bv < u4.heap.size := cell_lt hdoc
                  have cdoc := (hBq.out.cell (p := ⟨bv, q * 3 + 2, none⟩) lbv).trans hdoc
                  obtain ⟨-, ⟨n3, n4, n5⟩, ⟨n6, n7, n8⟩⟩ := CL.out wr BQ.out
                  have CO := hd (fun W (hW : Below wr.heap.size wr W) => order_any ad cd (pathP log evs D m1)[q].doc (a0, a1, a2) (b0, b1, b2) W (htx.below (hBq.out.trans (hW.mono hBq.out.size)) (Nat.le_refl _)) hdl)
                  simp only [elV] at CO
                  have hmq : (pathP log evs D m1).length - (q + 1) < (pathP log evs D m1).length - q := by omega
                  have ZH : Hid (ordP (pathP log evs D m1)[q].doc (a0, a1, a2) (b0, b1, b2) ≠ 0 → ansP log evs D (a0, a1, a2) (b0, b1, b2) CN = ordP (pathP log evs D m1)[q].doc (a0, a1, a2) (b0, b1, b2)) := fun hne => by
                    have h1 : cliP log evs D (a0, a1, a2) (b0, b1, b2) m1 = ordP (pathP log evs D m1)[q].doc (a0, a1, a2) (b0, b1, b2) := fsN_hit (f := fun v : Vw => ordP v.doc (a0, a1, a2) (b0, b1, b2)) hF.out hql hne
                    have h2 : clisP log evs D (a0, a1, a2) (b0, b1, b2) m1 = ordP (pathP log evs D m1)[q].doc (a0, a1, a2) (b0, b1, b2) := by
                      have e := HM1.out
                      subst e
                      exact Eq.trans clisP_succ (Eq.trans (if_pos hZ.out) h1)
                    have h3 := clisP_stop (log := log) (evs := evs) (D := D) (a := (a0, a1, a2)) (b := (b0, b1, b2)) (k := m1) (by rw [h2]; exact hne) hlt
                    unfold ansP
                    rw [h3, h2, if_neg hne]
                  have ZS : Hid (ordP (pathP log evs D m1)[q].doc (a0, a1, a2) (b0, b1, b2) = 0 → fsN (fun v : Vw => ordP v.doc (a0, a1, a2) (b0, b1, b2)) ((pathP log evs D m1).take (q + 1)) = 0) := fun hz => fsN_step (f := fun v : Vw => ordP v.doc (a0, a1, a2) (b0, b1, b2)) hF.out hql hz
                  have HBQ := hBq
                  clear hdoc htx hdl hF hBq lbv
                  generalize ordP (pathP log evs D m1)[q].doc (a0, a1, a2) (b0, b1, b2) = oo at *
                  generalize (pathP log evs D m1)[q].doc.length = dl at *
                  go_upto_region 15 with fail
                  go_region_law (first | (go_simp; go_at_call 29; refine (CO.out _ (by repeat (first | exact Below.refl _ _ | refine Below.drew ?_ | refine below_drewN ?_ _))).mono ?_; rintro ex w3 ⟨rfl, k3⟩))
                  all_goals
                    have HBX : Hid (Below u4.heap.size u4 w3) := HBQ.out.trans (Below.mono (by first | exact k3 | exact (Below.refl _ _).drew.trans k3) HBQ.out.size)
                    clear k3 CO cw cdoc n3 n4 n5 n6 n7 n8 BQ HBQ
                    by_cases hz : oo = 0
                    · have NX := hd (ZS.out hz)
                      subst hz
                      clear ZS ZH
                      go_wp2_with fail
                      exact ⟨⟨q + 1, by omega, by go_num, HBX, NX⟩, by simp [intOf]; omega⟩
                    · have hzb : (oo == 0) = false := by simpa using hz
                      have Z : Hid (AhP (CN : Int) nL nE log evs D (a0, a1, a2) (b0, b1, b2) oo 0 (-1)) := .inr (.inr (.inr ⟨HR.out, HIA.out, HIB.out, HAB.out, (ZH.out hz).symm, rfl, rfl⟩))
                      clear ZS ZH
                      go_wp2
                      go_ret3
                      exact ⟨oo, 0, -1, rfl, BW4.out.trans (HBX.out.mono BW4.out.size), Z.out⟩
                · have i3 : ¬ ((q : Int) < ((pathP log evs D m1).length : Int)) := by omega
                  have NX : Hid (clisP log evs D (a0, a1, a2) (b0, b1, b2) m1 = 0) := by
                    have h1 := hF.out
                    rw [List.take_of_length_le (by omega)] at h1
                    have e := HM1.out
                    subst e
                    exact Eq.trans clisP_succ (Eq.trans (if_pos hZ.out) h1)
                  clear hF
                  go_wp2_with fail
                  exact ⟨⟨m1, hlt, by go_num, hBq, NX⟩, by simp [intOf]; omega⟩
            · have i1 : ¬ ((m1 : Int) ≤ (CN : Int)) := by omega
              have HC0 : Hid (clisP log evs D (a0, a1, a2) (b0, b1, b2) CN = 0) := by
                have e : m = CN := by omega
                rw [← e]
                exact hZ.out
              have HAN : Hid (ansP log evs D (a0, a1, a2) (b0, b1, b2) CN = srvP (a0, a1, a2) (b0, b1, b2) (stW apE log (edW evs D) log.length).2 []) := by
                unfold ansP
                exact if_pos HC0.out
              have HLN2 : Hid ((stW apE log (edW evs D) log.length).2.length = nL) := by
                show _ = nL
                rw [HLN.out]
                exact HLE.out.1
              have hnL : nL ≤ 4096 := by have := GG.out.2.1; have := HLE.out.1; omega
              clear hZ HC0 HLN WAY
              generalize (stW apE log (edW evs D) log.length).2 = done at *
              go_wp2_with fail
              clear m0
              go_loopw [16, 17] (fun v i wr => ∃ q : Nat, q ≤ nL ∧ i = .int .i64 (q : Int) ∧ Hid (Below u4.heap.size u4 wr) ∧ ∃ t : List El, Hid (∃ β, SE wr β v t) ∧ Hid (srvP (a0, a1, a2) (b0, b1, b2) done [] = srvP (a0, a1, a2) (b0, b1, b2) (done.drop q) t)) (fun _ i _ => nL - (intOf i).toNat)
              case atStart => exact ⟨0, Nat.zero_le _, rfl, hBr, [], ⟨none, rfl, rfl⟩, rfl⟩
              case round =>
                obtain ⟨q, hq, rfl, hBq, t, hSE, hSR⟩ := hrel
                clear hBr BR
                have BQ := hd (BU4.out.trans (hBq.out.mono BU4.out.size))
                by_cases hql : q < nL
                · have i3 : (q : Int) < (nL : Int) := by omega
                  have hqd : q < done.length := by have := HLN2.out; omega
                  obtain ⟨gd, od, had, -, hd1, hd2, hgd, q0, q1, q2, q3, q4⟩ := (hFO2.out.fr (Fr.of_below (S := fun _ => False) hBq.out) (fun _ _ h => h)).nth hqd
                  subst had
                  obtain ⟨β, hse⟩ := hSE.out
                  obtain ⟨av, cv, hv, -⟩ := hse.form
                  subst hv
                  have CA := hd (applied_any hse done[q])
                  have hsrv : srvP (a0, a1, a2) (b0, b1, b2) (done.drop q) t = if ordP (apE t done[q]) (a0, a1, a2) (b0, b1, b2) = 0 then srvP (a0, a1, a2) (b0, b1, b2) (done.drop (q + 1)) (apE t done[q]) else ordP (apE t done[q]) (a0, a1, a2) (b0, b1, b2) := by
                    rw [List.drop_eq_getElem_cons hqd]
                    rfl
                  have HSV := hd hsrv
                  clear hsrv hse hSE
                  generalize done[q] = o at *
                  clear hqd
                  simp only [OpE.val] at CA
                  have hmq : nL - (q + 1) < nL - q := by omega
                  go_upto_region 23 with (go_at_call 30; refine CA.out.mono ?_; rintro e w6 ⟨a6, c6, β6, rfl, s6, k6⟩)
                  have HB6 := hd (hBq.out.trans (k6.mono hBq.out.size))
                  have BQ6 := hd (BQ.out.trans (k6.mono BQ.out.size))
                  obtain ⟨-, ⟨n3, n4, n5⟩, ⟨n6, n7, n8⟩⟩ := CL.out w6 BQ6.out
                  obtain ⟨ax, cx, ex, tx, lx⟩ := s6.text
                  obtain ⟨rfl, -, rfl⟩ : a6 = ax ∧ True ∧ c6 = cx := by simpa using ex
                  have CO := hd (order_any a6 c6 (apE t o) (a0, a1, a2) (b0, b1, b2) w6 tx lx)
                  simp only [elV] at CO
                  have HS6 := hd s6
                  clear CA q0 q1 q2 q3 q4 k6 hBq BQ s6 tx lx ex hgd hd1 hd2
                  generalize hoo : ordP (apE t o) (a0, a1, a2) (b0, b1, b2) = oo at *
                  clear hoo
                  go_upto_region 24 with (go_at_call 29; refine CO.out.mono ?_; rintro e w7 ⟨rfl, k7⟩)
                  have HB7 := hd (HB6.out.trans (k7.mono HB6.out.size))
                  have HS7 := hd (HS6.out.below k7)
                  clear CO n3 n4 n5 n6 n7 n8 k7 HS6
                  by_cases hz : oo = 0
                  · have NX : Hid (srvP (a0, a1, a2) (b0, b1, b2) done [] = srvP (a0, a1, a2) (b0, b1, b2) (done.drop (q + 1)) (apE t o)) := by
                      have h := HSV.out
                      rw [if_pos hz] at h
                      exact hSR.out.trans h
                    subst hz
                    clear HSV hSR
                    go_wp2_with fail
                    exact ⟨⟨q + 1, by omega, by go_num, HB7, apE t o, ⟨_, HS7.out⟩, NX⟩, by simp [intOf]; omega⟩
                  · have hzb : (oo == 0) = false := by simpa using hz
                    have Z : Hid (AhP (CN : Int) nL nE log evs D (a0, a1, a2) (b0, b1, b2) oo 0 (-1)) := by
                      have h := HSV.out
                      rw [if_neg hz] at h
                      exact .inr (.inr (.inr ⟨HR.out, HIA.out, HIB.out, HAB.out, (HAN.out.trans (hSR.out.trans h)).symm, rfl, rfl⟩))
                    clear HSV hSR
                    go_wp2
                    go_ret3
                    exact ⟨oo, 0, -1, rfl, BW4.out.trans (HB7.out.mono BW4.out.size), Z.out⟩
                · have i3 : ¬ ((q : Int) < (nL : Int)) := by omega
                  have Z : Hid (AhP (CN : Int) nL nE log evs D (a0, a1, a2) (b0, b1, b2) 0 0 (-1)) := by
                    have h := hSR.out
                    rw [List.drop_eq_nil_of_le (by have := HLN2.out; omega)] at h
                    exact .inr (.inr (.inr ⟨HR.out, HIA.out, HIB.out, HAB.out, (HAN.out.trans h).symm, rfl, rfl⟩))
                  clear hSR
                  obtain ⟨β, hse⟩ := hSE.out
                  obtain ⟨av, cv, hv, -⟩ := hse.form
                  subst hv
                  clear hse hSE
                  go_wp2
                  go_ret3
                  exact ⟨0, 0, -1, rfl, BW4.out.trans (hBq.out.mono BW4.out.size), Z.out⟩
      · have CB2 : Hid (Calls Tryz.prog 28 #[.agg #[.int .i64 C, .slice aL nL cL, .slice aE nE cE], .agg #[.int .u8 b0, .int .i64 b1, .int .i64 b2]] u2 fun e w' => e = .returned (.bool false) ∧ Below u2.heap.size u2 w') := (CIB.out u2 BW2.out).mono (fun e w' ⟨ba, h1, h2, h3⟩ => ⟨by cases ba with | false => exact h1 | true => exact absurd (h2.1 rfl) hib, h3⟩)
        have Z : Hid (AhP C nL nE log evs D (a0, a1, a2) (b0, b1, b2) 0 144 1) := .inr (.inr (.inl ⟨HR.out, HIA.out, .inl hib, rfl, rfl, rfl⟩))
        clear CIB hib HL HV HR HCE
        go_wp2_with (go_at_call 28; refine CB2.out.mono ?_; rintro e u3 ⟨rfl, bu3⟩)
        go_ret3
        exact ⟨0, 144, 1, rfl, BW2.out.trans (bu3.mono BW2.out.size), Z.out⟩
    · have CA2 : Hid (Calls Tryz.prog 28 #[.agg #[.int .i64 C, .slice aL nL cL, .slice aE nE cE], .agg #[.int .u8 a0, .int .i64 a1, .int .i64 a2]] u fun e w' => e = .returned (.bool false) ∧ Below u.heap.size u w') := (CIA.out u BW.out).mono (fun e w' ⟨ba, h1, h2, h3⟩ => ⟨by cases ba with | false => exact h1 | true => exact absurd (h2.1 rfl) hia, h3⟩)
      have Z : Hid (AhP C nL nE log evs D (a0, a1, a2) (b0, b1, b2) 0 144 0) := .inr (.inl ⟨HR.out, hia, rfl, rfl, rfl⟩)
      clear CIA CIB hia HL HV HR HCE
      go_wp2_with (go_at_call 28; refine CA2.out.mono ?_; rintro e u3 ⟨rfl, bu3⟩)
      go_ret3
      exact ⟨0, 144, 0, rfl, BW.out.trans (bu3.mono BW.out.size), Z.out⟩
  · have Z : Hid (AhP C nL nE log evs D (a0, a1, a2) (b0, b1, b2) 0 c p) := .inl ⟨HR.out, hc, rfl⟩
    have hcb : (c == 0) = false := by simpa using hc
    clear HL HV HR HCE CIA CIB
    go_wp2
    go_ret3
    exact ⟨0, c, p, rfl, BW.out, Z.out⟩

end Go.Proofs.YtfhghijefjhehaaGreatDoor
