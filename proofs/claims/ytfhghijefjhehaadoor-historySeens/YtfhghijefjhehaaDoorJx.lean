/-
  The document's seen, walked.
-/
import Derived.Test.YtfhghijefjhehaaDoorMN
namespace Go.Proofs.YtfhghijefjhehaaDoor
open Go.RowKit
set_option linter.unusedVariables false

theorem cn_nat {o : Int} (h0 : 0 ≤ o) (h1 : o ≤ 64) : ∃ n : Nat, o = (n : Int) ∧ n < 65 := ⟨o.toNat, by omega, by omega⟩

theorem getD_at {α : Type} (l : List α) (n : Nat) (d : α) (h : n < l.length) : l.getD n d = l[n] := by
  rw [List.getD_eq_getElem?_getD, List.getElem?_eq_getElem h]
  rfl

set_option maxRecDepth 100000 in
set_option maxHeartbeats 8000000 in
theorem seen_any (C : Int) (aL : Option Addr) (b off nL cL nE cE i : Nat) (log : List Ed) (evs : List Ev) (A : Nat → Option Addr) (K : Nat → Nat) (D : Nat → List El) (w : World) (hL : IsL w aL nL log) (hV : IsV w (some ⟨b, off, none⟩) nE evs A K) (hX : IsX w evs A D) (hn : nL ≤ 4096) (hnE : nE ≤ 5864062014634) (lb : b < w.heap.size)
    (hi : i < evs.length) (h0 : 0 ≤ evs[i].hav) (h1 : evs[i].hav ≤ nL) (s0 : 0 ≤ evs[i].site) (s1 : evs[i].site ≤ 64) (hc : ∀ j (h : j < log.length), 0 ≤ log[j].o.cl ∧ log[j].o.cl ≤ 64)
    (hEv : ∀ j (hj : j < evs.length), evs[j].o ≠ zo → (0 ≤ evs[j].o.cl ∧ evs[j].o.cl ≤ 64) ∧ (evs[j].o.kind ≠ 1 → 0 ≤ evs[j].o.pos ∧ evs[j].o.pos < (pvD evs D j evs[j].site).length)) (hks : (stayP log evs D evs[i]).Pairwise keyNe) :
    Calls Tryd.prog 23 #[.agg #[.int .i64 C, .slice aL nL cL, .slice (some ⟨b, off, none⟩) nE cE], .int .i64 (i : Int)] w fun e w' => ∃ a c L, e = .returned (.slice a (List.length (α := El) L) c) ∧ IsTx w' a L ∧ L.Pairwise ltK ∧ (∀ x, x ∈ L ↔ x ∈ stayP log evs D evs[i]) ∧ Below w.heap.size w w' ∧ List.length (α := El) L ≤ 5864062014634 := by
  have hb : Below w.heap.size w (w.alloc (.cells #[.int .i64 C, .slice aL nL cL, .slice (some ⟨b, off, none⟩) nE cE] 25)) := (Below.refl _ _).alloc (Nat.le_refl _) _
  have HG := hd (heap_alloc_new w (.cells #[.int .i64 C, .slice aL nL cL, .slice (some ⟨b, off, none⟩) nE cE] 25))
  have HB := hd hb
  have HL := hd (fun u (hu : Below w.heap.size w u) => hL.below hu (Nat.le_refl _))
  have HV := hd (fun u (hu : Below w.heap.size w u) => hV.below hu (Nat.le_refl _))
  have HX := hd (fun u (hu : Below w.heap.size w u) => hX.below hu (Nat.le_refl _))
  have HEL := hd hV.1
  have HN := hd hnE
  have HEV := hd hEv
  have HKS := hd hks
  have CC : Hid (∀ U, Below w.heap.size w U → Calls Tryd.prog 41 #[.agg (hisV C aL (some ⟨b, off, none⟩) nL cL nE cE), .agg (evA evs[i] (A i) (K i))] U fun r w' => r = .returned (.agg (arr65 (nP log evs[i]))) ∧ Below U.heap.size U w') := fun U hU => counts_any C aL (some ⟨b, off, none⟩) nL cL nE cE log evs[i] (A i) (K i) U (hL.below hU (Nat.le_refl _)) hn h0 h1 s0 s1 hc
  have QI : Hid (∀ u, Below w.heap.size w u → _) := fun u hu => (HV.out u hu).2 (by have := HEL.out; omega)
  clear hb hL hV hX hn hnE h0 h1 s0 s1 hc hEv hks
  generalize hev : evs[i] = ev at *
  go_enter Tryd.func23, Tryd.ntmps23
  go_upto_region 1 with fail
  generalize w.alloc (.cells #[.int .i64 C, .slice aL nL cL, .slice (some ⟨b, off, none⟩) nE cE] 25) = w0 at *
  have m0 := cell_row HG.out 0; have m1 := cell_row HG.out 1; have m2 := cell_row HG.out 2
  simp at m0 m1 m2
  have lG := block_lt HG.out
  obtain ⟨b', off', eb, sb, q⟩ := QI.out w0 HB.out
  obtain ⟨rfl, rfl⟩ : b = b' ∧ off = off' := by simpa using eb
  obtain ⟨k0, k1, k2, k3, k4, k5, k6, k7, k8, k9⟩ := q i hi
  rw [hev] at k0 k1 k2 k3 k4 k5 k6 k7 k8 k9
  clear q eb
  have hii : (i : Int) < (nE : Int) := by have := HEL.out; omega
  have CC0 : ∀ U, Below w0.heap.size w0 U → Calls Tryd.prog 41 #[.agg #[.int .i64 C, .slice aL nL cL, .slice (some ⟨b, off, none⟩) nE cE], .agg #[.int .i64 ev.step, .int .i64 ev.site, .int .i64 ev.hav, .int .i64 ev.made, .int .i64 ev.o.kind, .int .i64 ev.o.pos, .int .u8 ev.o.ch, .int .i64 ev.o.cl, .int .i64 ev.o.sq, .slice (A i) ev.len (K i)]] U fun e w' => e = .returned (.agg (arr65 (nP log ev))) ∧ Below U.heap.size U w' := fun U hU => CC.out U (HB.out.trans (hU.mono HB.out.size))
  refine cnt_region _ w0 w.heap.size b off i nE cE nL cL C aL ev.step ev.site ev.hav ev.made ev.o.kind ev.o.pos ev.o.ch ev.o.cl ev.o.sq (A i) ev.len (K i) (arr65 (nP log ev)) rfl rfl (by simp) hii lG sb m0 m1 m2 k0 k1 k2 k3 k4 k5 k6 k7 k8 k9 CC0 (arr65_size _) (arr65_one _) ?_
  intro V' u gN hV7 hgN hcn bu
  have I0 : Hid (SnI w u #[.int .i64 C, .slice aL nL cL, .slice (some ⟨b, off, none⟩) nE cE] gN (arr65 (nP log ev)) none (.slice none 0 0) [] none (.slice none 0 0) []) :=
    ⟨block_keep bu HG.out lG, ⟨hcn, by omega⟩, ⟨⟨rfl, rfl⟩, fun g h => by cases h⟩, ⟨⟨rfl, rfl⟩, fun g h => by cases h⟩, HB.out.trans (bu.mono HB.out.size)⟩
  simp only [slcnt, List.getD_cons_zero, List.getD_cons_succ, List.range, List.range.loop, List.map_cons, List.map_nil, puts, List.foldl_cons, List.foldl_nil, Act.put, List.setIfInBounds_toArray, List.set_cons_succ, List.set_cons_zero]
  generalize V' 0 = z0 at *
  generalize V' 1 = z1 at *
  generalize V' 2 = z2 at *
  generalize V' 3 = z3 at *
  generalize V' 4 = z4 at *
  generalize V' 5 = z5 at *
  generalize V' 6 = z6 at *
  rw [hV7]
  clear hV7 k0 k1 k2 k3 k4 k5 k6 k7 k8 k9 m0 m1 m2 CC CC0 hgN hcn bu lG HB HG sb QI hii
  have lB : b < w.heap.size := lb
  go_wp2_with fail
  go_loopw [6, 7, 8] (fun vi vo v wr => ∃ k : Nat, ∃ βi βo, k ≤ nE ∧ v = .int .i64 k ∧ Hid (SnI w wr #[.int .i64 C, .slice aL nL cL, .slice (some ⟨b, off, none⟩) nE cE] gN (arr65 (nP log ev)) βi vi (inAt log evs ev k) βo vo (outAt log evs D ev k))) (fun _ _ v _ => nE - (intOf v).toNat)
  case atStart => exact ⟨0, none, none, Nat.zero_le _, rfl, I0.out⟩
  case round =>
    obtain ⟨k, βi, βo, hk, rfl, HR⟩ := hrel
    clear I0
    obtain ⟨ai, ci, rfl, -, -⟩ := HR.out.2.2.1.1.form
    obtain ⟨ao, co, rfl, -, -⟩ := HR.out.2.2.2.1.1.form
    have m2 := cell_row HR.out.1 2
    simp at m2
    by_cases hlt : k < nE
    · have l1 : k < evs.length := by have := HEL.out; omega
      obtain ⟨b', off', eb, sb, q⟩ := (HV.out wr HR.out.2.2.2.2).2 (by omega)
      obtain ⟨rfl, rfl⟩ : b = b' ∧ off = off' := by simpa using eb
      obtain ⟨k0, k1, k2, k3, k4, k5, k6, k7, k8, k9⟩ := q k l1
      have i1 : (k : Int) < (nE : Int) := by omega
      have SI := hd (in_step log evs ev k l1)
      have SO := hd (out_step log evs D ev k l1)
      have EV := hd (HEV.out k l1)
      have LI := hd (show (inAt log evs ev k).length ≤ 5864062014634 from Nat.le_trans (in_len log evs ev k) (by have := HN.out; omega))
      have LO := hd (show (outAt log evs D ev k).length ≤ 5864062014634 from Nat.le_trans (out_len log evs D ev k) (by have := HN.out; omega))
      have E3 : wrap64 ((k : Int) + 1) = ((k + 1 : Nat) : Int) := by have := HN.out; rw [wrap64]; omega
      have BF := hd (fun U (hU : Below w.heap.size w U) => before_txt C aL (some ⟨b, off, none⟩) nL cL nE cE k evs A K D U (HV.out U hU) (HX.out U hU) hlt l1 (by have := HN.out; omega))
      clear q eb sb
      generalize hxk : evs[k] = x at *
      clear hxk
      obtain ⟨x0, x1, x2, x3, ⟨ok, op, oc, oL, os⟩, xn⟩ := x
      simp only at k0 k1 k2 k3 k4 k5 k6 k7 k8 k9 SI SO EV
      have HA := hd (HR.out.below ((Below.refl _ _).alloc (Nat.le_refl _) (.cells #[.int .i64 x0, .int .i64 x1, .int .i64 x2, .int .i64 x3, .int .i64 ok, .int .i64 op, .int .u8 oc, .int .i64 oL, .int .i64 os, .slice (A k) xn (K k)] 50)))
      have HE := hd (heap_alloc_new wr (.cells #[.int .i64 x0, .int .i64 x1, .int .i64 x2, .int .i64 x3, .int .i64 ok, .int .i64 op, .int .u8 oc, .int .i64 oL, .int .i64 os, .slice (A k) xn (K k)] 50))
      clear HR
      go_upto_region 7 with fail
      clear k0 k1 k2 k3 k4 k5 k6 k7 k8 k9 m2
      generalize hwe : wr.alloc (.cells #[.int .i64 x0, .int .i64 x1, .int .i64 x2, .int .i64 x3, .int .i64 ok, .int .i64 op, .int .u8 oc, .int .i64 oL, .int .i64 os, .slice (A k) xn (K k)] 50) = we at *
      clear hwe
      have y0 := cell_row HE.out 4; have y1 := cell_row HE.out 5; have y2 := cell_row HE.out 6; have y3 := cell_row HE.out 7; have y4 := cell_row HE.out 8
      simp at y0 y1 y2 y3 y4
      by_cases hz : (⟨ok, op, oc, oL, os⟩ : OpE) = zo
      · have SI' : Hid (inAt log evs ev (k + 1) = inAt log evs ev k) := by rw [Hid, SI.out, if_neg (fun h => by have := (shB_iff _).1 h.1; exact this.1 hz), List.append_nil]
        have SO' : Hid (outAt log evs D ev (k + 1) = outAt log evs D ev k) := by rw [Hid, SO.out, if_neg (fun h => by have := (shB_iff _).1 h.1; exact this.1 hz), List.append_nil]
        clear SI SO EV BF
        obtain ⟨rfl, rfl, rfl, rfl, rfl⟩ := OpE.mk.inj hz
        clear hz
        go_quiet (fail)
        have NX := hd (HA.out.below (below_drewN (Below.refl _ _) nq))
        rw [← SI'.out, ← SO'.out] at NX
        clear y0 y1 y2 y3 y4 HA HE
        generalize we.drewN nq = wf at *
        rw [← SI'.out, ← SO'.out]
        clear SI' SO'
        go_wp2
        exact ⟨⟨k + 1, _, _, by omega, by rw [E3], NX.out⟩, by rw [E3]; simp only [intOf, Int.toNat_natCast]; omega⟩
      · have E1 := fun W => opNe hz W
        obtain ⟨⟨c0, c1⟩, EV2⟩ := EV.out hz
        obtain ⟨cN, rfl, hc65⟩ := cn_nat c0 c1
        have c65 : (cN : Int) < 65 := by omega
        have n0 := (cell_row HA.out.2.1.1 cN).trans (arr65_get _ cN hc65)
        have HPN := hd EV2
        have SH := hd (show shB log ev ⟨x0, x1, x2, x3, ⟨ok, op, oc, (cN : Int), os⟩, xn⟩ = true ↔ os ≤ nP log ev (cN : Int) from by rw [shB_iff]; exact ⟨fun h => h.2, fun h => ⟨hz, h⟩⟩)
        clear c0 c1 EV EV2 hz hc65
        generalize nP log ev (cN : Int) = nv at n0 SH
        by_cases hs : nv < os
        · have SI' : Hid (inAt log evs ev (k + 1) = inAt log evs ev k) := by rw [Hid, SI.out, if_neg (fun h => by have := SH.out.1 h.1; omega), List.append_nil]
          have SO' : Hid (outAt log evs D ev (k + 1) = outAt log evs D ev k) := by rw [Hid, SO.out, if_neg (fun h => by have := SH.out.1 h.1; omega), List.append_nil]
          clear SI SO BF HPN SH
          go_quiet (fail)
          have NX := hd (HA.out.below (below_drewN (Below.refl _ _) nq))
          rw [← SI'.out, ← SO'.out] at NX
          clear y0 y1 y2 y3 y4 HA HE E1 n0
          generalize we.drewN nq = wf at *
          rw [← SI'.out, ← SO'.out]
          clear SI' SO'
          go_wp2
          exact ⟨⟨k + 1, _, _, by omega, by rw [E3], NX.out⟩, by rw [E3]; simp only [intOf, Int.toNat_natCast]; omega⟩
        · have hsh := hd (SH.out.2 (by omega))
          go_quiet (fail)
          have HF := hd (HA.out.below (below_drewN (Below.refl _ _) nq))
          have HEf : Hid ((we.drewN nq).heap[wr.heap.size]? = some (.cells #[.int .i64 x0, .int .i64 x1, .int .i64 x2, .int .i64 x3, .int .i64 ok, .int .i64 op, .int .u8 oc, .int .i64 (cN : Int), .int .i64 os, .slice (A k) xn (K k)] 50 (0, 0))) := HE.out
          clear y0 y1 y2 y3 y4 HA HE E1 n0 SH hs
          generalize we.drewN nq = wf at *
          have y0 := cell_row HEf.out 4; have y1 := cell_row HEf.out 5; have y2 := cell_row HEf.out 6; have y3 := cell_row HEf.out 7; have y4 := cell_row HEf.out 8
          simp at y0 y1 y2 y3 y4
          by_cases hk1 : ok = 1
          · subst hk1
            have SI' : Hid (inAt log evs ev (k + 1) = inAt log evs ev k ++ [oEl ⟨1, op, oc, (cN : Int), os⟩]) := by rw [Hid, SI.out, if_pos ⟨hsh.out, rfl⟩]
            have SO' : Hid (outAt log evs D ev (k + 1) = outAt log evs D ev k) := by rw [Hid, SO.out, if_neg (fun h => h.2 rfl), List.append_nil]
            obtain ⟨g', cap, w2, hrun, NX⟩ := HF.out.pushI (oEl ⟨1, op, oc, (cN : Int), os⟩) LI.out
            have HNX := hd NX
            rw [← SI'.out, ← SO'.out] at HNX
            simp only [oEl] at hrun
            have ELN : Hid ((inAt log evs ev (k + 1)).length = (inAt log evs ev k).length + 1) := by rw [Hid, SI'.out]; simp
            clear SI SO BF HPN hsh NX HF SI'
            rw [← SO'.out]
            clear SO'
            go_wp2_with (at_builtin; refine wpList_append_k _ rfl _ _ 35 35 rfl _ _ rfl rfl (hrun _) ?_)
            exact ⟨⟨k + 1, _, _, by omega, by rw [E3], HNX.out⟩, by rw [E3]; simp only [intOf, Int.toNat_natCast]; omega⟩
          · have SI' : Hid (inAt log evs ev (k + 1) = inAt log evs ev k) := by rw [Hid, SI.out, if_neg (fun h => hk1 h.2), List.append_nil]
            obtain ⟨p0, p1⟩ := HPN.out hk1
            obtain ⟨pN, rfl⟩ : ∃ pN : Nat, op = (pN : Int) := ⟨op.toNat, by omega⟩
            have SO' : Hid (outAt log evs D ev (k + 1) = outAt log evs D ev k ++ [(pvD evs D k x1).getD pN (0, 0, 0)]) := by rw [Hid, SO.out, if_pos ⟨hsh.out, hk1⟩]; rfl
            have hkb : (ok == 1) = false := by simpa using hk1
            have m0 := cell_row HF.out.1 0; have m1 := cell_row HF.out.1 1; have m2 := cell_row HF.out.1 2
            simp at m0 m1 m2
            have CB := hd (BF.out wf HF.out.2.2.2.2)
            have HP1 := hd p1
            clear SI SO BF HPN hsh p0 p1 hk1
            generalize pvD evs D k x1 = tx at *
            generalize pv evs k x1 = pe at *
            go_upto_region 11 with (go_at_call 29; refine CB.out.mono ?_; rintro e u2 ⟨v, jv', rfl, ⟨pst, psi, pok, pop, poc, pol, pos, ap, pc, rfl, htx, hpl⟩, bu⟩)
            have bA : Below u2.heap.size u2 (u2.alloc (.cells #[.int .i64 pst, .int .i64 psi, .int .i64 pe.hav, .int .i64 pe.made, .int .i64 pok, .int .i64 pop, .int .u8 poc, .int .i64 pol, .int .i64 pos, .slice ap pe.len pc] 50)) := (Below.refl _ _).alloc (Nat.le_refl _) _
            have H3 := hd ((HF.out.below bu).below bA)
            have HE3 := hd (block_keep bA (block_keep bu HEf.out (block_lt HEf.out)) (Nat.lt_of_lt_of_le (block_lt HEf.out) bu.size))
            have HP3 := hd (heap_alloc_new u2 (.cells #[.int .i64 pst, .int .i64 psi, .int .i64 pe.hav, .int .i64 pe.made, .int .i64 pok, .int .i64 pop, .int .u8 poc, .int .i64 pol, .int .i64 pos, .slice ap pe.len pc] 50))
            have HT3 := hd (htx.below bA (Nat.le_refl _))
            have HPL := hd hpl
            clear bA bu htx hpl HF HEf CB y0 y1 y2 y3 y4 m0 m1 m2
            generalize hu3 : u2.alloc (.cells #[.int .i64 pst, .int .i64 psi, .int .i64 pe.hav, .int .i64 pe.made, .int .i64 pok, .int .i64 pop, .int .u8 poc, .int .i64 pol, .int .i64 pos, .slice ap pe.len pc] 50) = u3 at *
            clear hu3
            have y1 := cell_row HE3.out 5
            have r9 := cell_row HP3.out 9
            simp at y1 r9
            have pl : pN < tx.length := by have := HP1.out; omega
            obtain ⟨b2, o2, rfl, -, hq⟩ := HT3.out (by omega)
            obtain ⟨t0, t1, t2⟩ := hq pN pl
            have SO2 := hd (SO'.out.trans (congrArg (fun z => outAt log evs D ev k ++ [z]) (getD_at tx pN _ pl)))
            clear SO'
            have i5 : (pN : Int) < (pe.len : Int) := by have := HPL.out; omega
            generalize tx[pN] = y at *
            obtain ⟨g', cap, w2, hrun, NX⟩ := H3.out.pushO y LO.out
            have HNX := hd NX
            rw [← SI'.out, ← SO2.out] at HNX
            clear NX H3 HE3 HP3 HT3 hq HPL HP1 pl SO2
            rw [← SI'.out]
            clear SI'
            go_wp2_with (at_builtin; refine wpList_append_k _ rfl _ _ 35 35 rfl _ _ rfl rfl (hrun _) ?_)
            exact ⟨⟨k + 1, _, _, by omega, by rw [E3], HNX.out⟩, by rw [E3]; simp only [intOf, Int.toNat_natCast]; omega⟩
    · obtain rfl : k = nE := by omega
      have TI : Hid (IsTx wr ai (inAt log evs ev k)) := by
        obtain ⟨a', c', e', ht⟩ := HR.out.2.2.1.1.text
        obtain ⟨rfl, -⟩ : ai = a' ∧ ci = c' := by simpa using e'
        exact ht
      have TO : Hid (IsTx wr ao (outAt log evs D ev k)) := by
        obtain ⟨a', c', e', ht⟩ := HR.out.2.2.2.1.1.text
        obtain ⟨rfl, -⟩ : ao = a' ∧ co = c' := by simpa using e'
        exact ht
      have HBw := hd HR.out.2.2.2.2
      have HST : Hid (stayP log evs D ev = keepP (outAt log evs D ev k) (inAt log evs ev k)) := by rw [Hid, ← HEL.out]; exact stay_keep log evs D ev
      have LI := hd (show (inAt log evs ev k).length ≤ 5864062014634 from Nat.le_trans (in_len log evs ev k) HN.out)
      have LO := hd (show (outAt log evs D ev k).length ≤ 5864062014634 from Nat.le_trans (out_len log evs D ev k) HN.out)
      rw [HST.out] at HKS
      clear HL HV HX HEV HR HEL hlt hk
      generalize inAt log evs ev k = I at *
      generalize outAt log evs D ev k = O at *
      go_upto_region 12 with fail
      clear m2
      obtain ⟨u1, rfl⟩ : ∃ u, u = wr := ⟨wr, rfl⟩
      go_wp2_with fail
      go_loopw [12, 13] (fun vs v wr => ∃ j : Nat, ∃ βs, j ≤ I.length ∧ v = .int .i64 j ∧ Hid (Below u1.heap.size u1 wr ∧ SF elc 3 wr 64 βs vs (keepP O (I.take j)) ∧ ∀ g, βs = some g → u1.heap.size ≤ g)) (fun _ v _ => I.length - (intOf v).toNat)
      case atStart => exact ⟨0, none, Nat.zero_le _, rfl, Below.refl _ _, ⟨rfl, rfl⟩, fun g h => by cases h⟩
      case round =>
        obtain ⟨j, βs, hj, rfl, HR⟩ := hrel
        obtain ⟨aS, cS, rfl, -, -⟩ := HR.out.2.1.form
        by_cases hlt : j < I.length
        · obtain ⟨b1, o1, rfl, -, hq⟩ := (TI.out.below HR.out.1 (Nat.le_refl _)) (by omega)
          obtain ⟨t0, t1, t2⟩ := hq j hlt
          have hxj := hd (show I[j]? = some I[j] from List.getElem?_eq_getElem hlt)
          have i1 : (j : Int) < (I.length : Int) := by omega
          have E3 : wrap64 ((j : Int) + 1) = ((j + 1 : Nat) : Int) := by have := LI.out; rw [wrap64]; omega
          clear hq
          generalize I[j] = x at *
          have CP := hd (place_el ao co O x wr (TO.out.below HR.out.1 (Nat.le_refl _)) (by have := LO.out; omega))
          unfold elV at CP
          go_upto_if 93 with (go_at_call 42; refine CP.out.mono ?_; rintro e u2 ⟨p, rfl, hp, bu⟩)
          have H2 := hd (show Below u1.heap.size u1 u2 ∧ SF elc 3 u2 64 βs (.slice aS (keepP O (I.take j)).length cS) (keepP O (I.take j)) ∧ ∀ g, βs = some g → u1.heap.size ≤ g from ⟨HR.out.1.trans (bu.mono HR.out.1.size), HR.out.2.1.fr (Fr.of_below (S := fun _ => False) bu) (fun _ _ h => h), HR.out.2.2⟩)
          have T3 := hd (TI.out.below H2.out.1 (Nat.le_refl _))
          have HP := hd hp
          clear HR bu CP t0 t1 t2 hp
          by_cases hpn : p < 0
          · have KE := hd (keep_in (O := O) hxj.out (HP.out.1 hpn))
            obtain ⟨b2, o2, eb, -, hq⟩ := T3.out (by omega)
            obtain ⟨rfl, rfl⟩ : b1 = b2 ∧ o1 = o2 := by simpa using eb
            obtain ⟨t0, t1, t2⟩ := hq j hlt
            have hx' : I[j] = x := by have := hxj.out; rw [List.getElem?_eq_getElem hlt] at this; exact Option.some.inj this
            rw [hx'] at t0 t1 t2
            clear hq eb hx'
            obtain ⟨g', cap, w2, hrun, hs, hg, hF⟩ := row_push x H2.out.2.1 (Nat.le_trans (keep_len O _) (by have := LI.out; rw [List.length_take]; omega))
            have NX : Hid (Below u1.heap.size u1 w2 ∧ SF elc 3 w2 64 (some g') (.slice (some ⟨g', 0, none⟩) ((keepP O (I.take j)).length + 1) cap) (keepP O (I.take (j + 1))) ∧ ∀ g, some g' = some g → u1.heap.size ≤ g) := by
              refine ⟨H2.out.1.trans (hF.below H2.out.1.size (fun k hk => H2.out.2.2 k hk)), KE.out ▸ hs, fun g e => ?_⟩
              injection e with e
              subst e
              rcases hg with e | e
              · exact H2.out.2.2 g' e
              · exact Nat.le_trans H2.out.1.size e
            clear hs hg hF H2 T3 KE HP hxj
            go_wp2_with (at_builtin; refine wpList_append_k _ rfl _ _ 35 35 rfl _ _ rfl rfl (hrun _) ?_)
            exact ⟨⟨j + 1, _, by omega, by rw [E3], NX.out⟩, by rw [E3]; simp only [intOf, Int.toNat_natCast]; omega⟩
          · have KE := hd (keep_out (O := O) hxj.out (by
              have h := HP.out
              by_cases hm : x ∈ O
              · exact hm
              · exact absurd (h.2 hm) hpn))
            have NX := H2
            rw [← KE.out] at NX
            rw [← KE.out]
            clear H2 T3 KE HP hxj
            go_wp2
            exact ⟨⟨j + 1, _, by omega, by rw [E3], NX.out⟩, by rw [E3]; simp only [intOf, Int.toNat_natCast]; omega⟩
        · obtain rfl : j = I.length := by omega
          rw [List.take_length] at HR ⊢
          obtain ⟨a', c', e', ht⟩ := HR.out.2.1.text
          obtain ⟨rfl, rfl⟩ : aS = a' ∧ cS = c' := by simpa using e'
          have CS := hd (sorted_any aS cS (keepP O I) wr ht HKS.out (Nat.le_trans (keep_len O I) LI.out))
          have HB3 := hd (HBw.out.trans (HR.out.1.mono HBw.out.size))
          have hI1 : ¬ ((I.length : Int) < (I.length : Int)) := by omega
          clear e' ht HR
          go_wp2_with (go_at_call 43; refine CS.out.mono ?_; rintro e u2 ⟨v, L, rfl, ⟨β, hS, -⟩, hpw, hpm, bu⟩)
          obtain ⟨a', c', rfl, ht⟩ := hS.text
          rw [List.take_length] at hpm
          have Z : Hid (IsTx u2 a' L ∧ L.Pairwise ltK ∧ (∀ x, x ∈ L ↔ x ∈ stayP log evs D ev) ∧ Below w.heap.size w u2 ∧ List.length (α := El) L ≤ 5864062014634) := ⟨ht, hpw, fun x => by rw [HST.out]; exact hpm.mem_iff, HB3.out.trans (bu.mono HB3.out.size), by rw [hpm.length_eq]; exact Nat.le_trans (keep_len O I) LI.out⟩
          clear ht hpw hpm bu hS
          go_wp2
          go_ret
          exact ⟨a', c', L, rfl, Z.out⟩

end Go.Proofs.YtfhghijefjhehaaDoor
