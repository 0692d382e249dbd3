/-
  The document's Line: as many words as the form has.
-/
import Derived.Test.YtplmhilkehkeiaaDoorRn
namespace Go.Proofs.YtplmhilkehkeiaaDoor
open Go.RowKit
set_option linter.unusedVariables false

set_option maxRecDepth 100000 in
set_option maxHeartbeats 16000000 in
theorem rline_ins (s : ByteArray) (w : World) (K : Int) (hz : s.size ≤ 2000000) (hK : kindP (verbP (tl s)) = K) (h0 : K ≠ 0) (h1 : K = 1) (hne : (tailP K (tl s)).length = (fl K).length) :
    Calls Tryd.prog 11 #[.string s] w fun e w' => LR w w' (lineP (tl s)) e := by
  have hL : lineP (tl s) = restP K (tailP K (tl s)) := by
    unfold lineP
    rw [hK, if_neg h0]
  rw [rest_eq hne] at hL
  generalize hOO : lineP (tl s) = O at hL ⊢
  have HO' := hd hL
  clear hL hOO
  have HSM := hd (show ∀ x ∈ tailP K (tl s), x.length ≤ 2000000 from fun x hx => by have := tail_mem hx; have := tl_size s; omega)
  obtain ⟨n, hn⟩ : ∃ n, (fl K).length = n := ⟨_, rfl⟩
  rw [hn] at hne
  have HF := hd hn
  have HF3 := hd (show n ≤ 3 by rw [← hn]; exact fl_le K)
  have HTN := hd hne
  clear hne hn
  have hl := tl_size s
  have hk0 := (kind_bd (verbP (tl s))).1
  have hk13 := (kind_bd (verbP (tl s))).2
  rw [hK] at hk0 hk13
  have HK := hd hK
  have hin : (verbP (tl s) = [105, 110, 115, 101, 114, 116]) ↔ K = 1 := by rw [← hK]; exact insert_iff _
  have HI := hd hin
  clear hK hin hl
  have x0 : EZ (w.alloc (.cells #[.int .i64 0, .int .i64 0, .int .i64 0, .int .i64 0, .int .i64 0, .int .u8 0, .slice none 0 0, .int .i64 0] 25)) w.heap.size := heap_alloc_new _ _
  have bz : Below w.heap.size w (w.alloc (.cells #[.int .i64 0, .int .i64 0, .int .i64 0, .int .i64 0, .int .i64 0, .int .u8 0, .slice none 0 0, .int .i64 0] 25)) := (Below.refl _ _).alloc (Nat.le_refl _) _
  have sz : w.heap.size < (w.alloc (.cells #[.int .i64 0, .int .i64 0, .int .i64 0, .int .i64 0, .int .i64 0, .int .u8 0, .slice none 0 0, .int .i64 0] 25)).heap.size := by simp
  have HX := hd x0
  have BZ := hd bz
  have SZ := hd sz
  clear x0 bz sz
  go_enter Tryd.func11, Tryd.ntmps11
  go_wp2_with fail
  generalize w.alloc (.cells #[.int .i64 0, .int .i64 0, .int .i64 0, .int .i64 0, .int .i64 0, .int .u8 0, .slice none 0 0, .int .i64 0] 25) = w0 at *
  go_upto_region 3 with (go_at_call 27; refine (rcutZ_any s 0 0 _ hz (.inl rfl) rfl).mono ?_; rintro e w1 ⟨ps0, v0, rfl, hps, hNL, hB⟩; rw [cutD_0, words_head (tl s)] at hps; obtain ⟨a, r, g0, c0, rfl, ha, rfl, k0⟩ := first_word hNL hps; have HA := hd ha; have X1 := hd (HX.out.below hB SZ.out); have B1 := hd (BZ.out.trans (hB.mono BZ.out.size)); have S1 := hd (Nat.lt_of_lt_of_le SZ.out hB.size); clear hps hNL hB ha)
  have ins1 : (a.toList == [105, 110, 115, 101, 114, 116]) = decide (K = 1) := by
    rw [toL, HA.out]
    by_cases h : K = 1
    · rw [HI.out.2 h]; simp [h]
    · simp only [h, decide_false]
      simpa using fun h' => h (HI.out.1 h')
  obtain ⟨L, hL⟩ : ∃ L, L = (if K = 1 then spl 3 (tl s) else wordsP (tl s)) := ⟨_, rfl⟩
  have HL := hd hL
  clear hL
  have CC : Hid (∀ (z : Int) (U : World), z = (if K = 1 then 4 else 0) → Calls Tryd.prog 27 #[.string s, .int .u8 32, .int .i64 z] U fun e w' => ∃ (ps : List ByteArray) (v : Value), e = .returned v ∧ ps.map tl = L ∧ NL es 1 9 w' U.heap.size v ps ∧ Below U.heap.size U w') := by
    intro z U hzz
    rw [HL.out]
    by_cases h : K = 1
    · rw [if_pos h] at hzz ⊢
      subst hzz
      have := rcutZ_any s 4 4 U hz (.inr rfl) rfl
      rw [cutD_4] at this
      exact this
    · rw [if_neg h] at hzz ⊢
      subst hzz
      have := rcutZ_any s 0 0 U hz (.inl rfl) rfl
      rw [cutD_0] at this
      exact this
  have hLh : ∃ T, L = verbP (tl s) :: T ∧ T = tailP K (tl s) := by
    rw [HL.out]
    unfold tailP
    by_cases h : K = 1
    · rw [if_pos h]; exact ⟨_, spl_head 2 _, rfl⟩
    · rw [if_neg h]; exact ⟨_, words_head _, rfl⟩
  obtain ⟨T, hLT, hT⟩ := hLh
  have HLT := hd hLT
  have HT := hd hT
  clear hLT hT
  have d1 : decide (K = 1) = true := by simpa using h1
  rw [d1] at ins1
  have ZZ := hd (show (4 : Int) = (if K = 1 then 4 else 0) by rw [if_pos h1])
  have H1 := hd h1
  clear h1 d1
  have hk : ¬ K = 0 := h0
  go_upto_region 10 with (first
    | (go_at_call 27; refine (CC.out _ _ ZZ.out).mono ?_; rintro e w2 ⟨ps, v2, rfl, hps, hNL, hB⟩; rw [HLT.out] at hps; obtain ⟨b, r2, g2, c2, rfl, hb, rfl, k2⟩ := first_word hNL hps; have HPS := hd (rest_words hps); have HBV := hd hb; have HNL := hd hNL; have X2 := hd (X1.out.below hB S1.out); have B2 := hd (B1.out.trans (hB.mono B1.out.size)); have S2 := hd (Nat.lt_of_lt_of_le S1.out hB.size); have NB := hd (HNL.out.base (base' := w.heap.size + 1) S1.out); clear hps hNL hB hb k0 HNL)
    | (go_at_call 28; refine (rkindOf_any b _).mono ?_; rw [HBV.out, HK.out]; rintro e w3 ⟨rfl, hB3⟩; have X3 := hd (X2.out.below hB3 S2.out); have B3 := hd (B2.out.trans (hB3.mono B2.out.size)); have S3 := hd (Nat.lt_of_lt_of_le S2.out hB3.size); have N3 := hd (NB.out.fr (Fr.of_below (S := fun _ => False) hB3) (fun _ _ _ h => h)); clear hB3 k2 X2 B2 S2 NB)
    | (go_at_call 29; refine (rwords_any K _ hk0 hk13).mono ?_; rintro e w4 ⟨v4, rfl, hW4, hB4⟩; obtain ⟨fa, fc, hv4⟩ := hW4.form; rw [HF.out] at hv4; subst hv4; have X4 := hd (X3.out.below hB4 S3.out); have B4 := hd (B3.out.trans (hB4.mono B3.out.size)); have S4 := hd (Nat.lt_of_lt_of_le S3.out hB4.size); have N4 := hd (N3.out.fr (Fr.of_below (S := fun _ => False) hB4) (fun _ _ _ h => h)); have W4 := hd (hW4.base (base' := w.heap.size + 1) S3.out); clear hW4 hB4 X3 B3 S3 N3))
  have hrt : r2.map tl = tailP K (tl s) := by rw [HPS.out, HT.out]
  have hr : r2.length = n := by have := HTN.out; rw [← hrt] at this; simpa using this
  have HRZ := hd (show ∀ x ∈ r2, x.size ≤ 2000000 from fun x hx => by have := HSM.out (tl x) (by rw [← hrt]; exact List.mem_map_of_mem hx); have := tl_size x; omega)
  have HO := HO'
  rw [← hrt] at HO
  have DW : Hid (DO w w4 w.heap.size (.slice (some ⟨g2, 0, none⟩) (r2.length + 1) c2) (.slice fa n fc) (b :: r2) (fl K)) := ⟨X4.out, B4.out, N4.out, W4.out⟩
  rw [hr] at DW ⊢
  have HR2 := hd hr
  have HPL := hd (fl_place K)
  clear hr hrt X4 B4 N4 W4 HO' HSM HTN HLT HT HPS HL CC HI HBV ins1
  generalize fl K = fs at *
  have i1 : wrap64 ((n : Int) + 1) = (n : Int) + 1 := by have := HF3.out; rw [wrap64]; omega
  go_wp2_with fail
  clear i1
  go_loopw [7] (fun v wr => ∃ i : Nat, i ≤ n ∧ v = .int .i64 i ∧ Hid (DO w wr w.heap.size (.slice (some ⟨g2, 0, none⟩) (n + 1) c2) (.slice fa n fc) (b :: r2) fs ∧ ∃ vs, Sofar fs (r2.map tl) i vs)) (fun v _ => n - (intOf v).toNat)
  case atStart => exact ⟨0, Nat.zero_le _, rfl, DW.out, [], Sofar.zero _ _⟩
  case round =>
    clear DW
    obtain ⟨i, hi, rfl, HD⟩ := hrel
    by_cases hlt : i < n
    · have l1 : i < fs.length := by have := HF.out; omega
      have l2 : i < r2.length := by have := HR2.out; omega
      obtain ⟨hdo, vs, hso⟩ := HD.out
      obtain ⟨gf, rfl, k0, k1, k2, kw, gfS, g2S⟩ := hdo.cells i l1 l2
      have hpl := HPL.out fs[i] (List.getElem_mem _)
      have hxz := HRZ.out r2[i] (List.getElem_mem _)
      have HBAD := hd (show ∀ e, valP fs[i].place (tl r2[i]) = .error e → valsP fs (r2.map tl) = .error e from fun e he => hso.bad l1 (by simpa using l2) (by simpa using he))
      have HGOOD := hd (show ∀ v, valP fs[i].place (tl r2[i]) = .ok v → Sofar fs (r2.map tl) (i + 1) (vs ++ [v]) from fun v he => hso.good l1 (by simpa using l2) (by simpa using he))
      have HDO := hd hdo
      have HP5 := hd hpl
      have HXZ := hd hxz
      generalize fs[i] = f at k0 k1 k2 HBAD HGOOD HP5
      generalize r2[i] = x at kw HBAD HGOOD HXZ
      clear hpl hxz hdo hso HD l1 l2
      obtain ⟨p, lo, hi'⟩ := f
      simp only at k0 k1 k2 HBAD HGOOD HP5
      have C : Hid (∀ U, Below wr.heap.size wr U → Calls Tryd.prog 30 #[.agg #[.int .u8 (letP p), .int .i64 lo, .int .i64 hi'], .string x] U fun e w' => e = .returned (.int .i64 (valE p (tl x)).2) ∧ Below wr.heap.size wr w') := fun U hU => (formed_any p lo hi' x U HXZ.out HP5.out.1 HP5.out.2).mono (fun e w' h => ⟨h.1, hU.trans (h.2.mono hU.size)⟩)
      generalize letP p = l at k0 C
      generalize hvE : valE p (tl x) = ve at C
      have HVE := hd hvE
      clear hvE
      obtain ⟨v1, v2⟩ := ve
      simp only at C HVE
      have i2 : (i : Int) < (n : Int) := by omega
      have i3 : IntKind.i64.wrap ((i : Int) + 1) = (i : Int) + 1 := by have := HF3.out; rw [IntKind.wrap_i64]; omega
      have i4 : (i : Int) + 1 < (n : Int) + 1 := by omega
      have i5 : (0 : Int) ≤ (i : Int) + 1 := by omega
      go_wp2_with fail
      go_region_held3 (fun U => U.cell? ⟨gf, i * 3, none⟩ = some (.int .u8 l) ∧ U.cell? ⟨gf, i * 3 + 1, none⟩ = some (.int .i64 lo) ∧ U.cell? ⟨gf, i * 3 + 2, none⟩ = some (.int .i64 hi') ∧ U.cell? ⟨g2, i + 1, none⟩ = some (.string x)) (first | (with_reducible exact ⟨by assumption, by assumption, by assumption, by assumption⟩) | (go_keep; done)) (first | (go_at_call 30; refine (C.out _ ?_).mono ?_; (first | exact Below.refl _ _ | exact (Below.refl _ _).drew | exact below_drewN (Below.refl _ _) _); rintro e u ⟨rfl, bu⟩; have y0 := (bu.cell (p := ⟨gf, i * 3, none⟩) gfS).trans k0; have y1 := (bu.cell (p := ⟨gf, i * 3 + 1, none⟩) gfS).trans k1; have y2 := (bu.cell (p := ⟨gf, i * 3 + 2, none⟩) gfS).trans k2; have y3 := (bu.cell (p := ⟨g2, i + 1, none⟩) g2S).trans kw))
      have DU := hd (HDO.out.to bu)
      clear bu y0 y1 y2 y3 k0 k1 k2 kw C HDO
      by_cases he : v2 = 0
      · subst he
        have hS := HGOOD.out v1 (valE_ok HVE.out)
        have Z := hd (And.intro DU.out (Exists.intro _ hS))
        clear hS
        go_wp2
        have e3 : wrap64 ((i : Int) + 1) = ((i + 1 : Nat) : Int) := by have := HF3.out; rw [wrap64]; omega
        first
          | exact ⟨⟨i + 1, by omega, rfl, Z⟩, by simp [intOf]; omega⟩
          | (rw [e3]; exact ⟨⟨i + 1, by omega, rfl, Z⟩, by simp [intOf]; omega⟩)
      · have HB := hd (HBAD.out v2 (valE_err HVE.out he))
        obtain ⟨⟨c0, c1, c2', c3⟩, c4, c5, c6, c7⟩ := en_cells DU.out.ez
        obtain ⟨⟨f0, f1, f2, f3⟩, f4, f5, f6, f7⟩ := en_frozen DU.out.ez
        simp only at c0 c1 c2' c3 c4 c5 c6 c7
        have hltR := block_lt DU.out.ez
        go_wp2
        obtain ⟨P1, P2⟩ := put8_heap (E := { kind := K, err := v2 }) (v := .slice none 0 0) DU.out.ez
        unfold put8 at P1 P2
        simp only at P1 P2
        have BF : Below w.heap.size w ((((((((u.setCell ⟨w.heap.size, 0, none⟩ (.int .i64 K)).setCell ⟨w.heap.size, 1, none⟩ (.int .i64 0)).setCell ⟨w.heap.size, 2, none⟩ (.int .i64 0)).setCell ⟨w.heap.size, 3, none⟩ (.int .i64 0)).setCell ⟨w.heap.size, 4, none⟩ (.int .i64 0)).setCell ⟨w.heap.size, 5, none⟩ (.int .u8 0)).setCell ⟨w.heap.size, 6, none⟩ (.slice none 0 0)).setCell ⟨w.heap.size, 7, none⟩ (.int .i64 v2)) := DU.out.bel.trans (P2.below DU.out.bel.size (fun k hk => by omega))
        have BB := hd BF
        have PH := hd P1
        clear P1 P2 BF c0 c1 c2' c3 c4 c5 c6 c7 f0 f1 f2 f3 f4 f5 f6 f7
        generalize ((((((((u.setCell ⟨w.heap.size, 0, none⟩ (.int .i64 K)).setCell ⟨w.heap.size, 1, none⟩ (.int .i64 0)).setCell ⟨w.heap.size, 2, none⟩ (.int .i64 0)).setCell ⟨w.heap.size, 3, none⟩ (.int .i64 0)).setCell ⟨w.heap.size, 4, none⟩ (.int .i64 0)).setCell ⟨w.heap.size, 5, none⟩ (.int .u8 0)).setCell ⟨w.heap.size, 6, none⟩ (.slice none 0 0)).setCell ⟨w.heap.size, 7, none⟩ (.int .i64 v2)) = W at *
        obtain ⟨⟨q0, q1, q2, q3⟩, q4, q5, q6, q7⟩ := en_cells PH.out
        simp only at q0 q1 q2 q3 q4 q5 q6 q7
        refine bodyPost_ret (v := .agg (ecell { kind := K, err := v2 } (.slice none 0 0))) (by simp [results, Tryd.results11, go_sem, q0, q1, q2, q3, q4, q5, q6, q7, ecell]) rfl ?_
        show LR w W O _
        rw [HO.out, HB.out]
        exact ⟨_, rfl, NL.nil _ _, BB.out⟩
    · have i2 : ¬ (i : Int) < (n : Int) := by omega
      obtain rfl : i = n := by omega
      obtain ⟨hdo, vs, hso⟩ := HD.out
      have hall : valsP fs (r2.map tl) = .ok vs := by have := HF.out; rw [← this] at hso; exact hso.all
      have hvl := hso.1
      obtain ⟨-, hva⟩ := vals_at (by have := HF.out; have := HR2.out; simp; omega) hall
      have hO2 : O = if rangeP fs vs then putsP { kind := K } fs (r2.map tl) vs else { kind := K, err := 155 } := by rw [HO.out, hall]
      have HO2 := hd hO2
      have HVA := hd hva
      have HVL := hd hvl
      have bx : Below wr.heap.size wr (wr.alloc (.cells #[.int .i64 K, .int .i64 0, .int .i64 0, .int .i64 0, .int .i64 0, .int .u8 0, .slice none 0 0, .int .i64 0] 25)) := (Below.refl _ _).alloc (Nat.le_refl _) _
      have D5 := hd (hdo.to bx)
      have E5 : Hid (EB (wr.alloc (.cells #[.int .i64 K, .int .i64 0, .int .i64 0, .int .i64 0, .int .i64 0, .int .u8 0, .slice none 0 0, .int .i64 0] 25)) (w.heap.size + 1) wr.heap.size { kind := K }) := ⟨_, heap_alloc_new _ _, NL.nil _ _⟩
      have HRX := hd (block_lt hdo.ez)
      clear hdo hso hall hvl hva hO2 bx HD HO
      go_wp2_with fail
      generalize wr.alloc (.cells #[.int .i64 K, .int .i64 0, .int .i64 0, .int .i64 0, .int .i64 0, .int .u8 0, .slice none 0 0, .int .i64 0] 25) = w5 at *
      generalize wr.heap.size = X at *
      clear i2
      go_loopw [10] (fun v wr => ∃ j : Nat, j ≤ i ∧ v = .int .i64 j ∧ Hid (DO w wr w.heap.size (.slice (some ⟨g2, 0, none⟩) (i + 1) c2) (.slice fa i fc) (b :: r2) fs ∧ EB wr (w.heap.size + 1) X (putsP { kind := K } (fs.take j) ((r2.map tl).take j) (vs.take j)) ∧ rangeP fs vs = rangeP (fs.drop j) (vs.drop j))) (fun v _ => i - (intOf v).toNat)
      case atStart => exact ⟨0, Nat.zero_le _, rfl, D5.out, by simpa [putsP] using E5.out, rfl⟩
      case round =>
        clear D5 E5
        obtain ⟨j, hj, rfl, HD⟩ := hrel
        by_cases hlt : j < i
        · have l1 : j < fs.length := by have := HF.out; omega
          have l2 : j < r2.length := by have := HR2.out; omega
          have l3 : j < vs.length := by have := HVL.out; omega
          obtain ⟨hdo, hent, hrg⟩ := HD.out
          obtain ⟨gf, rfl, k0, k1, k2, kw, gfS, g2S⟩ := hdo.cells j l1 l2
          have hpl := HPL.out fs[j] (List.getElem_mem _)
          have hxz := HRZ.out r2[j] (List.getElem_mem _)
          have hvp := HVA.out j l1 (by simpa using l2) l3
          rw [List.getElem_map] at hvp
          have hstep := puts_take { kind := K } fs (r2.map tl) vs j l1 (by simpa using l2) l3
          rw [List.getElem_map] at hstep
          rw [List.drop_eq_getElem_cons l1, List.drop_eq_getElem_cons l3, rangeP] at hrg
          have HDO := hd hdo
          have HENT := hd hent
          have HRG := hd hrg
          have HP5 := hd hpl
          have HXZ := hd hxz
          have HVP := hd hvp
          have HST := hd hstep
          generalize fs[j] = f at k0 k1 k2 HP5 HVP HST HRG
          generalize r2[j] = x at kw HXZ HVP HST
          generalize vs[j] = v at HVP HST HRG
          clear hpl hxz hdo hent hrg hvp hstep HD l1 l2 l3
          obtain ⟨p, lo, hi'⟩ := f
          simp only at k0 k1 k2 HP5 HVP HRG
          generalize hEE : putsP { kind := K } (fs.take j) ((r2.map tl).take j) (vs.take j) = E at HST HENT
          clear hEE
          have C : Hid (∀ U, Below wr.heap.size wr U → Calls Tryd.prog 31 #[.agg #[.int .u8 (letP p), .int .i64 lo, .int .i64 hi'], .string x] U fun e w' => e = .returned (.int .i64 v) ∧ Below wr.heap.size wr w') := fun U hU => (rvalue_any p lo hi' v x U HXZ.out HP5.out.1 HP5.out.2 HVP.out).mono (fun e w' h => ⟨h.1, hU.trans (h.2.mono hU.size)⟩)
          have CW : Hid (∀ (U : World) (ve : Value), NL bc 1 5 U (w.heap.size + 1) ve (bI E.bytes) → w.heap.size + 1 ≤ U.heap.size → Calls Tryd.prog 32 #[.agg (ecell E ve), .agg #[.int .u8 (letP p), .int .i64 lo, .int .i64 hi'], .string x] U fun e w' => WR U w' (w.heap.size + 1) (putP E ⟨p, lo, hi'⟩ (tl x) v) e) := fun U ve hN hb => with_any E p lo hi' v x ve (w.heap.size + 1) U HXZ.out HP5.out.1 HP5.out.2 HVP.out hN hb
          generalize letP p = l at k0 C CW
          have i2 : (j : Int) < (i : Int) := by omega
          have i3 : IntKind.i64.wrap ((j : Int) + 1) = (j : Int) + 1 := by have := HF3.out; rw [IntKind.wrap_i64]; omega
          have i4 : (j : Int) + 1 < (i : Int) + 1 := by omega
          have i5 : (0 : Int) ≤ (j : Int) + 1 := by omega
          go_wp2_with fail
          go_region_held3 (fun U => U.cell? ⟨gf, j * 3, none⟩ = some (.int .u8 l) ∧ U.cell? ⟨gf, j * 3 + 1, none⟩ = some (.int .i64 lo) ∧ U.cell? ⟨gf, j * 3 + 2, none⟩ = some (.int .i64 hi') ∧ U.cell? ⟨g2, j + 1, none⟩ = some (.string x)) (first | (with_reducible exact ⟨by assumption, by assumption, by assumption, by assumption⟩) | (go_keep; done)) (first | (go_at_call 31; refine (C.out _ ?_).mono ?_; (first | exact Below.refl _ _ | exact (Below.refl _ _).drew | exact below_drewN (Below.refl _ _) _); rintro e u ⟨rfl, bu⟩; have y0 := (bu.cell (p := ⟨gf, j * 3, none⟩) gfS).trans k0; have y1 := (bu.cell (p := ⟨gf, j * 3 + 1, none⟩) gfS).trans k1; have y2 := (bu.cell (p := ⟨gf, j * 3 + 2, none⟩) gfS).trans k2; have y3 := (bu.cell (p := ⟨g2, j + 1, none⟩) g2S).trans kw))
          have DU := hd (HDO.out.to bu)
          have EU : Hid (EB u (w.heap.size + 1) X E) := by
            obtain ⟨ve, hx, hN⟩ := HENT.out
            exact ⟨ve, (Fr.of_below (S := fun _ => False) bu).keeps hx (fun h => h), hN.fr (Fr.of_below (S := fun _ => False) bu) (fun _ _ _ h => h)⟩
          have gfU := Nat.lt_of_lt_of_le gfS bu.size
          have g2U := Nat.lt_of_lt_of_le g2S bu.size
          clear bu k0 k1 k2 kw C HDO HENT gfS g2S
          by_cases hlo : v < lo
          · obtain ⟨⟨c0, c1, c2', c3⟩, c4, c5, c6, c7⟩ := en_cells DU.out.ez
            obtain ⟨⟨f0, f1, f2, f3⟩, f4, f5, f6, f7⟩ := en_frozen DU.out.ez
            simp only at c0 c1 c2' c3 c4 c5 c6 c7
            have hltR := block_lt DU.out.ez
            go_wp2
            obtain ⟨P1, P2⟩ := put8_heap (E := { kind := K, err := 155 }) (v := .slice none 0 0) DU.out.ez
            unfold put8 at P1 P2
            simp only at P1 P2
            have BF : Below w.heap.size w ((((((((u.setCell ⟨w.heap.size, 0, none⟩ (.int .i64 K)).setCell ⟨w.heap.size, 1, none⟩ (.int .i64 0)).setCell ⟨w.heap.size, 2, none⟩ (.int .i64 0)).setCell ⟨w.heap.size, 3, none⟩ (.int .i64 0)).setCell ⟨w.heap.size, 4, none⟩ (.int .i64 0)).setCell ⟨w.heap.size, 5, none⟩ (.int .u8 0)).setCell ⟨w.heap.size, 6, none⟩ (.slice none 0 0)).setCell ⟨w.heap.size, 7, none⟩ (.int .i64 155)) := DU.out.bel.trans (P2.below DU.out.bel.size (fun k hk => by omega))
            have BB := hd BF
            have PH := hd P1
            clear P1 P2 BF c0 c1 c2' c3 c4 c5 c6 c7 f0 f1 f2 f3 f4 f5 f6 f7
            generalize ((((((((u.setCell ⟨w.heap.size, 0, none⟩ (.int .i64 K)).setCell ⟨w.heap.size, 1, none⟩ (.int .i64 0)).setCell ⟨w.heap.size, 2, none⟩ (.int .i64 0)).setCell ⟨w.heap.size, 3, none⟩ (.int .i64 0)).setCell ⟨w.heap.size, 4, none⟩ (.int .i64 0)).setCell ⟨w.heap.size, 5, none⟩ (.int .u8 0)).setCell ⟨w.heap.size, 6, none⟩ (.slice none 0 0)).setCell ⟨w.heap.size, 7, none⟩ (.int .i64 155)) = W at *
            obtain ⟨⟨q0, q1, q2, q3⟩, q4, q5, q6, q7⟩ := en_cells PH.out
            simp only at q0 q1 q2 q3 q4 q5 q6 q7
            refine bodyPost_ret (v := .agg (ecell { kind := K, err := 155 } (.slice none 0 0))) (by simp [results, Tryd.results11, go_sem, q0, q1, q2, q3, q4, q5, q6, q7, ecell]) rfl ?_
            show LR w W O _
            rw [HO2.out, if_neg (by rw [HRG.out]; simp; omega)]
            exact ⟨_, rfl, NL.nil _ _, BB.out⟩
          by_cases hhi : hi' < v
          · obtain ⟨⟨c0, c1, c2', c3⟩, c4, c5, c6, c7⟩ := en_cells DU.out.ez
            obtain ⟨⟨f0, f1, f2, f3⟩, f4, f5, f6, f7⟩ := en_frozen DU.out.ez
            simp only at c0 c1 c2' c3 c4 c5 c6 c7
            have hltR := block_lt DU.out.ez
            go_wp2
            obtain ⟨P1, P2⟩ := put8_heap (E := { kind := K, err := 155 }) (v := .slice none 0 0) DU.out.ez
            unfold put8 at P1 P2
            simp only at P1 P2
            have BF : Below w.heap.size w ((((((((u.setCell ⟨w.heap.size, 0, none⟩ (.int .i64 K)).setCell ⟨w.heap.size, 1, none⟩ (.int .i64 0)).setCell ⟨w.heap.size, 2, none⟩ (.int .i64 0)).setCell ⟨w.heap.size, 3, none⟩ (.int .i64 0)).setCell ⟨w.heap.size, 4, none⟩ (.int .i64 0)).setCell ⟨w.heap.size, 5, none⟩ (.int .u8 0)).setCell ⟨w.heap.size, 6, none⟩ (.slice none 0 0)).setCell ⟨w.heap.size, 7, none⟩ (.int .i64 155)) := DU.out.bel.trans (P2.below DU.out.bel.size (fun k hk => by omega))
            have BB := hd BF
            have PH := hd P1
            clear P1 P2 BF c0 c1 c2' c3 c4 c5 c6 c7 f0 f1 f2 f3 f4 f5 f6 f7
            generalize ((((((((u.setCell ⟨w.heap.size, 0, none⟩ (.int .i64 K)).setCell ⟨w.heap.size, 1, none⟩ (.int .i64 0)).setCell ⟨w.heap.size, 2, none⟩ (.int .i64 0)).setCell ⟨w.heap.size, 3, none⟩ (.int .i64 0)).setCell ⟨w.heap.size, 4, none⟩ (.int .i64 0)).setCell ⟨w.heap.size, 5, none⟩ (.int .u8 0)).setCell ⟨w.heap.size, 6, none⟩ (.slice none 0 0)).setCell ⟨w.heap.size, 7, none⟩ (.int .i64 155)) = W at *
            obtain ⟨⟨q0, q1, q2, q3⟩, q4, q5, q6, q7⟩ := en_cells PH.out
            simp only at q0 q1 q2 q3 q4 q5 q6 q7
            refine bodyPost_ret (v := .agg (ecell { kind := K, err := 155 } (.slice none 0 0))) (by simp [results, Tryd.results11, go_sem, q0, q1, q2, q3, q4, q5, q6, q7, ecell]) rfl ?_
            show LR w W O _
            rw [HO2.out, if_neg (by rw [HRG.out]; simp; omega)]
            exact ⟨_, rfl, NL.nil _ _, BB.out⟩
          have hrn : rangeP fs vs = rangeP (fs.drop (j + 1)) (vs.drop (j + 1)) := by
            rw [HRG.out]
            have q1 : decide (lo ≤ v) = true := by simp; omega
            have q2 : decide (v ≤ hi') = true := by simp; omega
            rw [q1, q2]
            simp
          have HRN := hd hrn
          clear hrn
          go_wp2_with fail
          obtain ⟨ve, hx, hN⟩ := EU.out
          obtain ⟨ba, bcap, hve⟩ := hN.form
          obtain ⟨bn, hbn⟩ : ∃ bn, (bI E.bytes).length = bn := ⟨_, rfl⟩
          rw [hbn] at hve
          subst hve
          clear hbn
          generalize hE2 : putP E ⟨p, lo, hi'⟩ (tl x) v = E2 at CW HST
          clear hE2
          have CX : Hid (∀ U, Below u.heap.size u U → Calls Tryd.prog 32 #[.agg (ecell E (.slice ba bn bcap)), .agg #[.int .u8 l, .int .i64 lo, .int .i64 hi'], .string x] U fun e w' => ∃ na nn nc, e = .returned (.agg (ecell E2 (.slice na nn nc))) ∧ NL bc 1 5 w' (w.heap.size + 1) (.slice na nn nc) (bI E2.bytes) ∧ Below u.heap.size u w') := fun U hU =>
            (CW.out U (.slice ba bn bcap) (hN.fr (Fr.of_below (S := fun _ => False) hU) (fun _ _ _ h => h)) (by have := block_lt DU.out.ez; have := hU.size; omega)).mono (fun e w' ⟨nv, h1, h2, h3⟩ => by
              obtain ⟨na, nc, hnv⟩ := h2.form
              subst hnv
              exact ⟨na, _, nc, h1, h2, hU.trans (h3.mono hU.size)⟩)
          simp only [ecell] at CX
          obtain ⟨⟨d0, d1, d2, d3⟩, d4, d5, d6, d7⟩ := en_cells hx
          have HX2 := hd hx
          have xu := block_lt hx
          clear hx hN CW EU
          go_region_law (go_simp; go_at_call 32; refine (CX.out _ ?_).mono ?_; (first | exact Below.refl _ _ | exact (Below.refl _ _).drew | exact below_drewN (Below.refl _ _) _); rintro e u2 ⟨na, nn, nc, rfl, hN2, hB2⟩; have hx2 := (hB2.block X xu).trans HX2.out; have HN2 := hd hN2; have HB2 := hd hB2; have HXX := hd hx2; obtain ⟨⟨c0, c1, c2', c3⟩, c4, c5, c6, c7⟩ := en_cells hx2; obtain ⟨⟨f0, f1, f2, f3⟩, f4, f5, f6, f7⟩ := en_frozen hx2; have xu2 := block_lt hx2; clear hN2 hB2 hx2)
          all_goals
            obtain ⟨P1, P2⟩ := put8_heap (E := E2) (v := .slice na nn nc) HXX.out
            unfold put8 at P1 P2
            have Z : Hid (DO w ((((((((u2.setCell ⟨X, 0, none⟩ (.int .i64 E2.kind)).setCell ⟨X, 1, none⟩ (.int .i64 E2.site)).setCell ⟨X, 2, none⟩ (.int .i64 E2.a)).setCell ⟨X, 3, none⟩ (.int .i64 E2.b)).setCell ⟨X, 4, none⟩ (.int .i64 E2.c)).setCell ⟨X, 5, none⟩ (.int .u8 E2.ch)).setCell ⟨X, 6, none⟩ (.slice na nn nc)).setCell ⟨X, 7, none⟩ (.int .i64 E2.err)) w.heap.size (.slice (some ⟨g2, 0, none⟩) (i + 1) c2) (.slice (some ⟨gf, 0, none⟩) i fc) (b :: r2) fs ∧ EB ((((((((u2.setCell ⟨X, 0, none⟩ (.int .i64 E2.kind)).setCell ⟨X, 1, none⟩ (.int .i64 E2.site)).setCell ⟨X, 2, none⟩ (.int .i64 E2.a)).setCell ⟨X, 3, none⟩ (.int .i64 E2.b)).setCell ⟨X, 4, none⟩ (.int .i64 E2.c)).setCell ⟨X, 5, none⟩ (.int .u8 E2.ch)).setCell ⟨X, 6, none⟩ (.slice na nn nc)).setCell ⟨X, 7, none⟩ (.int .i64 E2.err)) (w.heap.size + 1) X (putsP { kind := K } (fs.take (j + 1)) ((r2.map tl).take (j + 1)) (vs.take (j + 1))) ∧ rangeP fs vs = rangeP (fs.drop (j + 1)) (vs.drop (j + 1))) := by
              refine ⟨(DU.out.to HB2.out).next P2 HRX.out HXX.out, ?_, HRN.out⟩
              rw [HST.out]
              exact ⟨_, P1, HN2.out.frx P2 (fun cur h => by have := HXX.out; rw [h] at this; simp at this)⟩
            clear P1 P2 c0 c1 c2' c3 c4 c5 c6 c7 f0 f1 f2 f3 f4 f5 f6 f7 d0 d1 d2 d3 d4 d5 d6 d7 y0 y1 y2 y3 HXX HN2 HB2 xu2 CX
            generalize ((((((((u2.setCell ⟨X, 0, none⟩ (.int .i64 E2.kind)).setCell ⟨X, 1, none⟩ (.int .i64 E2.site)).setCell ⟨X, 2, none⟩ (.int .i64 E2.a)).setCell ⟨X, 3, none⟩ (.int .i64 E2.b)).setCell ⟨X, 4, none⟩ (.int .i64 E2.c)).setCell ⟨X, 5, none⟩ (.int .u8 E2.ch)).setCell ⟨X, 6, none⟩ (.slice na nn nc)).setCell ⟨X, 7, none⟩ (.int .i64 E2.err)) = wz at *
            go_wp2
            refine ⟨⟨j + 1, by omega, rfl, ?_⟩, by simp [intOf]; omega⟩
            with_reducible exact Z
        · have i2 : ¬ (j : Int) < (i : Int) := by omega
          obtain rfl : j = i := by omega
          obtain ⟨hdo, hent, hrg⟩ := HD.out
          have hall := puts_all { kind := K } fs (r2.map tl) vs j HF.out (by have := HR2.out; simpa using this) HVL.out
          rw [hall] at hent
          have hrt : rangeP fs vs = true := by rw [hrg, List.drop_eq_nil_of_le (by have := HF.out; omega)]; rfl
          have hO3 : O = putsP { kind := K } fs (r2.map tl) vs := by rw [HO2.out, if_pos hrt]
          generalize putsP { kind := K } fs (r2.map tl) vs = E at hent hO3
          have HO3 := hd hO3
          obtain ⟨ve, hx, hN⟩ := hent
          obtain ⟨ba, bcap, hve⟩ := hN.form
          obtain ⟨bn, hbn⟩ : ∃ bn, (bI E.bytes).length = bn := ⟨_, rfl⟩
          rw [hbn] at hve
          subst hve
          have hez := hdo.ez
          have hb := hdo.bel
          have hrx := HRX.out
          obtain ⟨⟨c0, c1, c2', c3⟩, c4, c5, c6, c7⟩ := en_cells hez
          obtain ⟨⟨f0, f1, f2, f3⟩, f4, f5, f6, f7⟩ := en_frozen hez
          obtain ⟨⟨d0, d1, d2, d3⟩, d4, d5, d6, d7⟩ := en_cells hx
          simp only at c0 c1 c2' c3 c4 c5 c6 c7
          have hltR := block_lt hez
          obtain ⟨P1, P2⟩ := put8_heap (E := E) (v := (.slice ba bn bcap)) hez
          unfold put8 at P1 P2
          have BF : Below w.heap.size w ((((((((wr.setCell ⟨w.heap.size, 0, none⟩ (.int .i64 E.kind)).setCell ⟨w.heap.size, 1, none⟩ (.int .i64 E.site)).setCell ⟨w.heap.size, 2, none⟩ (.int .i64 E.a)).setCell ⟨w.heap.size, 3, none⟩ (.int .i64 E.b)).setCell ⟨w.heap.size, 4, none⟩ (.int .i64 E.c)).setCell ⟨w.heap.size, 5, none⟩ (.int .u8 E.ch)).setCell ⟨w.heap.size, 6, none⟩ (.slice ba bn bcap)).setCell ⟨w.heap.size, 7, none⟩ (.int .i64 E.err)) := hb.trans (P2.below hb.size (fun k hk => by omega))
          have NF := (hN.fr P2 (fun g h1 h2 h3 => by omega)).base (base' := w.heap.size) (by omega)
          have BB := hd BF
          have PH := hd P1
          have NG := hd NF
          clear P1 P2 BF NF hdo hx hN hez hb HD hall hrt hO3 hrg hbn
          go_wp2
          clear c0 c1 c2' c3 c4 c5 c6 c7 f0 f1 f2 f3 f4 f5 f6 f7 d0 d1 d2 d3 d4 d5 d6 d7
          generalize ((((((((wr.setCell ⟨w.heap.size, 0, none⟩ (.int .i64 E.kind)).setCell ⟨w.heap.size, 1, none⟩ (.int .i64 E.site)).setCell ⟨w.heap.size, 2, none⟩ (.int .i64 E.a)).setCell ⟨w.heap.size, 3, none⟩ (.int .i64 E.b)).setCell ⟨w.heap.size, 4, none⟩ (.int .i64 E.c)).setCell ⟨w.heap.size, 5, none⟩ (.int .u8 E.ch)).setCell ⟨w.heap.size, 6, none⟩ (.slice ba bn bcap)).setCell ⟨w.heap.size, 7, none⟩ (.int .i64 E.err)) = W at *
          obtain ⟨⟨q0, q1, q2, q3⟩, q4, q5, q6, q7⟩ := en_cells PH.out
          refine bodyPost_ret (v := .agg (ecell E (.slice ba bn bcap))) (by simp [results, Tryd.results11, go_sem, q0, q1, q2, q3, q4, q5, q6, q7, ecell]) rfl ?_
          show LR w W O _
          rw [HO3.out]
          exact ⟨_, rfl, NG.out, BB.out⟩

end Go.Proofs.YtplmhilkehkeiaaDoor
