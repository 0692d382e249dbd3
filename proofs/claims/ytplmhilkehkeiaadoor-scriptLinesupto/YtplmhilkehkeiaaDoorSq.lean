/-
  Line: a taken one, walked.
-/
import Derived.Test.YtplmhilkehkeiaaDoorSo
namespace Go.Proofs.YtplmhilkehkeiaaDoor
open Go.RowKit
set_option linter.unusedVariables false

theorem IsW.form {w : World} {base : Nat} {v : Value} {ws : List ByteArray} (h : IsW w base v ws) : ∃ g o c, v = .slice (some ⟨g, o, none⟩) ws.length c := by
  obtain ⟨g, o, c, h1, -⟩ := h
  exact ⟨g, o, c, h1⟩

theorem lo_start {w w1 w2 w3 w4 : World} {K : Int} {vw vf : Value} {ws : List ByteArray} {fs : List Fl} {gv cv : Nat} {vs : List Int} (hX : EZ w1 w.heap.size) (hB : Below w.heap.size w w1) (hS : w.heap.size < w1.heap.size) (hW : IsW w2 w1.heap.size vw ws) (hB2 : Below w1.heap.size w1 w2) (hF : NL cF 3 59 w3 w2.heap.size vf fs) (hB3 : Below w2.heap.size w2 w3)
    (hRV : RowF ei 1 w4 gv vs.length cv 3 vs) (hgv : w3.heap.size ≤ gv) (hB4 : Below w3.heap.size w3 w4) : LO w (w4.alloc (.cells #[.int .i64 K, .int .i64 0, .int .i64 0, .int .i64 0, .int .i64 0, .int .u8 0, .slice none 0 0, .int .i64 0] 25)) w.heap.size w4.heap.size vw vf ws fs gv vs.length cv vs { kind := K } := by
  have s2 := hB2.size
  have s3 := hB3.size
  have s4 := hB4.size
  have B5 : Below w4.heap.size w4 (w4.alloc (.cells #[.int .i64 K, .int .i64 0, .int .i64 0, .int .i64 0, .int .i64 0, .int .u8 0, .slice none 0 0, .int .i64 0] 25)) := (Below.refl _ _).alloc (Nat.le_refl _) _
  have B14 : Below w1.heap.size w1 w4 := hB2.trans ((hB3.trans (hB4.mono s3)).mono s2)
  have W3 : IsW w3 w1.heap.size vw ws := hW.below hB3 (Nat.le_refl _)
  have W4 : IsW w4 w1.heap.size vw ws := W3.below hB4 (Nat.le_refl _)
  have W5 := W4.below B5 (Nat.le_refl _)
  refine ⟨(hX.below B14 hS).below B5 (by omega), (hB.trans (B14.mono (by omega))).trans (B5.mono (by omega)), ?_, ?_, ?_, hRV.fr (Fr.of_below (S := fun _ => False) B5) (fun h => h), by omega, hRV.lt, ⟨_, heap_alloc_new _ _, NL.nil _ _⟩⟩
  · obtain ⟨g, o, c, h1, h2, r⟩ := W5
    exact ⟨g, o, c, h1, by omega, r⟩
  · intro g o c hv
    obtain ⟨g', o', c', h1, h2, h3, -⟩ := W4
    rw [hv] at h1
    injection h1 with h1
    injection h1 with h1
    injection h1 with h1
    omega
  · exact ((hF.fr (Fr.of_below (S := fun _ => False) hB4) (fun _ _ _ h => h)).fr (Fr.of_below (S := fun _ => False) B5) (fun _ _ _ h => h)).base (by omega)

theorem LO.to {w wr wu : World} {R X : Nat} {vw vf : Value} {ws : List ByteArray} {fs : List Fl} {gv n cv : Nat} {vs : List Int} {E : En} (h : LO w wr R X vw vf ws fs gv n cv vs E) (hb : Below wr.heap.size wr wu) : LO w wu R X vw vf ws fs gv n cv vs E := by
  obtain ⟨v, hx, hN⟩ := h.ent
  exact h.next (Fr.of_below hb) ⟨v, (Fr.of_below (S := fun _ => False) hb).keeps hx (fun h => h), hN.fr (Fr.of_below (S := fun _ => False) hb) (fun _ _ _ h => h)⟩

set_option maxRecDepth 100000 in
set_option maxHeartbeats 8000000 in
theorem line_ok (s : ByteArray) (w : World) (K : Int) (vs : List Int) (hz : s.size ≤ 2000000) (hV : Verbs w) (hK : kindP (verbP (tl s)) = K) (h0 : kindP (verbP (tl s)) ≠ 0) (hme : measP (fl K) (tailG K (tl s)) = .ok vs) :
    Calls Tryd.prog 9 #[.string s] w fun e w' => LR w w' (lineP (tl s)) e := by
  have hL : lineP (tl s) = putsP { kind := K } (fl K) (tailG K (tl s)) vs := by
    rw [line_tail _ K hK (by rw [← hK]; exact h0), rest_meas, hme]
  rw [hL]
  have HML := hd (meas_ok hme)
  clear hL
  have hl := tl_size s
  have hk0 := (kind_bd (verbP (tl s))).1
  have hk13 := (kind_bd (verbP (tl s))).2
  have hpos1 := verb_pos h0
  rw [hK] at h0 hk0 hk13
  have h1 : 1 ≤ s.size := by omega
  have HV := hd hV
  have HK := hd hK
  have HME := hd hme
  clear hl hV hK hme hpos1
  obtain ⟨M, hM⟩ : ∃ M, formP K = M := ⟨_, rfl⟩
  have hm0 := (form_bd K).1
  have hm7 := (form_bd K).2
  rw [hM] at hm0 hm7
  have HM := hd hM
  clear hM
  have x0 : EZ (w.alloc (.cells #[.int .i64 0, .int .i64 0, .int .i64 0, .int .i64 0, .int .i64 0, .int .u8 0, .slice none 0 0, .int .i64 0] 25)) w.heap.size := heap_alloc_new _ _
  have bz : Below w.heap.size w (w.alloc (.cells #[.int .i64 0, .int .i64 0, .int .i64 0, .int .i64 0, .int .i64 0, .int .u8 0, .slice none 0 0, .int .i64 0] 25)) := (Below.refl _ _).alloc (Nat.le_refl _) _
  have hpos : 0 < w.heap.size := by obtain ⟨t, fr, h⟩ := HV.out; exact block_lt h
  have sz : w.heap.size < (w.alloc (.cells #[.int .i64 0, .int .i64 0, .int .i64 0, .int .i64 0, .int .i64 0, .int .u8 0, .slice none 0 0, .int .i64 0] 25)).heap.size := by simp
  have HX := hd x0
  have BZ := hd bz
  have SZ := hd sz
  clear x0 bz sz
  go_enter Tryd.func9, Tryd.ntmps9
  go_wp2_with fail
  generalize w.alloc (.cells #[.int .i64 0, .int .i64 0, .int .i64 0, .int .i64 0, .int .i64 0, .int .u8 0, .slice none 0 0, .int .i64 0] 25) = w0 at *
  go_wp2_with (first
    | (go_at_call 20; refine (cut_any s _ hz).mono ?_; rintro e w1 ⟨a, b, f, rfl, ha, nq, rfl⟩; have HA := hd ha; have HX1 := hd (show EZ (w0.drewN nq) w.heap.size from HX.out); have BZ1 := hd (below_drewN BZ.out nq); have SZ1 := hd (show w.heap.size < (w0.drewN nq).heap.size from SZ.out); clear ha HX BZ SZ; generalize w0.drewN nq = w1 at *)
    | (go_at_call 21; refine (kindOf_any a _ (HV.out.below BZ1.out hpos)).mono ?_; rintro e w' ⟨rfl, rfl⟩; rw [HA.out, HK.out])
    | (go_at_call 22; refine (formOf_any K _ hk0 hk13).mono ?_; rintro e w' ⟨rfl, rfl⟩; rw [HM.out])
    | (go_at_call 23; refine (wordsOf_any s M _ hz h1 hm0 hm7).mono ?_; rintro e w2 ⟨ws, vw, rfl, hW, hws, hwz, hB2⟩; have HW := hd hW; have HWS := hd hws; have HWZ := hd hwz; have HB2 := hd hB2; clear hW hws hwz hB2)
    | (go_at_call 24; refine (fieldsOf_any M _ hm0 hm7).mono ?_; rintro e w3 ⟨vf, rfl, hF, hB3⟩; have HF := hd hF; have HB3 := hd hB3; clear hF hB3)
    | (go_at_call 25; refine (measure_any (flF M) ws vw vf _ _ w3 (HW.out.below HB3.out (Nat.le_refl _)) HF.out (flF_le M) HWZ.out).mono ?_; rintro e w4 ⟨hB4, hres⟩; rw [HWS.out, show flF M = fl K from (by rw [← HM.out, flF_form]), show (spl (mostP M - 1) (tl s)).tail = tailG K (tl s) from (by rw [← HM.out]; exact most_tail K _), HME.out] at hres; obtain ⟨gv, cv, rfl, hgv, hRV⟩ := hres; have L0 := hd (lo_start (K := K) HX1.out BZ1.out SZ1.out HW.out HB2.out HF.out HB3.out hRV hgv hB4); have HWF := hd (HF.out.form); clear hB4 hRV hgv HX1 BZ1 SZ1 HB2 HB3; obtain ⟨gw, ow, cw, hvw⟩ := HW.out.form; subst hvw; obtain ⟨fa, fc, hvf⟩ := HWF.out; subst hvf; clear HW HF HWF))
  have EF : flF M = fl K := by rw [← HM.out, flF_form]
  have EW : ws.map tl = tailG K (tl s) := by rw [HWS.out, ← HM.out]; exact most_tail K _
  have hml := HML.out
  rw [← EF, ← EW] at hml
  obtain ⟨hvl, hva⟩ := vals_at hml.1 hml.2
  have hwl : ws.length = (flF M).length := by have := hml.1; simpa using this
  have HEF := hd EF
  have HEW := hd EW
  have HVA := hd hva
  clear EF EW hml hva HML HWS
  have hf3 := flF_le M
  obtain ⟨n, hn⟩ : ∃ n, (flF M).length = n := ⟨_, rfl⟩
  rw [hn] at hvl hwl hf3
  rw [hvl] at L0
  rw [hvl, hwl, hn]
  have HN := hd hn
  have HVL := hd hvl
  have HWL := hd hwl
  clear hvl hwl hn
  generalize flF M = fs at *
  generalize w4.alloc (.cells #[.int .i64 K, .int .i64 0, .int .i64 0, .int .i64 0, .int .i64 0, .int .u8 0, .slice none 0 0, .int .i64 0] 25) = w5 at *
  generalize w4.heap.size = X at *
  rw [HN.out, HWL.out] at L0
  go_loopw [48] (fun b wr => ∃ i : Nat, i ≤ n ∧ b = .int .i64 i ∧ Hid (LO w wr w.heap.size X (.slice (some ⟨gw, ow, none⟩) n cw) (.slice fa n fc) ws fs gv n cv vs (putsP { kind := K } (fs.take i) ((ws.map tl).take i) (vs.take i)))) (fun b _ => n - (intOf b).toNat)
  case atStart => exact ⟨0, Nat.zero_le _, rfl, by simpa [putsP] using L0⟩
  case round =>
    clear L0
    obtain ⟨i, hi, rfl, HD⟩ := hrel
    by_cases hlt : i < n
    · have l1 : i < fs.length := by have := HN.out; omega
      have l2 : i < ws.length := by have := HWL.out; omega
      have l3 : i < vs.length := by have := HVL.out; omega
      have hlo := HD.out
      obtain ⟨β, hSF, -⟩ := hlo.flds
      obtain ⟨gf, rfl⟩ : ∃ gf, β = some gf := by
        cases β with
        | none => obtain ⟨-, h⟩ := hSF; rw [h] at l1; simp at l1
        | some gf => exact ⟨gf, rfl⟩
      obtain ⟨cap, hv, hR⟩ := hSF
      injection hv with hv1 hv2 hv3
      subst hv1
      clear hv2 hv3
      have k0 := hR.cell sz_cF i 0 l1 (by omega)
      have k1 := hR.cell sz_cF i 1 l1 (by omega)
      have k2 := hR.cell sz_cF i 2 l1 (by omega)
      simp only [cF, List.getElem?_cons_zero, List.getElem?_cons_succ, Nat.add_zero] at k0 k1 k2
      have kv := hlo.vals.cell sz_ei i 0 l3 (by omega)
      simp only [ei, List.getElem?_cons_zero, Nat.mul_one, Nat.add_zero] at kv
      have kw : wr.cell? ⟨gw, ow + i, none⟩ = some (.string ws[i]) ∧ gw < X ∧ gw < wr.heap.size := by
        obtain ⟨g', o', c', h1, -, h3, -, -, h6⟩ := hlo.words
        have hx := hlo.wX gw ow cw (by rw [HWL.out])
        injection h1 with h1 h2 h3'
        injection h1 with h1
        injection h1 with h1 h4
        subst h1
        subst h4
        exact ⟨h6 i l2, hx, h3⟩
      obtain ⟨kw, gwX, gwS⟩ := kw
      have hvp := HVA.out i l1 (by simpa using l2) l3
      rw [List.getElem_map] at hvp
      have hstep := puts_take { kind := K } fs (ws.map tl) vs i l1 (by simpa using l2) l3
      rw [List.getElem_map] at hstep
      have hxz := HWZ.out ws[i] (List.getElem_mem _)
      have HVP := hd hvp
      have HST := hd hstep
      have HXZ := hd hxz
      have HLO := hd hlo
      generalize fs[i] = f at k0 k1 k2 HVP HST
      generalize ws[i] = x at kw HVP HST HXZ
      generalize vs[i] = v at kv HVP HST
      clear hvp hstep hxz hlo hR HD l1 l2 l3
      obtain ⟨p, lo, hi'⟩ := f
      simp only at k0 k1 k2 HVP
      have i2 : (i : Int) < (n : Int) := by omega
      have z0 : (wr.alloc (.cells #[.int .i64 p, .int .i64 lo, .int .i64 hi'] 59)).cell? ⟨wr.heap.size, 0, none⟩ = some (.int .i64 p) := by rw [cell_row (heap_alloc_new _ _)]; rfl
      have z1 : (wr.alloc (.cells #[.int .i64 p, .int .i64 lo, .int .i64 hi'] 59)).cell? ⟨wr.heap.size, 1, none⟩ = some (.int .i64 lo) := by rw [cell_row (heap_alloc_new _ _)]; rfl
      have z2 : (wr.alloc (.cells #[.int .i64 p, .int .i64 lo, .int .i64 hi'] 59)).cell? ⟨wr.heap.size, 2, none⟩ = some (.int .i64 hi') := by rw [cell_row (heap_alloc_new _ _)]; rfl
      have bz : Below wr.heap.size wr (wr.alloc (.cells #[.int .i64 p, .int .i64 lo, .int .i64 hi'] 59)) := (Below.refl _ _).alloc (Nat.le_refl _) _
      have kwz := (bz.cell (p := ⟨gw, ow + i, none⟩) gwS).trans kw
      have kvz := (bz.cell (p := ⟨gv, i, none⟩) HLO.out.vals.lt).trans kv
      have sz : (wr.alloc (.cells #[.int .i64 p, .int .i64 lo, .int .i64 hi'] 59)).heap.size = wr.heap.size + 1 := by simp
      have L1 := hd (HLO.out.to bz)
      have gvX := HLO.out.gx
      have gvS := HLO.out.vals.lt
      have XS : X < wr.heap.size := by obtain ⟨v, hx, -⟩ := HLO.out.ent; exact block_lt hx
      have SZ := hd sz
      clear bz sz HLO
      go_wp2_with fail
      generalize wr.alloc (.cells #[.int .i64 p, .int .i64 lo, .int .i64 hi'] 59) = w1 at *
      generalize hEE : putsP { kind := K } (fs.take i) ((ws.map tl).take i) (vs.take i) = E at HST L1
      clear hEE
      have C : Hid (∀ U, Below w1.heap.size w1 U → Calls Tryd.prog 26 #[.agg #[.int .i64 p, .int .i64 lo, .int .i64 hi'], .pointer (some ⟨X, 0, none⟩), .string x, .int .i64 v] U fun e w' => e = .returned (.tuple #[]) ∧ EB w' (w.heap.size + 1) X (putP E ⟨p, lo, hi'⟩ (tl x) v) ∧ Fr (· = X) w1 w') := fun U hU =>
        (put_any ⟨p, lo, hi'⟩ x E v (w.heap.size + 1) X U HXZ.out (L1.out.to hU).ent (by have h1 := L1.out.rx; have h2 := hU.size; have h3 := SZ.out; omega) HVP.out).mono (fun e w' h => ⟨h.1, h.2.1, (Fr.of_below hU).trans h.2.2⟩)
      go_region_held3 (fun U => U.cell? ⟨wr.heap.size, 0, none⟩ = some (.int .i64 p) ∧ U.cell? ⟨wr.heap.size, 1, none⟩ = some (.int .i64 lo) ∧ U.cell? ⟨wr.heap.size, 2, none⟩ = some (.int .i64 hi') ∧ U.cell? ⟨gw, ow + i, none⟩ = some (.string x) ∧ U.cell? ⟨gv, i, none⟩ = some (.int .i64 v)) (first | (with_reducible exact ⟨by assumption, by assumption, by assumption, by assumption, by assumption⟩) | (go_keep; done)) (first | (go_at_call 26; refine (C.out _ ?_).mono ?_; (first | exact Below.refl _ _ | exact (Below.refl _ _).drew | exact below_drewN (Below.refl _ _) _); rintro e u ⟨rfl, hEB, hFr⟩; have y0 := (hFr.cell (p := ⟨wr.heap.size, 0, none⟩) (show wr.heap.size < w1.heap.size by have := SZ.out; omega) (show ¬ wr.heap.size = X by omega)).trans z0; have y1 := (hFr.cell (p := ⟨wr.heap.size, 1, none⟩) (show wr.heap.size < w1.heap.size by have := SZ.out; omega) (show ¬ wr.heap.size = X by omega)).trans z1; have y2 := (hFr.cell (p := ⟨wr.heap.size, 2, none⟩) (show wr.heap.size < w1.heap.size by have := SZ.out; omega) (show ¬ wr.heap.size = X by omega)).trans z2; have y3 := (hFr.cell (p := ⟨gw, ow + i, none⟩) (show gw < w1.heap.size by have := SZ.out; omega) (show ¬ gw = X by omega)).trans kwz; have y4 := (hFr.cell (p := ⟨gv, i, none⟩) (show gv < w1.heap.size by have := SZ.out; omega) (show ¬ gv = X by omega)).trans kvz))
      have Z := hd (L1.out.next hFr hEB)
      rw [← HST.out] at Z
      clear hFr hEB y0 y1 y2 y3 y4 z0 z1 z2 kwz kvz k0 k1 k2 kv kw C L1
      go_wp2
      exact ⟨⟨i + 1, by omega, rfl, Z⟩, by simp [intOf]; omega⟩
    · have i2 : ¬ (i : Int) < (n : Int) := by omega
      obtain rfl : i = n := by omega
      have hall := puts_all { kind := K } fs (ws.map tl) vs i HN.out (by have := HWL.out; simpa using this) HVL.out
      rw [hall] at HD
      generalize hEE : putsP { kind := K } fs (ws.map tl) vs = E at HD
      have HE := hd hEE
      clear hall hEE
      have hlo := HD.out
      obtain ⟨v, hx, hN⟩ := hlo.ent
      obtain ⟨ba, bcap, hv⟩ := hN.form
      subst hv
      have hez := hlo.ez
      have hb := hlo.bel
      have hrx := hlo.rx
      obtain ⟨⟨c0, c1, c2, c3⟩, c4, c5, c6, c7⟩ := en_cells hez
      obtain ⟨⟨f0, f1, f2, f3⟩, f4, f5, f6, f7⟩ := en_frozen hez
      obtain ⟨⟨d0, d1, d2, d3⟩, d4, d5, d6, d7⟩ := en_cells hx
      simp only at c0 c1 c2 c3 c4 c5 c6 c7
      have hlt := block_lt hez
      obtain ⟨P1, P2⟩ := put8_heap (E := E) (v := (.slice ba (bI E.bytes).length bcap)) hez
      unfold put8 at P1 P2
      have BF : Below w.heap.size w ((((((((wr.setCell ⟨w.heap.size, 0, none⟩ (.int .i64 E.kind)).setCell ⟨w.heap.size, 1, none⟩ (.int .i64 E.site)).setCell ⟨w.heap.size, 2, none⟩ (.int .i64 E.a)).setCell ⟨w.heap.size, 3, none⟩ (.int .i64 E.b)).setCell ⟨w.heap.size, 4, none⟩ (.int .i64 E.c)).setCell ⟨w.heap.size, 5, none⟩ (.int .u8 E.ch)).setCell ⟨w.heap.size, 6, none⟩ (.slice ba (bI E.bytes).length bcap)).setCell ⟨w.heap.size, 7, none⟩ (.int .i64 E.err)) := hb.trans (P2.below hb.size (fun k hk => by omega))
      have NF := (hN.fr P2 (fun g h1 h2 h3 => by omega)).base (base' := w.heap.size) (by omega)
      have BB := hd BF
      have PH := hd P1
      have NG := hd NF
      clear P1 P2 BF NF hlo HD hx hN hez hb
      go_wp2
      clear c0 c1 c2 c3 c4 c5 c6 c7 f0 f1 f2 f3 f4 f5 f6 f7 d0 d1 d2 d3 d4 d5 d6 d7
      generalize ((((((((wr.setCell ⟨w.heap.size, 0, none⟩ (.int .i64 E.kind)).setCell ⟨w.heap.size, 1, none⟩ (.int .i64 E.site)).setCell ⟨w.heap.size, 2, none⟩ (.int .i64 E.a)).setCell ⟨w.heap.size, 3, none⟩ (.int .i64 E.b)).setCell ⟨w.heap.size, 4, none⟩ (.int .i64 E.c)).setCell ⟨w.heap.size, 5, none⟩ (.int .u8 E.ch)).setCell ⟨w.heap.size, 6, none⟩ (.slice ba (bI E.bytes).length bcap)).setCell ⟨w.heap.size, 7, none⟩ (.int .i64 E.err)) = W at *
      obtain ⟨⟨q0, q1, q2, q3⟩, q4, q5, q6, q7⟩ := en_cells PH.out
      refine bodyPost_ret (v := .agg (ecell E (.slice ba (bI E.bytes).length bcap))) (by simp [results, Tryd.results9, go_sem, q0, q1, q2, q3, q4, q5, q6, q7, ecell]) rfl ?_
      show LR w W (putsP { kind := K } (fl K) (tailG K (tl s)) vs) _
      rw [← HEF.out, ← HEW.out, HE.out]
      exact ⟨_, rfl, NG.out, BB.out⟩

theorem line_any (s : ByteArray) (w : World) (hz : s.size ≤ 2000000) (hV : Verbs w) :
    Calls Tryd.prog 9 #[.string s] w fun e w' => LR w w' (lineP (tl s)) e := by
  by_cases h0 : kindP (verbP (tl s)) = 0
  · exact line_none s w hz hV h0
  · cases hm : measP (fl (kindP (verbP (tl s)))) (tailG (kindP (verbP (tl s))) (tl s)) with
    | error x => exact line_err s w _ x hz hV rfl h0 hm
    | ok vs => exact line_ok s w _ vs hz hV rfl h0 hm

end Go.Proofs.YtplmhilkehkeiaaDoor
