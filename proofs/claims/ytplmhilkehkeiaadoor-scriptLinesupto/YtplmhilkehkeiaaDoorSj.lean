/-
  measure.
-/
import Derived.Test.YtplmhilkehkeiaaDoorSi
namespace Go.Proofs.YtplmhilkehkeiaaDoor
open Go.RowKit
set_option linter.unusedVariables false

theorem sofar_set {n i : Nat} {vs : List Int} (hl : vs.length = i) (hi : i < n) (x : Int) : (vs ++ List.replicate (n - i) (0 : Int)).set i x = (vs ++ [x]) ++ List.replicate (n - (i + 1)) 0 := by
  rw [List.set_append_right _ _ (by omega), hl, Nat.sub_self, show n - i = (n - (i + 1)) + 1 by omega, List.replicate_succ, List.set_cons_zero]
  simp

theorem valE_ok {p : Int} {s : Bs} {v : Int} (h : valE p s = (v, 0)) : valP p s = .ok v := by
  unfold valE at h
  rcases val_cases p s with ⟨x, hx, -⟩ | ⟨e, hx, he⟩
  · rw [hx] at h ⊢
    simp only [Prod.mk.injEq, and_true] at h
    rw [h]
  · rw [hx] at h
    simp only [Prod.mk.injEq] at h
    omega
theorem valE_err {p : Int} {s : Bs} {v e : Int} (h : valE p s = (v, e)) (he : e ≠ 0) : valP p s = .error e := by
  unfold valE at h
  cases hx : valP p s with
  | ok x => rw [hx] at h; simp only [Prod.mk.injEq] at h; exact absurd h.2.symm he
  | error x => rw [hx] at h; simp only [Prod.mk.injEq] at h; rw [h.2]

set_option maxRecDepth 100000 in
set_option maxHeartbeats 8000000 in
theorem measure_any (fs : List Fl) (ws : List ByteArray) (vw vf : Value) (b1 b2 : Nat) (w : World) (hW : IsW w b1 vw ws) (hF : NL cF 3 59 w b2 vf fs) (h3 : fs.length ≤ 3) (hz : ∀ x ∈ ws, x.size ≤ 2000000) :
    Calls Tryd.prog 25 #[vw, vf] w fun e w' => MR w w' (measP fs (ws.map tl)) e := by
  obtain ⟨g, o, c, rfl, -, hg, hc, hc', hcell⟩ := hW
  obtain ⟨β, hSF, -⟩ := hF
  obtain ⟨fa, fc, rfl, hfc, hfc'⟩ := hSF.form
  obtain ⟨n, hn⟩ : ∃ n, fs.length = n := ⟨_, rfl⟩
  rw [hn] at h3 hSF hfc ⊢
  obtain ⟨i0, hi0, hz0, hz1, hz2⟩ := info_parts' Tryd.infoI
  by_cases hne : ws.length = n
  · rw [hne] at hc ⊢
    have HN := hd hn
    have HNE := hd hne
    have HC := hd hcell
    have HS := hd hSF
    have HZ := hd hz
    clear hn hcell hSF hz hne
    generalize hO : measP fs (ws.map tl) = O
    have HO := hd hO
    clear hO
    have i1 : (n : Int) = (n : Int) := rfl
    go_enter Tryd.func25, Tryd.ntmps25
    go_wp2_with (at_make; refine wpList_make_k _ rfl _ _ 55 rfl 3 i0 _ Tryd.underlying55 hi0 hz0 _ _ _ _ n n rfl rfl rfl rfl (Nat.le_refl _) (by rw [hz2]; omega) (by omega) ?_; intro w3 cur hg3 hcur hb3)
    have R3 : Hid (RowF ei 1 w3 w.heap.size n n 3 (List.replicate n 0) ∧ Below w.heap.size w w3) := ⟨row_zero hg3.out (by have := hcur.out; rwa [hz1] at this) (by omega), hb3.out⟩
    clear hg3 hcur hb3
    go_loopw [23] (fun b wr => ∃ i : Nat, i ≤ n ∧ b = .int .i64 i ∧ Hid (∃ vs, Sofar fs (ws.map tl) i vs ∧ RowF ei 1 wr w.heap.size n n 3 (vs ++ List.replicate (n - i) 0) ∧ Below w.heap.size w wr)) (fun b _ => n - (intOf b).toNat)
    case atStart => exact ⟨0, Nat.zero_le _, rfl, [], Sofar.zero _ _, by simpa using R3.out.1, R3.out.2⟩
    case round =>
      clear R3
      obtain ⟨i, hi, rfl, HD⟩ := hrel
      by_cases hlt : i < n
      · obtain ⟨vs, hso, hrow, hbel⟩ := HD.out
        have l1 : i < fs.length := by have := HN.out; omega
        have l2 : i < ws.length := by have := HNE.out; omega
        obtain ⟨gf, rfl⟩ : ∃ gf, β = some gf := by
          have hS := HS.out
          cases β with
          | none => obtain ⟨-, h⟩ := hS; rw [h] at l1; simp at l1
          | some gf => exact ⟨gf, rfl⟩
        obtain ⟨cap, hv, hR⟩ := HS.out
        injection hv with hv1 hv2 hv3
        subst hv1
        clear hv2 hv3
        have hR' := hR.fr (Fr.of_below (S := fun _ => False) hbel) (fun h => h)
        have k0 := hR'.cell sz_cF i 0 l1 (by omega)
        have k1 := hR'.cell sz_cF i 1 l1 (by omega)
        have k2 := hR'.cell sz_cF i 2 l1 (by omega)
        have kw := (hbel.cell (p := ⟨g, o + i, none⟩) hg).trans (HC.out i l2)
        simp only [cF, List.getElem?_cons_zero, List.getElem?_cons_succ, Nat.add_zero] at k0 k1 k2
        have hx := HZ.out ws[i] (List.getElem_mem _)
        have hbad : ∀ e, valP fs[i].place (tl ws[i]) = .error e → valsP fs (ws.map tl) = .error e := fun e he => hso.bad l1 (by simpa using l2) (by simpa using he)
        have hgood : ∀ v, valP fs[i].place (tl ws[i]) = .ok v → Sofar fs (ws.map tl) (i + 1) (vs ++ [v]) := fun v he => hso.good l1 (by simpa using l2) (by simpa using he)
        have HBAD := hd hbad
        have HGOOD := hd hgood
        have HVL := hd hso.1
        have HROW := hd hrow
        have HBEL := hd hbel
        generalize fs[i] = f at k0 k1 k2 HBAD HGOOD
        generalize ws[i] = x at kw hx HBAD HGOOD
        have HX := hd hx
        clear hbad hgood hso hrow hbel hR hR' HD l1 l2 hx
        obtain ⟨p, lo, hi'⟩ := f
        simp only at k0 k1 k2 HBAD HGOOD
        have i2 : (i : Int) < (n : Int) := by omega
        have z0 : (wr.alloc (.cells #[.int .i64 p, .int .i64 lo, .int .i64 hi'] 59)).cell? ⟨wr.heap.size, 0, none⟩ = some (.int .i64 p) := by rw [cell_row (heap_alloc_new _ _)]; rfl
        have z1 : (wr.alloc (.cells #[.int .i64 p, .int .i64 lo, .int .i64 hi'] 59)).cell? ⟨wr.heap.size, 1, none⟩ = some (.int .i64 lo) := by rw [cell_row (heap_alloc_new _ _)]; rfl
        have z2 : (wr.alloc (.cells #[.int .i64 p, .int .i64 lo, .int .i64 hi'] 59)).cell? ⟨wr.heap.size, 2, none⟩ = some (.int .i64 hi') := by rw [cell_row (heap_alloc_new _ _)]; rfl
        have bz : Below wr.heap.size wr (wr.alloc (.cells #[.int .i64 p, .int .i64 lo, .int .i64 hi'] 59)) := (Below.refl _ _).alloc (Nat.le_refl _) _
        have kz := (bz.cell (p := ⟨g, o + i, none⟩) (show g < wr.heap.size from Nat.lt_of_lt_of_le hg HBEL.out.size)).trans kw
        have sz : (wr.alloc (.cells #[.int .i64 p, .int .i64 lo, .int .i64 hi'] 59)).heap.size = wr.heap.size + 1 := by simp
        have BZ := hd bz
        have SZ := hd sz
        clear bz sz
        go_wp2_with fail
        generalize wr.alloc (.cells #[.int .i64 p, .int .i64 lo, .int .i64 hi'] 59) = w1 at *
        have C : Hid (∀ U, Below w1.heap.size w1 U → Calls Tryd.prog 45 #[.agg #[.int .i64 p, .int .i64 lo, .int .i64 hi'], .string x] U fun e w' => e = .returned (.tuple #[.int .i64 (valE p (tl x)).1, .int .i64 (valE p (tl x)).2]) ∧ Below w1.heap.size w1 w') := fun U hU => (value_any ⟨p, lo, hi'⟩ x U HX.out).mono (fun e w' h => ⟨h.1, hU.trans (h.2.mono hU.size)⟩)
        have i3 : (i : Int) < (n : Int) := by omega
        generalize hvE : valE p (tl x) = ve at C
        have HVE := hd hvE
        clear hvE
        obtain ⟨v1, v2⟩ := ve
        simp only at C HVE
        go_region_held3 (fun U => U.cell? ⟨wr.heap.size, 0, none⟩ = some (.int .i64 p) ∧ U.cell? ⟨wr.heap.size, 1, none⟩ = some (.int .i64 lo) ∧ U.cell? ⟨wr.heap.size, 2, none⟩ = some (.int .i64 hi') ∧ U.cell? ⟨g, o + i, none⟩ = some (.string x)) (first | (with_reducible exact ⟨by assumption, by assumption, by assumption, by assumption⟩) | (go_keep; done)) (first | (go_at_call 45; refine (C.out _ ?_).mono ?_; (first | exact Below.refl _ _ | exact (Below.refl _ _).drew | exact below_drewN (Below.refl _ _) _); rintro e u ⟨rfl, bu⟩; have y0 := (bu.cell (p := ⟨wr.heap.size, 0, none⟩) (show wr.heap.size < w1.heap.size by have := SZ.out; omega)).trans z0; have y1 := (bu.cell (p := ⟨wr.heap.size, 1, none⟩) (show wr.heap.size < w1.heap.size by have := SZ.out; omega)).trans z1; have y2 := (bu.cell (p := ⟨wr.heap.size, 2, none⟩) (show wr.heap.size < w1.heap.size by have := SZ.out; omega)).trans z2; have kz1 := (bu.cell (p := ⟨g, o + i, none⟩) (show g < w1.heap.size by have := SZ.out; have := HBEL.out.size; omega)).trans kz))
        have BU := hd (HBEL.out.trans ((BZ.out.trans (bu.mono (by have := SZ.out; omega))).mono HBEL.out.size))
        have ROWU := hd (HROW.out.fr (Fr.of_below (S := fun _ => False) (BZ.out.trans (bu.mono (by have := SZ.out; omega)))) (fun h => h))
        clear bu y0 y1 y2 kz1 z0 z1 z2 kz kw k0 k1 k2 C BZ SZ HROW HBEL
        by_cases he : v2 = 0
        · subst he
          have hS := HGOOD.out v1 (valE_ok HVE.out)
          have hl1 : i < (vs ++ List.replicate (n - i) (0 : Int)).length := by have := HVL.out; simp; omega
          have q0 := ROWU.out.cell sz_ei i 0 hl1 (by omega)
          simp only [ei, List.getElem?_cons_zero, Nat.mul_one, Nat.add_zero] at q0
          have q1 : u.frozen? ⟨w.heap.size, i, none⟩ = false := by
            obtain ⟨cur, hh, -⟩ := ROWU.out
            exact frozen_row hh i
          have q2 := ROWU.out.lt
          have Z : Hid (∃ vs, Sofar fs (ws.map tl) (i + 1) vs ∧ RowF ei 1 (u.setCell ⟨w.heap.size, i, none⟩ (.int .i64 v1)) w.heap.size n n 3 (vs ++ List.replicate (n - (i + 1)) 0) ∧ Below w.heap.size w (u.setCell ⟨w.heap.size, i, none⟩ (.int .i64 v1))) := by
            refine ⟨_, hS, ?_, BU.out.setCell (Nat.le_refl _) _⟩
            have := ROWU.out.setI i hl1 v1
            rwa [sofar_set HVL.out hlt] at this
          generalize (vs ++ List.replicate (n - i) (0 : Int))[i] = old at q0
          clear hS hl1
          go_wp2
          have e3 : wrap64 ((i : Int) + 1) = ((i + 1 : Nat) : Int) := by rw [wrap64]; omega
          first
            | exact ⟨⟨i + 1, by omega, rfl, Z⟩, by simp [intOf]; omega⟩
            | (rw [e3]; exact ⟨⟨i + 1, by omega, rfl, Z⟩, by simp [intOf]; omega⟩)
        · have hb := HBAD.out v2 (valE_err HVE.out he)
          have HB := hd hb
          clear hb
          go_wp2
          go_ret2
          refine ⟨BU.out, ?_⟩
          rw [← HO.out]
          unfold measP
          rw [if_neg (by simp; have := HN.out; have := HNE.out; omega), HB.out]
          rfl
      · have i2 : ¬ (i : Int) < (n : Int) := by omega
        obtain rfl : i = n := by omega
        obtain ⟨vs, hso, hrow, hbel⟩ := HD.out
        have hall : valsP fs (ws.map tl) = .ok vs := by
          have := HN.out
          rw [← this] at hso
          exact hso.all
        have hvl := hso.1
        rw [Nat.sub_self, List.replicate_zero, List.append_nil] at hrow
        have hmeas : O = if rangeP fs vs then .ok vs else .error 155 := by
          rw [← HO.out]
          unfold measP
          rw [if_neg (by simp; have := HN.out; have := HNE.out; omega), hall]
        have HME := hd hmeas
        have HVL := hd hvl
        have HW0 := hd (And.intro hrow hbel)
        clear hso hall hmeas hrow hbel HD hvl
        go_wp2_with fail
        clear i2
        go_loopw [47] (fun b wr => ∃ j : Nat, j ≤ i ∧ b = .int .i64 j ∧ Hid (rangeP fs vs = rangeP (fs.drop j) (vs.drop j) ∧ RowF ei 1 wr w.heap.size i i 3 vs ∧ Below w.heap.size w wr)) (fun b _ => i - (intOf b).toNat)
        case atStart => exact ⟨0, Nat.zero_le _, rfl, rfl, HW0.out⟩
        case round =>
          clear HW0
          obtain ⟨j, hj, rfl, HD⟩ := hrel
          by_cases hlt : j < i
          · obtain ⟨hrg, hrow, hbel⟩ := HD.out
            have l1 : j < fs.length := by have := HN.out; omega
            have l2 : j < vs.length := by have := HVL.out; omega
            obtain ⟨gf, rfl⟩ : ∃ gf, β = some gf := by
              have hS := HS.out
              cases β with
              | none => obtain ⟨-, h⟩ := hS; rw [h] at l1; simp at l1
              | some gf => exact ⟨gf, rfl⟩
            obtain ⟨cap, hv, hR⟩ := HS.out
            injection hv with hv1 hv2 hv3
            subst hv1
            clear hv2 hv3
            have hR' := hR.fr (Fr.of_below (S := fun _ => False) hbel) (fun h => h)
            have k0 := hR'.cell sz_cF j 0 l1 (by omega)
            have k1 := hR'.cell sz_cF j 1 l1 (by omega)
            have k2 := hR'.cell sz_cF j 2 l1 (by omega)
            simp only [cF, List.getElem?_cons_zero, List.getElem?_cons_succ, Nat.add_zero] at k0 k1 k2
            have kv := hrow.cell sz_ei j 0 l2 (by omega)
            simp only [ei, List.getElem?_cons_zero, Nat.mul_one, Nat.add_zero] at kv
            rw [List.drop_eq_getElem_cons l1, List.drop_eq_getElem_cons l2, rangeP] at hrg
            have HRG := hd hrg
            have HROW := hd hrow
            have HBEL := hd hbel
            generalize fs[j] = f at k0 k1 k2 HRG
            generalize vs[j] = v at kv HRG
            clear hrg hrow hbel hR hR' HD l1 l2
            obtain ⟨p, lo, hi'⟩ := f
            simp only at k0 k1 k2 HRG
            have i2 : (j : Int) < (i : Int) := by omega
            have z1 : (wr.alloc (.cells #[.int .i64 p, .int .i64 lo, .int .i64 hi'] 59)).cell? ⟨wr.heap.size, 1, none⟩ = some (.int .i64 lo) := by rw [cell_row (heap_alloc_new _ _)]; rfl
            have z2 : (wr.alloc (.cells #[.int .i64 p, .int .i64 lo, .int .i64 hi'] 59)).cell? ⟨wr.heap.size, 2, none⟩ = some (.int .i64 hi') := by rw [cell_row (heap_alloc_new _ _)]; rfl
            have bz : Below wr.heap.size wr (wr.alloc (.cells #[.int .i64 p, .int .i64 lo, .int .i64 hi'] 59)) := (Below.refl _ _).alloc (Nat.le_refl _) _
            have kz := (bz.cell (p := ⟨w.heap.size, j, none⟩) HROW.out.lt).trans kv
            have BZ := hd bz
            clear bz
            go_wp2_with fail
            generalize wr.alloc (.cells #[.int .i64 p, .int .i64 lo, .int .i64 hi'] 59) = w1 at *
            have Z : Hid (RowF ei 1 w1 w.heap.size i i 3 vs ∧ Below w.heap.size w w1) := ⟨HROW.out.fr (Fr.of_below (S := fun _ => False) BZ.out) (fun h => h), HBEL.out.trans (BZ.out.mono HBEL.out.size)⟩
            by_cases h1 : v < lo
            · go_quiet (fail)
              go_wp2
              go_ret2
              refine ⟨below_drewN Z.out.2 _, ?_⟩
              rw [HME.out, if_neg (by rw [HRG.out]; simp; omega)]
              rfl
            · by_cases h2 : hi' < v
              · go_quiet (fail)
                go_wp2
                go_ret2
                refine ⟨below_drewN Z.out.2 _, ?_⟩
                rw [HME.out, if_neg (by rw [HRG.out]; simp; omega)]
                rfl
              · go_quiet (fail)
                go_wp2
                refine ⟨⟨j + 1, by omega, rfl, ?_, Z.out.1.fr (Fr.drewN (fun _ => False) _ _) (fun h => h), below_drewN Z.out.2 _⟩, by simp [intOf]; omega⟩
                rw [HRG.out]
                have g1 : (decide (lo ≤ v)) = true := by simp; omega
                have g2 : (decide (v ≤ hi')) = true := by simp; omega
                rw [g1, g2]
                simp
          · have i2 : ¬ (j : Int) < (i : Int) := by omega
            obtain rfl : j = i := by omega
            go_wp2
            go_ret2
            obtain ⟨hrg, hrow, hbel⟩ := HD.out
            refine ⟨hbel, ?_⟩
            have hv := HVL.out
            rw [List.drop_eq_nil_of_le (by have := HN.out; omega)] at hrg
            rw [HME.out, if_pos (by rw [hrg]; rfl)]
            exact ⟨w.heap.size, j, by rw [hv]; rfl, Nat.le_refl _, by rw [hv]; exact hrow⟩
  · have i1 : ¬ (ws.length : Int) = (n : Int) := by omega
    have hO : measP fs (ws.map tl) = .error 154 := by
      unfold measP
      rw [if_pos (by simp; omega)]
    rw [hO]
    clear hO hSF hcell hz hn hne
    go_enter Tryd.func25, Tryd.ntmps25
    go_wp2
    go_ret2
    exact ⟨Below.refl _ _, rfl⟩

end Go.Proofs.YtplmhilkehkeiaaDoor
