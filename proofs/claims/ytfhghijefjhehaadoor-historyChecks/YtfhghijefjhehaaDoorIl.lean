/-
  The tale: show.
-/
import Derived.Test.YtfhghijefjhehaaDoorIk
namespace Go.Proofs.YtfhghijefjhehaaDoor
open Go.RowKit
set_option linter.unusedVariables false

theorem set3 (u : World) (g : Nat) (a b c : Value) : Fr (fun k => k = g) u (((u.setCell ⟨g, 6, none⟩ a).setCell ⟨g, 7, none⟩ b).setCell ⟨g, 8, none⟩ c) := by
  have h1 : Fr (fun k => k = g) u (u.setCell ⟨g, 6, none⟩ a) := Fr.setCell _ _ _ rfl
  have h2 : Fr (fun k => k = g) (u.setCell ⟨g, 6, none⟩ a) ((u.setCell ⟨g, 6, none⟩ a).setCell ⟨g, 7, none⟩ b) := Fr.setCell _ _ _ rfl
  have h3 : Fr (fun k => k = g) ((u.setCell ⟨g, 6, none⟩ a).setCell ⟨g, 7, none⟩ b) (((u.setCell ⟨g, 6, none⟩ a).setCell ⟨g, 7, none⟩ b).setCell ⟨g, 8, none⟩ c) := Fr.setCell _ _ _ rfl
  exact (h1.trans h2).trans h3
theorem set3_row {u : World} {g : Nat} {t : TypeId} {v0 v1 v2 v3 v4 v5 v6 v7 v8 : Value} (h : u.heap[g]? = some (.cells #[v0, v1, v2, v3, v4, v5, v6, v7, v8] t (0, 0))) (a b c : Value) : (((u.setCell ⟨g, 6, none⟩ a).setCell ⟨g, 7, none⟩ b).setCell ⟨g, 8, none⟩ c).heap[g]? = some (.cells #[v0, v1, v2, v3, v4, v5, a, b, c] t (0, 0)) := by
  have := set_row (set_row (set_row h 6 a) 7 b) 8 c
  simpa using this

def El := Int × Int × Int

/-- The texts of the events. -/
def IsX (w : World) (evs : List Ev) (A : Nat → Option Addr) (D : Nat → List El) : Prop := ∀ j (h : j < evs.length), (D j).length = evs[j].len ∧ (0 < (D j).length → ∃ b off, A j = some ⟨b, off, none⟩ ∧ b < w.heap.size ∧ ∀ q (hq : q < (D j).length), w.cell? ⟨b, off + q * 3, none⟩ = some (.int .u8 (D j)[q].1) ∧ w.cell? ⟨b, off + q * 3 + 1, none⟩ = some (.int .i64 (D j)[q].2.1) ∧ w.cell? ⟨b, off + q * 3 + 2, none⟩ = some (.int .i64 (D j)[q].2.2))
theorem IsX.below {w w' : World} {evs : List Ev} {A : Nat → Option Addr} {D : Nat → List El} {B : Nat} (h : IsX w evs A D) (hb : Below B w w') (hB : w.heap.size ≤ B) : IsX w' evs A D := by
  intro j hj
  obtain ⟨h1, h2⟩ := h j hj
  refine ⟨h1, fun hl => ?_⟩
  obtain ⟨b, off, e, hlt, hc⟩ := h2 hl
  refine ⟨b, off, e, Nat.lt_of_lt_of_le hlt hb.size, fun q hq => ?_⟩
  have k : ∀ m, w'.cell? ⟨b, m, none⟩ = w.cell? ⟨b, m, none⟩ := fun m => hb.cell (p := ⟨b, m, none⟩) (show b < B by omega)
  simp only [k]
  exact hc q hq

section
variable {w : World} {x : Nat} {C : Int} {vL vE : Value} {S : Nat → Ls} {L : Nat → Option Nat}

set_option maxRecDepth 100000 in
set_option maxHeartbeats 8000000 in
theorem show_idle (h : TL w x C vL vE S L) (i cN : Nat) (hc : cN < 65) (l : List Nat) (hl : S (65 + cN) = .ns l) (hbd : l.length ≤ 17592186044416) (st ha ma : Int) (ad : Option Addr) (nd cd : Nat) :
    Calls Tryd.prog 27 #[.pointer (some ⟨x, 0, none⟩), .int .i64 i, .agg #[.int .i64 st, .int .i64 (cN : Int), .int .i64 ha, .int .i64 ma, .int .i64 0, .int .i64 0, .int .u8 0, .int .i64 0, .int .i64 0, .slice ad nd cd]] w fun e w' => e = .returned (.tuple #[]) ∧ (∃ L', TL w' x C vL vE (upd S (65 + cN) (.ns (l ++ [i]))) L') ∧ Fr (fun k => x ≤ k) w w' := by
  have hb : Below w.heap.size w (w.alloc (.cells #[.int .i64 st, .int .i64 (cN : Int), .int .i64 ha, .int .i64 ma, .int .i64 0, .int .i64 0, .int .u8 0, .int .i64 0, .int .i64 0, .slice ad nd cd] 50)) := (Below.refl _ _).alloc (Nat.le_refl _) _
  have hE := hd (heap_alloc_new w (.cells #[.int .i64 st, .int .i64 (cN : Int), .int .i64 ha, .int .i64 ma, .int .i64 0, .int .i64 0, .int .u8 0, .int .i64 0, .int .i64 0, .slice ad nd cd] 50))
  have HB := hd hb
  have HT := hd (h.below hb)
  have NR := hd (fun j (hj : j < 195) => h.not_row (b := w.heap.size) hj (Nat.le_refl _))
  have HSL := hd hl
  have HBD := hd hbd
  have HXl := hd h.lt
  have CK := hd (fun W => hmakes_any st (cN : Int) ha ma 0 0 0 0 0 ad nd cd W)
  clear hb h hl hbd
  have c65 : (cN : Int) < 65 := by omega
  go_enter Tryd.func27, Tryd.ntmps27
  go_upto_region 1 with fail
  generalize w.alloc (.cells #[.int .i64 st, .int .i64 (cN : Int), .int .i64 ha, .int .i64 ma, .int .i64 0, .int .i64 0, .int .u8 0, .int .i64 0, .int .i64 0, .slice ad nd cd] 50) = w1 at *
  have e0 := cell_row hE.out 0; have e1 := cell_row hE.out 1; have e2 := cell_row hE.out 2; have e3 := cell_row hE.out 3; have e4 := cell_row hE.out 4; have e5 := cell_row hE.out 5; have e6 := cell_row hE.out 6; have e7 := cell_row hE.out 7; have e8 := cell_row hE.out 8; have e9 := cell_row hE.out 9
  simp at e0 e1 e2 e3 e4 e5 e6 e7 e8 e9
  have lE := block_lt hE.out
  go_wp2_with fail
  refine (CK.out _).mono ?_
  rintro e u ⟨rfl, bu⟩
  have HTu := hd (HT.out.below bu)
  have BU := hd (HB.out.trans (bu.mono HB.out.size))
  have k1 := (bu.cell (p := ⟨w.heap.size, 1, none⟩) lE).trans e1
  have lu := Nat.lt_of_lt_of_le lE bu.size
  have hzz : zoB ⟨0, 0, 0, 0, 0⟩ = true := rfl
  rw [hzz]
  simp only [Bool.not_true]
  clear bu HT hE CK
  go_upto_region 6 with fail
  obtain ⟨v, hv, hs⟩ := HTu.out.slot (65 + cN) (by omega)
  rw [show 3 + (65 + cN) = 68 + cN from by omega] at hv
  rw [HSL.out] at hs
  obtain ⟨oa, oc', rfl, -, -⟩ := SF.form hs
  have HSF := hd hs
  have HV := hd hv
  clear hs hv
  refine pushS _ _ x w.heap.size cN l.length oc' oa i rfl rfl rfl (by simp) c65 (PP nic 1 3 u (L (65 + cN)) (l ++ [i])) (fun u1 hB => ⟨(hB.cell (p := ⟨w.heap.size, 1, none⟩) lu).trans k1, (hB.cell (p := ⟨x, 68 + cN, none⟩) HTu.out.lt).trans HV.out⟩) (fun v u1 hP => ⟨hP.cell (p := ⟨w.heap.size, 1, none⟩) lu (NR.out _ (by omega)) k1, hP.cell (p := ⟨x, 68 + cN, none⟩) HTu.out.lt (HTu.out.not_x (by omega)) HV.out⟩) (fun u1 g hB hg => run_ints HSF.out i hB hg HBD.out) (fun v u1 hP => ⟨hP.form, by
    obtain ⟨cur, hh, -⟩ := HTu.out.blk
    exact frozen_row ((hP.block HTu.out.lt (HTu.out.not_x (by omega))).trans hh) _⟩) ?_
  intro V' v' u1 hP
  have HP := hd (HTu.out.pushN (by omega) hP)
  rw [show 3 + (65 + cN) = 68 + cN from by omega] at HP
  clear hP
  simp only [slpushS, List.getD_cons_zero, List.getD_cons_succ, List.range, List.range.loop, List.map_cons, List.map_nil, puts, List.foldl_cons, List.foldl_nil, Act.put, List.setIfInBounds_toArray, List.set_cons_succ, List.set_cons_zero]
  go_wp2
  (try simp only [Exit.inBlock, Exit.then])
  refine bodyPost_end (results_none rfl _ _ _) rfl ?_
  obtain ⟨g', h1, h2⟩ := HP.out
  exact ⟨rfl, ⟨_, h1⟩, (Fr.of_below (S := fun k => x ≤ k) BU.out).trans h2⟩

set_option maxRecDepth 100000 in
set_option maxHeartbeats 8000000 in
theorem show_made {aE : Option Addr} {nE cE : Nat} {evs : List Ev} {A : Nat → Option Addr} {K : Nat → Nat} {D : Nat → List El} (h : TL w x C vL (.slice aE nE cE) S L) (hV : IsV w aE nE evs A K) (hX : IsX w evs A D) (i cN : Nat) (hc : cN < 65) (l : List Nat) (hl : S (65 + cN) = .ns l) (hbd : l.length ≤ 17592186044416) (d : List Dd) (hdl : S (130 + cN) = .ds d) (hdb : d.length ≤ 2199023255552) (hll : ∀ k ∈ l, k < evs.length)
    (st ha ma ok op oc ol os : Int) (ad : Option Addr) (nd cd : Nat) (hno : zoB ⟨ok, op, oc, ol, os⟩ = false) (ec el es : Int) (hel : (ok = 2 ∧ ∃ j pN, l.getLast? = some j ∧ op = ((pN : Nat) : Int) ∧ (D j)[pN]? = some (ec, el, es)) ∨ (ok ≠ 2 ∧ ec = oc ∧ el = ol ∧ es = os)) :
    Calls Tryd.prog 27 #[.pointer (some ⟨x, 0, none⟩), .int .i64 i, .agg #[.int .i64 st, .int .i64 (cN : Int), .int .i64 ha, .int .i64 ma, .int .i64 ok, .int .i64 op, .int .u8 oc, .int .i64 ol, .int .i64 os, .slice ad nd cd]] w fun e w' => e = .returned (.tuple #[]) ∧ (∃ L', TL w' x C vL (.slice aE nE cE) (upd (upd S (130 + cN) (.ds (d ++ [⟨⟨ha, ⟨ok, op, oc, ol, os⟩⟩, ec, el, es⟩]))) (65 + cN) (.ns (l ++ [i]))) L') ∧ Fr (fun k => x ≤ k) w w' := by
  have hb : Below w.heap.size w (w.alloc (.cells #[.int .i64 st, .int .i64 (cN : Int), .int .i64 ha, .int .i64 ma, .int .i64 ok, .int .i64 op, .int .u8 oc, .int .i64 ol, .int .i64 os, .slice ad nd cd] 50)) := (Below.refl _ _).alloc (Nat.le_refl _) _
  have hE := hd (heap_alloc_new w (.cells #[.int .i64 st, .int .i64 (cN : Int), .int .i64 ha, .int .i64 ma, .int .i64 ok, .int .i64 op, .int .u8 oc, .int .i64 ol, .int .i64 os, .slice ad nd cd] 50))
  have HB := hd hb
  have HT := hd (h.below hb)
  have NR := hd (fun j (hj : j < 195) => h.not_row (b := w.heap.size) hj (Nat.le_refl _))
  have NRW := hd (fun j b (hj : j < 195) (hb : w.heap.size ≤ b) => h.not_row (b := b) hj hb)
  have HSL : Hid ((upd S (130 + cN) (.ds (d ++ [⟨⟨ha, ⟨ok, op, oc, ol, os⟩⟩, ec, el, es⟩]))) (65 + cN) = .ns l) := by
    unfold Hid
    rw [upd_ne _ _ (by omega)]
    exact hl
  have HSl := hd hl
  have HSD := hd hdl
  have HBD := hd hbd
  have HDB := hd hdb
  have HLL := hd hll
  have HEL := hd hel
  have HC := hd hc
  have HVw := hd hV
  have HXw := hd hX
  have HXl := hd h.lt
  have CK := hd (fun W => hmakes_any st (cN : Int) ha ma ok op oc ol os ad nd cd W)
  have CE := hd (fun W => editOf_any st (cN : Int) ha ma ok op oc ol os ad nd cd W)
  have CLm := hd (fun W => elemOf_any ok op oc ol os W)
  clear hb h hl hbd hdl hdb hll hel hV hX
  have c65 : (cN : Int) < 65 := by omega
  go_enter Tryd.func27, Tryd.ntmps27
  go_upto_region 1 with fail
  generalize w.alloc (.cells #[.int .i64 st, .int .i64 (cN : Int), .int .i64 ha, .int .i64 ma, .int .i64 ok, .int .i64 op, .int .u8 oc, .int .i64 ol, .int .i64 os, .slice ad nd cd] 50) = w1 at *
  have e0 := cell_row hE.out 0; have e1 := cell_row hE.out 1; have e2 := cell_row hE.out 2; have e3 := cell_row hE.out 3; have e4 := cell_row hE.out 4; have e5 := cell_row hE.out 5; have e6 := cell_row hE.out 6; have e7 := cell_row hE.out 7; have e8 := cell_row hE.out 8; have e9 := cell_row hE.out 9
  simp at e0 e1 e2 e3 e4 e5 e6 e7 e8 e9
  have lE := block_lt hE.out
  go_wp2_with fail
  refine (CK.out _).mono ?_
  rintro e u ⟨rfl, bu⟩
  have BU1 := hd bu
  have HTu := hd (HT.out.below bu)
  have BU := hd (HB.out.trans (bu.mono HB.out.size))
  have k0 := (bu.cell (p := ⟨w.heap.size, 0, none⟩) lE).trans e0; have k1 := (bu.cell (p := ⟨w.heap.size, 1, none⟩) lE).trans e1; have k2 := (bu.cell (p := ⟨w.heap.size, 2, none⟩) lE).trans e2; have k3 := (bu.cell (p := ⟨w.heap.size, 3, none⟩) lE).trans e3; have k4 := (bu.cell (p := ⟨w.heap.size, 4, none⟩) lE).trans e4; have k5 := (bu.cell (p := ⟨w.heap.size, 5, none⟩) lE).trans e5; have k6 := (bu.cell (p := ⟨w.heap.size, 6, none⟩) lE).trans e6; have k7 := (bu.cell (p := ⟨w.heap.size, 7, none⟩) lE).trans e7; have k8 := (bu.cell (p := ⟨w.heap.size, 8, none⟩) lE).trans e8; have k9 := (bu.cell (p := ⟨w.heap.size, 9, none⟩) lE).trans e9
  clear e0 e1 e2 e3 e4 e5 e6 e7 e8 e9
  have lu := Nat.lt_of_lt_of_le lE bu.size
  rw [hno]
  simp only [Bool.not_false]
  clear bu HT hE CK hno BU1
  go_upto_region 2 with fail
  refine layD _ _ w.heap.size st (cN : Int) ha ma ok op oc ol os ad nd cd rfl (by simp) lu k0 k1 k2 k3 k4 k5 k6 k7 k8 k9 CE.out CLm.out ?_
  intro V2 u2 g hv hg hD hB2
  simp only [sllayD, List.getD_cons_zero, List.getD_cons_succ, List.range, List.range.loop, List.map_cons, List.map_nil, puts, List.foldl_cons, List.foldl_nil, Act.put, List.setIfInBounds_toArray, List.set_cons_succ, List.set_cons_zero]
  rw [hv]
  have HT2 := hd (HTu.out.below hB2)
  have B2 := hd (BU.out.trans (hB2.mono BU.out.size))
  have HD := hd hD
  have lg := block_lt hD
  have HG := hd (show w.heap.size < g from Nat.lt_of_lt_of_le lu hg)
  have k0 := (hB2.cell (p := ⟨w.heap.size, 0, none⟩) lu).trans k0; have k1 := (hB2.cell (p := ⟨w.heap.size, 1, none⟩) lu).trans k1; have k2 := (hB2.cell (p := ⟨w.heap.size, 2, none⟩) lu).trans k2; have k3 := (hB2.cell (p := ⟨w.heap.size, 3, none⟩) lu).trans k3; have k4 := (hB2.cell (p := ⟨w.heap.size, 4, none⟩) lu).trans k4; have k5 := (hB2.cell (p := ⟨w.heap.size, 5, none⟩) lu).trans k5; have k6 := (hB2.cell (p := ⟨w.heap.size, 6, none⟩) lu).trans k6; have k7 := (hB2.cell (p := ⟨w.heap.size, 7, none⟩) lu).trans k7; have k8 := (hB2.cell (p := ⟨w.heap.size, 8, none⟩) lu).trans k8; have k9 := (hB2.cell (p := ⟨w.heap.size, 9, none⟩) lu).trans k9
  have lu2 := Nat.lt_of_lt_of_le lu hB2.size
  have xg : Hid (x < g ∧ x < u2.heap.size) := ⟨Nat.lt_of_lt_of_le HTu.out.lt hg, HT2.out.lt⟩
  have RG : Hid (∀ j, j < 195 → L j ≠ some g) := fun j hj => NRW.out j g hj (Nat.le_of_lt HG.out)
  clear hD hB2 hv hg HTu BU CE CLm
  rcases HEL.out with ⟨hk, j, pN, hj, rfl, hp⟩ | ⟨hk, rfl, rfl, rfl⟩
  · subst hk
    have hjl := HLL.out j (List.mem_of_getLast? hj)
    obtain ⟨hpl, hpe⟩ := List.getElem?_eq_some_iff.1 hp
    obtain ⟨hx1, hx2⟩ := HXw.out j hjl
    obtain ⟨bp, po, hA, hbl, hcells⟩ := hx2 (by omega)
    obtain ⟨m0, m1, m2⟩ := hcells pN hpl
    rw [hpe] at m0 m1 m2
    simp only at m0 m1 m2
    have m0 := (B2.out.cell (p := ⟨bp, po + pN * 3, none⟩) hbl).trans m0
    have m1 := (B2.out.cell (p := ⟨bp, po + pN * 3 + 1, none⟩) hbl).trans m1
    have m2 := (B2.out.cell (p := ⟨bp, po + pN * 3 + 2, none⟩) hbl).trans m2
    have hpn : (pN : Int) < (evs[j].len : Int) := by omega
    have hlv : lastP l = (j : Int) := by unfold lastP; rw [hj]
    have hev : evO evs A K (some j) = evV evs[j] (A j) (K j) := by simp [evO, List.getD, List.getElem?_eq_getElem hjl]
    have CLt := hd (fun U (hB : Below u2.heap.size u2 U) => hlv ▸ last_any (HT2.out.below hB) cN HC.out l HSl.out)
    have CEv := hd (fun U (hB : Below u2.heap.size u2 U) => hev ▸ event_any (HT2.out.below hB) ((HVw.out.below B2.out (Nat.le_refl _)).below hB (Nat.le_refl _)) (some j) (fun k hk => by injection hk with hk; rw [← hk]; exact hjl))
    rw [hA] at CEv
    simp only [oI] at CEv
    generalize evs[j] = ej at *
    generalize K j = kj at *
    obtain ⟨pst, psi, pha, pma, ⟨pok, pop, poc, pol, pos⟩, pnd⟩ := ej
    simp only [evV] at CEv hpn
    have y6 := cell_row HD.out 6; have y7 := cell_row HD.out 7; have y8 := cell_row HD.out 8
    simp at y6 y7 y8
    have HFZ : Hid (∀ U, Below u2.heap.size u2 U → U.frozen? ⟨g, 6, none⟩ = false ∧ U.frozen? ⟨g, 7, none⟩ = false ∧ U.frozen? ⟨g, 8, none⟩ = false) := fun U hB => ⟨frozen_row (block_keep hB HD.out lg) 6, frozen_row (block_keep hB HD.out lg) 7, frozen_row (block_keep hB HD.out lg) 8⟩
    have hbl2 := Nat.lt_of_lt_of_le hbl B2.out.size
    clear hx1 hx2 hcells hp hpl hpe hlv hev hbl
    go_upto_region 4 with fail
    refine takeD _ _ x w.heap.size g cN bp po pnd kj pN (j : Int) pst psi pha pma pok pop poc pol pos ec el es rfl rfl rfl (by simp) lu2 hbl2 lg k1 k5 m0 m1 m2 _ _ _ y6 y7 y8 hpn (by omega) HFZ.out CLt.out CEv.out ?_
    intro V4 u3 hB3
    simp only [sltakeD, List.getD_cons_zero, List.getD_cons_succ, List.range, List.range.loop, List.map_cons, List.map_nil, puts, List.foldl_cons, List.foldl_nil, Act.put, List.setIfInBounds_toArray, List.set_cons_succ, List.set_cons_zero]
    have HD3 := block_keep hB3 HD.out lg
    have HDD := hd (set3_row HD3 (.int .u8 ec) (.int .i64 el) (.int .i64 es))
    have fr4 := set3 u3 g (.int .u8 ec) (.int .i64 el) (.int .i64 es)
    have HT4 := hd ((HT2.out.below hB3).fr fr4 (fun e => by have := xg.out.1; omega) (fun j g' hj hg' e => RG.out j hj (by rw [hg', e])))
    have k1 := (fr4.cell (p := ⟨w.heap.size, 1, none⟩) (Nat.lt_of_lt_of_le lu2 hB3.size) (by have := HG.out; show ¬ w.heap.size = g; omega)).trans ((hB3.cell (p := ⟨w.heap.size, 1, none⟩) lu2).trans k1)
    have B4 : Hid (Fr (fun k => x ≤ k) w (((u3.setCell ⟨g, 6, none⟩ (.int .u8 ec)).setCell ⟨g, 7, none⟩ (.int .i64 el)).setCell ⟨g, 8, none⟩ (.int .i64 es))) := (Fr.of_below (B2.out.trans (hB3.mono B2.out.size))).trans (fr4.mono (fun k _ hk => by have := xg.out.1; omega))
    have l4 : w.heap.size < (((u3.setCell ⟨g, 6, none⟩ (.int .u8 ec)).setCell ⟨g, 7, none⟩ (.int .i64 el)).setCell ⟨g, 8, none⟩ (.int .i64 es)).heap.size := Nat.lt_of_lt_of_le lu2 (Nat.le_trans hB3.size fr4.size)
    clear hB3 fr4 HD3 HT2 CLt CEv HFZ m0 m1 m2 y6 y7 y8 hpn hbl2 HD
    generalize ((u3.setCell ⟨g, 6, none⟩ (.int .u8 ec)).setCell ⟨g, 7, none⟩ (.int .i64 el)).setCell ⟨g, 8, none⟩ (.int .i64 es) = u4 at *
    have z0 := cell_row HDD.out 0; have z1 := cell_row HDD.out 1; have z2 := cell_row HDD.out 2; have z3 := cell_row HDD.out 3; have z4 := cell_row HDD.out 4; have z5 := cell_row HDD.out 5; have z6 := cell_row HDD.out 6; have z7 := cell_row HDD.out 7; have z8 := cell_row HDD.out 8
    simp at z0 z1 z2 z3 z4 z5 z6 z7 z8
    have lgU := block_lt HDD.out
    obtain ⟨vd, hvd, hsd⟩ := HT4.out.slot (130 + cN) (by omega)
    rw [show 3 + (130 + cN) = 133 + cN from by omega] at hvd
    rw [HSD.out] at hsd
    obtain ⟨oa, oc', rfl, -, -⟩ := SF.form hsd
    have HSF := hd hsd
    have HV := hd hvd
    clear hsd hvd
    go_upto_region 5 with fail
    refine pushD _ _ x w.heap.size cN d.length oc' oa g ha 2 (pN : Int) oc ol os ec el es rfl rfl rfl (by simp) c65 (PP ddc 9 89 u4 (L (130 + cN)) (d ++ [⟨⟨ha, ⟨2, (pN : Int), oc, ol, os⟩⟩, ec, el, es⟩])) (fun u1 hB => ⟨(hB.cell (p := ⟨w.heap.size, 1, none⟩) l4).trans k1, (hB.cell (p := ⟨x, 133 + cN, none⟩) HT4.out.lt).trans HV.out, (hB.cell (p := ⟨g, 0, none⟩) lgU).trans z0, (hB.cell (p := ⟨g, 1, none⟩) lgU).trans z1, (hB.cell (p := ⟨g, 2, none⟩) lgU).trans z2, (hB.cell (p := ⟨g, 3, none⟩) lgU).trans z3, (hB.cell (p := ⟨g, 4, none⟩) lgU).trans z4, (hB.cell (p := ⟨g, 5, none⟩) lgU).trans z5, (hB.cell (p := ⟨g, 6, none⟩) lgU).trans z6, (hB.cell (p := ⟨g, 7, none⟩) lgU).trans z7, (hB.cell (p := ⟨g, 8, none⟩) lgU).trans z8⟩) (fun v u1 hP => ⟨hP.cell (p := ⟨w.heap.size, 1, none⟩) l4 (NR.out _ (by omega)) k1, hP.cell (p := ⟨x, 133 + cN, none⟩) HT4.out.lt (HT4.out.not_x (by omega)) HV.out, hP.cell (p := ⟨g, 0, none⟩) lgU (RG.out _ (by omega)) z0, hP.cell (p := ⟨g, 1, none⟩) lgU (RG.out _ (by omega)) z1, hP.cell (p := ⟨g, 2, none⟩) lgU (RG.out _ (by omega)) z2, hP.cell (p := ⟨g, 3, none⟩) lgU (RG.out _ (by omega)) z3, hP.cell (p := ⟨g, 4, none⟩) lgU (RG.out _ (by omega)) z4, hP.cell (p := ⟨g, 5, none⟩) lgU (RG.out _ (by omega)) z5, hP.cell (p := ⟨g, 6, none⟩) lgU (RG.out _ (by omega)) z6, hP.cell (p := ⟨g, 7, none⟩) lgU (RG.out _ (by omega)) z7, hP.cell (p := ⟨g, 8, none⟩) lgU (RG.out _ (by omega)) z8⟩) (fun u1 g' hB hg => run_deeds HSF.out ⟨⟨ha, ⟨2, (pN : Int), oc, ol, os⟩⟩, ec, el, es⟩ hB hg HDB.out) (fun v u1 hP => ⟨hP.form, by
      obtain ⟨cur, hh, -⟩ := HT4.out.blk
      exact frozen_row ((hP.block HT4.out.lt (HT4.out.not_x (by omega))).trans hh) _⟩) ?_
    intro V5 v5 u5 hP
    obtain ⟨g5, hT5, hF5⟩ := HT4.out.pushD (by omega) hP
    rw [show 3 + (130 + cN) = 133 + cN from by omega] at hT5 hF5
    have k1 := ((Fr.setCell (S := (· = x)) u5 ⟨x, 133 + cN, none⟩ v5 rfl).cell (p := ⟨w.heap.size, 1, none⟩) (Nat.lt_of_lt_of_le l4 (by have := hP; obtain ⟨q1, q2, q3, q4, q5⟩ := this; rcases q5 with ⟨-, q5⟩ | ⟨-, q5⟩ <;> exact Nat.le_trans q2.size q5.size)) (by have := HXl.out; show w.heap.size ≠ x; omega)).trans (hP.cell (p := ⟨w.heap.size, 1, none⟩) l4 (NR.out _ (by omega)) k1)
    have l5 : w.heap.size < (u5.setCell ⟨x, 133 + cN, none⟩ v5).heap.size := Nat.lt_of_lt_of_le l4 hF5.size
    have NR : Hid (∀ j, j < 130 → (upd L (130 + cN) (some g5)) j ≠ some w.heap.size) := fun j hj => by rw [upd_ne _ _ (by omega)]; exact NR.out j (by omega)
    have HT5 := hd hT5
    have B5 := hd ((B4.out).trans hF5)
    clear hP hT5 hF5 HSF HV z0 z1 z2 z3 z4 z5 z6 z7 z8
    simp only [slpushD, List.getD_cons_zero, List.getD_cons_succ, List.range, List.range.loop, List.map_cons, List.map_nil, puts, List.foldl_cons, List.foldl_nil, Act.put, List.setIfInBounds_toArray, List.set_cons_succ, List.set_cons_zero]
    generalize u5.setCell ⟨x, 133 + cN, none⟩ v5 = u6 at *
    go_upto_region 6 with fail
    obtain ⟨v, hv, hs⟩ := HT5.out.slot (65 + cN) (by omega)
    rw [show 3 + (65 + cN) = 68 + cN from by omega] at hv
    rw [HSL.out] at hs
    obtain ⟨oa, oc', rfl, -, -⟩ := SF.form hs
    have HSF := hd hs
    have HV := hd hv
    clear hs hv
    refine pushS _ _ x w.heap.size cN l.length oc' oa i rfl rfl rfl (by simp) c65 (PP nic 1 3 u6 ((upd L (130 + cN) (some g5)) (65 + cN)) (l ++ [i])) (fun u1 hB => ⟨(hB.cell (p := ⟨w.heap.size, 1, none⟩) l5).trans k1, (hB.cell (p := ⟨x, 68 + cN, none⟩) HT5.out.lt).trans HV.out⟩) (fun v u1 hP => ⟨hP.cell (p := ⟨w.heap.size, 1, none⟩) l5 (NR.out _ (by omega)) k1, hP.cell (p := ⟨x, 68 + cN, none⟩) HT5.out.lt (HT5.out.not_x (by omega)) HV.out⟩) (fun u1 g hB hg => run_ints HSF.out i hB hg HBD.out) (fun v u1 hP => ⟨hP.form, by
      obtain ⟨cur, hh, -⟩ := HT5.out.blk
      exact frozen_row ((hP.block HT5.out.lt (HT5.out.not_x (by omega))).trans hh) _⟩) ?_
    intro V' v' u1 hP
    have HP := hd (HT5.out.pushN (by omega) hP)
    rw [show 3 + (65 + cN) = 68 + cN from by omega] at HP
    clear hP
    simp only [slpushS, List.getD_cons_zero, List.getD_cons_succ, List.range, List.range.loop, List.map_cons, List.map_nil, puts, List.foldl_cons, List.foldl_nil, Act.put, List.setIfInBounds_toArray, List.set_cons_succ, List.set_cons_zero]
    go_wp2
    (try simp only [Exit.inBlock, Exit.then])
    refine bodyPost_end (results_none rfl _ _ _) rfl ?_
    obtain ⟨g', h1, h2⟩ := HP.out
    exact ⟨rfl, ⟨_, h1⟩, B5.out.trans h2⟩
  · have kk : (ok == 2) = false := by simpa using hk
    have B4 : Hid (Fr (fun k => x ≤ k) w u2) := Fr.of_below B2.out
    have HDD := HD
    clear hk HEL HD
    have z0 := cell_row HDD.out 0; have z1 := cell_row HDD.out 1; have z2 := cell_row HDD.out 2; have z3 := cell_row HDD.out 3; have z4 := cell_row HDD.out 4; have z5 := cell_row HDD.out 5; have z6 := cell_row HDD.out 6; have z7 := cell_row HDD.out 7; have z8 := cell_row HDD.out 8
    simp at z0 z1 z2 z3 z4 z5 z6 z7 z8
    have lgU := block_lt HDD.out
    obtain ⟨vd, hvd, hsd⟩ := HT2.out.slot (130 + cN) (by omega)
    rw [show 3 + (130 + cN) = 133 + cN from by omega] at hvd
    rw [HSD.out] at hsd
    obtain ⟨oa, oc', rfl, -, -⟩ := SF.form hsd
    have HSF := hd hsd
    have HV := hd hvd
    clear hsd hvd
    go_upto_region 5 with fail
    refine pushD _ _ x w.heap.size cN d.length oc' oa g ha ok op ec el es ec el es rfl rfl rfl (by simp) c65 (PP ddc 9 89 u2 (L (130 + cN)) (d ++ [⟨⟨ha, ⟨ok, op, ec, el, es⟩⟩, ec, el, es⟩])) (fun u1 hB => ⟨(hB.cell (p := ⟨w.heap.size, 1, none⟩) lu2).trans k1, (hB.cell (p := ⟨x, 133 + cN, none⟩) HT2.out.lt).trans HV.out, (hB.cell (p := ⟨g, 0, none⟩) lgU).trans z0, (hB.cell (p := ⟨g, 1, none⟩) lgU).trans z1, (hB.cell (p := ⟨g, 2, none⟩) lgU).trans z2, (hB.cell (p := ⟨g, 3, none⟩) lgU).trans z3, (hB.cell (p := ⟨g, 4, none⟩) lgU).trans z4, (hB.cell (p := ⟨g, 5, none⟩) lgU).trans z5, (hB.cell (p := ⟨g, 6, none⟩) lgU).trans z6, (hB.cell (p := ⟨g, 7, none⟩) lgU).trans z7, (hB.cell (p := ⟨g, 8, none⟩) lgU).trans z8⟩) (fun v u1 hP => ⟨hP.cell (p := ⟨w.heap.size, 1, none⟩) lu2 (NR.out _ (by omega)) k1, hP.cell (p := ⟨x, 133 + cN, none⟩) HT2.out.lt (HT2.out.not_x (by omega)) HV.out, hP.cell (p := ⟨g, 0, none⟩) lgU (RG.out _ (by omega)) z0, hP.cell (p := ⟨g, 1, none⟩) lgU (RG.out _ (by omega)) z1, hP.cell (p := ⟨g, 2, none⟩) lgU (RG.out _ (by omega)) z2, hP.cell (p := ⟨g, 3, none⟩) lgU (RG.out _ (by omega)) z3, hP.cell (p := ⟨g, 4, none⟩) lgU (RG.out _ (by omega)) z4, hP.cell (p := ⟨g, 5, none⟩) lgU (RG.out _ (by omega)) z5, hP.cell (p := ⟨g, 6, none⟩) lgU (RG.out _ (by omega)) z6, hP.cell (p := ⟨g, 7, none⟩) lgU (RG.out _ (by omega)) z7, hP.cell (p := ⟨g, 8, none⟩) lgU (RG.out _ (by omega)) z8⟩) (fun u1 g' hB hg => run_deeds HSF.out ⟨⟨ha, ⟨ok, op, ec, el, es⟩⟩, ec, el, es⟩ hB hg HDB.out) (fun v u1 hP => ⟨hP.form, by
      obtain ⟨cur, hh, -⟩ := HT2.out.blk
      exact frozen_row ((hP.block HT2.out.lt (HT2.out.not_x (by omega))).trans hh) _⟩) ?_
    intro V5 v5 u5 hP
    obtain ⟨g5, hT5, hF5⟩ := HT2.out.pushD (by omega) hP
    rw [show 3 + (130 + cN) = 133 + cN from by omega] at hT5 hF5
    have k1 := ((Fr.setCell (S := (· = x)) u5 ⟨x, 133 + cN, none⟩ v5 rfl).cell (p := ⟨w.heap.size, 1, none⟩) (Nat.lt_of_lt_of_le lu2 (by have := hP; obtain ⟨q1, q2, q3, q4, q5⟩ := this; rcases q5 with ⟨-, q5⟩ | ⟨-, q5⟩ <;> exact Nat.le_trans q2.size q5.size)) (by have := HXl.out; show w.heap.size ≠ x; omega)).trans (hP.cell (p := ⟨w.heap.size, 1, none⟩) lu2 (NR.out _ (by omega)) k1)
    have l5 : w.heap.size < (u5.setCell ⟨x, 133 + cN, none⟩ v5).heap.size := Nat.lt_of_lt_of_le lu2 hF5.size
    have NR : Hid (∀ j, j < 130 → (upd L (130 + cN) (some g5)) j ≠ some w.heap.size) := fun j hj => by rw [upd_ne _ _ (by omega)]; exact NR.out j (by omega)
    have HT5 := hd hT5
    have B5 := hd ((B4.out).trans hF5)
    clear hP hT5 hF5 HSF HV z0 z1 z2 z3 z4 z5 z6 z7 z8
    simp only [slpushD, List.getD_cons_zero, List.getD_cons_succ, List.range, List.range.loop, List.map_cons, List.map_nil, puts, List.foldl_cons, List.foldl_nil, Act.put, List.setIfInBounds_toArray, List.set_cons_succ, List.set_cons_zero]
    generalize u5.setCell ⟨x, 133 + cN, none⟩ v5 = u6 at *
    go_upto_region 6 with fail
    obtain ⟨v, hv, hs⟩ := HT5.out.slot (65 + cN) (by omega)
    rw [show 3 + (65 + cN) = 68 + cN from by omega] at hv
    rw [HSL.out] at hs
    obtain ⟨oa, oc', rfl, -, -⟩ := SF.form hs
    have HSF := hd hs
    have HV := hd hv
    clear hs hv
    refine pushS _ _ x w.heap.size cN l.length oc' oa i rfl rfl rfl (by simp) c65 (PP nic 1 3 u6 ((upd L (130 + cN) (some g5)) (65 + cN)) (l ++ [i])) (fun u1 hB => ⟨(hB.cell (p := ⟨w.heap.size, 1, none⟩) l5).trans k1, (hB.cell (p := ⟨x, 68 + cN, none⟩) HT5.out.lt).trans HV.out⟩) (fun v u1 hP => ⟨hP.cell (p := ⟨w.heap.size, 1, none⟩) l5 (NR.out _ (by omega)) k1, hP.cell (p := ⟨x, 68 + cN, none⟩) HT5.out.lt (HT5.out.not_x (by omega)) HV.out⟩) (fun u1 g hB hg => run_ints HSF.out i hB hg HBD.out) (fun v u1 hP => ⟨hP.form, by
      obtain ⟨cur, hh, -⟩ := HT5.out.blk
      exact frozen_row ((hP.block HT5.out.lt (HT5.out.not_x (by omega))).trans hh) _⟩) ?_
    intro V' v' u1 hP
    have HP := hd (HT5.out.pushN (by omega) hP)
    rw [show 3 + (65 + cN) = 68 + cN from by omega] at HP
    clear hP
    simp only [slpushS, List.getD_cons_zero, List.getD_cons_succ, List.range, List.range.loop, List.map_cons, List.map_nil, puts, List.foldl_cons, List.foldl_nil, Act.put, List.setIfInBounds_toArray, List.set_cons_succ, List.set_cons_zero]
    go_wp2
    (try simp only [Exit.inBlock, Exit.then])
    refine bodyPost_end (results_none rfl _ _ _) rfl ?_
    obtain ⟨g', h1, h2⟩ := HP.out
    exact ⟨rfl, ⟨_, h1⟩, B5.out.trans h2⟩
end

end Go.Proofs.YtfhghijefjhehaaDoor
