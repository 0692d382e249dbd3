/-
  Texts put together: Dg Ea Te.
-/
import Derived.Test.YtilidolbplglcaaGreatDoorDh
import Derived.Test.YtilidolbplglcaaGreatDoorMMb
import Derived.Test.YtilidolbplglcaaGreatDoorMUb
/-! Dg -/
namespace Go.Proofs.YtilidolbplglcaaGreatDoor
open Go.RowKit
set_option linter.unusedVariables false

theorem cl_cO (xs : List OpE) : cl opc xs = cO xs := rfl
theorem SF.isO {w : World} {β : Option Nat} {v : Value} {xs : List OpE} (h : SF opc 5 w 46 β v xs) : ∃ a c, v = .slice a xs.length c ∧ IsO w a xs.length c xs := by
  cases β with
  | none =>
    obtain ⟨rfl, rfl⟩ := h
    exact ⟨none, 0, rfl, rfl, Nat.le_refl _, by omega, fun h => by simp at h⟩
  | some g =>
    obtain ⟨cap, rfl, cur, hh, ht, hl, hn, hm, hs⟩ := h
    refine ⟨_, cap, rfl, rfl, hn, hm, fun _ => ⟨g, 0, rfl, block_lt hh, fun j v hj => ?_⟩⟩
    rw [Nat.zero_add, cell_row hh, List.getElem?_toArray]
    rw [← cl_cO, ← ht, List.getElem?_take] at hj
    split at hj
    · exact hj
    · cases hj
theorem SF.isL {w : World} {β : Option Nat} {v : Value} {xs : List Ed} (h : SF edc 6 w 48 β v xs) : ∃ a c, v = .slice a xs.length c ∧ IsL w a xs.length xs := by
  cases β with
  | none =>
    obtain ⟨rfl, rfl⟩ := h
    exact ⟨none, 0, rfl, rfl, fun h => by simp at h⟩
  | some g =>
    obtain ⟨cap, rfl, hR⟩ := h
    refine ⟨_, cap, rfl, rfl, fun _ => ⟨g, 0, rfl, hR.lt, fun q hq => ?_⟩⟩
    simp only [Nat.zero_add]
    exact ⟨hR.cell szEd q 0 hq (by omega), hR.cell szEd q 1 hq (by omega), hR.cell szEd q 2 hq (by omega), hR.cell szEd q 3 hq (by omega), hR.cell szEd q 4 hq (by omega), hR.cell szEd q 5 hq (by omega)⟩
def nsL (D : List OpE) : List Int := (List.range (D.length + 1)).map (nsP D)
theorem nsL_len (D : List OpE) : (nsL D).length = D.length + 1 := by simp [nsL]
theorem nsL_snoc (D : List OpE) (d : OpE) : nsL (D ++ [d]) = nsL D ++ [nsP D D.length + gr d] := by
  have h1 : ∀ k, k ≤ D.length → nsP (D ++ [d]) k = nsP D k := fun k hk => by
    unfold nsP
    rw [List.take_append_of_le_length hk]
  unfold nsL
  rw [List.length_append, List.length_singleton, List.range_succ, List.map_append]
  congr 1
  · refine List.map_congr_left (fun k hk => h1 k ?_)
    have := List.mem_range.1 hk
    omega
  · simp only [List.map_cons, List.map_nil, List.cons.injEq, and_true]
    have h2 := nsP_succ (D := D ++ [d]) (k := D.length) (by simp)
    rw [h2, h1 _ (Nat.le_refl _)]
    simp
theorem SF.isN {w : World} {β : Option Nat} {v : Value} {D : List OpE} (h : SF ei 1 w 3 β v (nsL D)) : ∃ a c, v = .slice a (D.length + 1) c ∧ IsN w a (D.length + 1) (nsP D) := by
  cases β with
  | none =>
    obtain ⟨-, h⟩ := h
    have := congrArg List.length h
    rw [nsL_len] at this
    simp at this
  | some g =>
    obtain ⟨cap, rfl, hR⟩ := h
    refine ⟨some ⟨g, 0, none⟩, cap, by rw [nsL_len], fun _ => ⟨g, 0, rfl, hR.lt, fun q hq => ?_⟩⟩
    have hq' : q < (nsL D).length := by rw [nsL_len]; exact hq
    have h1 := hR.cell sz_ei q 0 hq' (by omega)
    rw [Nat.zero_add]
    simp only [Nat.mul_one, Nat.add_zero] at h1
    rw [h1]
    simp [ei, nsL]

section
variable {w0 w : World} {x : Nat} {E : List Ed} {D : List OpE} {KK : List Int} {vE vD vN vK : Value} {βE βD βN βK : Option Nat}
theorem RBs.rd (h : RBs w0 w x E D (nsL D) KK vE vD vN vK βE βD βN βK) (hJ : BJ E D) : ∃ aE aD aN cE cD cN, vE = .slice aE E.length cE ∧ vD = .slice aD E.length cD ∧ vN = .slice aN (E.length + 1) cN ∧ RBr w x aE aD aN cE cD cN vK E D := by
  obtain ⟨aE, cE, e1, i1⟩ := h.e.isL
  obtain ⟨aD, cD, e2, i2⟩ := h.d.isO
  obtain ⟨aN, cN, e3, i3⟩ := h.n.isN
  rw [hJ.b.len] at e2 i2 e3 i3
  subst e1 e2 e3
  exact ⟨aE, aD, aN, cE, cD, cN, rfl, rfl, rfl, h.blk, i1, i2, i3, hJ.b.bound⟩

set_option maxRecDepth 100000 in
set_option maxHeartbeats 8000000 in
theorem btake_any (h : RBs w0 w x E D (nsL D) KK vE vD vN vK βE βD βN βK) (hJ : BJ E D) (e : Ed) (hc : chkP E D e = 0) (hK : KK.length ≤ 5000) :
    Calls Tryz.prog 19 #[.pointer (some ⟨x, 0, none⟩), .agg #[.int .i64 e.tag, .int .i64 e.o.kind, .int .i64 e.o.pos, .int .u8 e.o.ch, .int .i64 e.o.cl, .int .i64 e.o.sq]] w fun r w' => (∃ v, r = .returned v) ∧ ∃ vE vD vN vK βE βD βN βK, RBs w0 w' x (E ++ [e]) (D ++ [dnP E D e]) (nsL (D ++ [dnP E D e])) (KK ++ [2]) vE vD vN vK βE βD βN βK := by
  obtain ⟨v, k, sq, t1, t2, ft⟩ := chk_zero hc
  have hR := (hJ.b.past hc).1
  have hNB := nsP_le D D.length
  have hlD := hJ.b.len
  have b1 : Below w.heap.size w (w.alloc (.cells #[.int .i64 e.tag, .int .i64 e.o.kind, .int .i64 e.o.pos, .int .u8 e.o.ch, .int .i64 e.o.cl, .int .i64 e.o.sq] 48)) := (Below.refl _ _).alloc (Nat.le_refl _) _
  have HX := hd (heap_alloc_new w (.cells #[.int .i64 e.tag, .int .i64 e.o.kind, .int .i64 e.o.pos, .int .u8 e.o.ch, .int .i64 e.o.cl, .int .i64 e.o.sq] 48))
  have h1 := h.below b1
  obtain ⟨aE, aD, aN, cE, cD, cN, e1, e2, e3, hr1⟩ := h1.rd hJ
  have CLf := hd (life_any hr1 hJ e t1 t2)
  have H1 := hd h1
  obtain ⟨aK, cK, e4, -⟩ := h.k.form
  subst e1 e2 e3 e4
  have HNL := hd (nsL_snoc D (dnP E D e))
  obtain ⟨⟨dk, dp, dc, dl, ds⟩, hdn⟩ : ∃ z, dnP E D e = z := ⟨_, rfl⟩
  obtain ⟨⟨et, ⟨ek, ep, ec, el, es⟩⟩, hee⟩ : ∃ z, e = z := ⟨_, rfl⟩
  rw [hdn] at CLf HNL
  simp only [OpE.val] at CLf
  have CLo := hd (fun W => longer_any ⟨dk, dp, dc, dl, ds⟩ W)
  simp only [OpE.val] at CLo
  have HGR := hd (gr_le ⟨dk, dp, dc, dl, ds⟩)
  obtain ⟨gg, hgg⟩ : ∃ z, gr ⟨dk, dp, dc, dl, ds⟩ = z := ⟨_, rfl⟩
  obtain ⟨Nk, hNk⟩ : ∃ z, nsP D D.length = z := ⟨_, rfl⟩
  rw [hgg, hNk] at HNL
  rw [hgg] at CLo HGR
  obtain ⟨n, hn⟩ : ∃ n, E.length = n := ⟨_, rfl⟩
  subst hee
  rw [hdn]
  simp only at *
  have hNk1 : -4096 ≤ Nk ∧ Nk ≤ 4096 := by omega
  have hw1 : wrap64 (Nk + gg) = Nk + gg := by have := HGR.out; rw [wrap64]; omega
  have hlx : x < w.heap.size := block_lt h.blk
  have HJl := hd hlD
  have HN := hd hn
  have HRn := hd hR
  have HNk := hd hNk
  rw [hn] at H1
  clear h h1 hJ hr1 hc v k sq t1 t2 ft b1 hNB hgg hNk hlD hdn
  go_enter Tryz.func19, Tryz.ntmps19
  go_upto_region 1 with fail
  generalize w.alloc (.cells #[.int .i64 et, .int .i64 ek, .int .i64 ep, .int .u8 ec, .int .i64 el, .int .i64 es] 48) = w1 at *
  obtain ⟨d0, d1, d2, d3, d4, d5⟩ := edCells HX.out
  go_upto_region 2 with (go_at_call 30; refine CLf.out.mono ?_; rintro e1 u ⟨rfl, bu⟩)
  have b2 : Below w1.heap.size w1 (u.alloc (.cells #[.int .i64 dk, .int .i64 dp, .int .u8 dc, .int .i64 dl, .int .i64 ds] 46)) := bu.alloc bu.size _
  have HDB := hd (heap_alloc_new u (.cells #[.int .i64 dk, .int .i64 dp, .int .u8 dc, .int .i64 dl, .int .i64 ds] 46))
  have HEB := hd ((b2.block _ (block_lt HX.out)).trans HX.out)
  have H2 := hd (H1.out.below b2)
  clear b2 bu H1 HX CLf d0 d1 d2 d3 d4 d5
  generalize u.alloc (.cells #[.int .i64 dk, .int .i64 dp, .int .u8 dc, .int .i64 dl, .int .i64 ds] 46) = w2 at *
  generalize u.heap.size = db at *
  have CX : Hid (∀ W, Below w2.heap.size w2 W → (W.cell? ⟨x, 1, none⟩ = some (.slice aE n cE) ∧ W.cell? ⟨x, 3, none⟩ = some (.slice aN (n + 1) cN)) ∧ (∃ gN, aN = some ⟨gN, 0, none⟩ ∧ W.cell? ⟨gN, n, none⟩ = some (.int .i64 Nk)) ∧ (W.cell? ⟨db, 0, none⟩ = some (.int .i64 dk) ∧ W.cell? ⟨db, 1, none⟩ = some (.int .i64 dp) ∧ W.cell? ⟨db, 2, none⟩ = some (.int .u8 dc) ∧ W.cell? ⟨db, 3, none⟩ = some (.int .i64 dl) ∧ W.cell? ⟨db, 4, none⟩ = some (.int .i64 ds))) := fun W hW => by
    have h3 := H2.out.below hW
    refine ⟨⟨by rw [cell_row h3.blk]; rfl, by rw [cell_row h3.blk]; rfl⟩, ?_, (opCells ((hW.block _ (block_lt HDB.out)).trans HDB.out)).1⟩
    obtain ⟨a, c, e3, i3⟩ := h3.n.isN
    cases hβ : βN with
    | none =>
      have h4 := h3.n
      rw [hβ] at h4
      have := congrArg List.length h4.2
      rw [nsL_len] at this
      simp at this
    | some g =>
      have h4 := h3.n
      rw [hβ] at h4
      obtain ⟨cap, e5, hRw⟩ := h4
      have e6 := Value.slice.inj e5
      have hq : n < (nsL D).length := by rw [nsL_len, HJl.out, HN.out]; exact Nat.lt_succ_self _
      have h5 := hRw.cell sz_ei n 0 hq (by decide)
      simp only [Nat.mul_one, Nat.add_zero] at h5
      refine ⟨g, e6.1, ?_⟩
      rw [h5, ← HNk.out, HJl.out, HN.out]
      simp [ei, nsL]
  obtain ⟨gN, haN, -⟩ := (CX.out w2 (Below.refl _ _)).2.1
  subst haN
  have hlN : Hid ((nsL D).length = n + 1) := by
    show _ = _
    rw [nsL_len, HJl.out, HN.out]
  have hn4 : n ≤ 4095 := by have := HRn.out; have := HN.out; omega
  have hwr : IntKind.i64.wrap (Nk + gg) = Nk + gg := by
    have := HGR.out
    rw [IntKind.wrap_i64]
    omega
  refine takeN _ w2 x db n gN cN cE aE Nk gg dk dp dc dl ds rfl rfl (by simp) (by omega) hwr CLo.out
    (fun v u => ∃ a c, v = .slice a (n + 1 + 1) c ∧ u.cell? ⟨x, 3, none⟩ = some (.slice (some ⟨gN, 0, none⟩) (n + 1) cN) ∧ u.frozen? ⟨x, 3, none⟩ = false ∧ ∃ β', RBs w0 (u.setCell ⟨x, 3, none⟩ (.slice a (n + 1 + 1) c)) x E D (nsL D ++ [Nk + gg]) KK (.slice aE n cE) (.slice aD n cD) (.slice a (n + 1 + 1) c) (.slice aK KK.length cK) βE βD β' βK ∧ (u.setCell ⟨x, 3, none⟩ (.slice a (n + 1 + 1) c)).heap[w.heap.size]? = some (.cells #[.int .i64 et, .int .i64 ek, .int .i64 ep, .int .u8 ec, .int .i64 el, .int .i64 es] 48 (0, 0)) ∧ (u.setCell ⟨x, 3, none⟩ (.slice a (n + 1 + 1) c)).heap[db]? = some (.cells #[.int .i64 dk, .int .i64 dp, .int .u8 dc, .int .i64 dl, .int .i64 ds] 46 (0, 0))) ?g0 ?ga ?gs ?gk
  case g0 =>
    intro u hu
    obtain ⟨⟨c1, c3⟩, ⟨g', hg', cn⟩, o0, o1, o2, o3, o4⟩ := CX.out u hu
    obtain rfl : gN = g' := congrArg Addr.block (Option.some.inj hg')
    exact ⟨c3, c1, cn, o0, o1, o2, o3, o4⟩
  case ga =>
    intro u b hu hb
    obtain ⟨a, c, u', k1, k2, β', k3, k4⟩ := H2.out.pushN (Nk + gg) hu b hb (by rw [hlN.out]; omega)
    rw [hlN.out] at k1 k3 k4
    have nN := H2.out.n.ne HEB.out (by decide)
    have nD := H2.out.n.ne HDB.out (by decide)
    refine ⟨_, u', k1, a, c, rfl, by rw [cell_row k2]; rfl, frozen_row k2 3, β', k3, k4.keeps HEB.out (fun hs => hs.elim (fun e => by omega) (fun e => (nN _ e).2 rfl)), k4.keeps HDB.out (fun hs => hs.elim (fun e => ?_) (fun e => (nD _ e).2 rfl))⟩
    have h6 := H2.out.blk
    rw [← e, HDB.out] at h6
    simp at h6
  case gs =>
    rintro v u ⟨a, c, rfl, h1, h2, -⟩
    exact ⟨⟨_, _, _, rfl⟩, h1, h2⟩
  case gk =>
    rintro V' v u ⟨a, c, rfl, -, -, βn, hA, hAe, hAd⟩
    have HA := hd hA
    have HAe := hd hAe
    have HAd := hd hAd
    clear hA hAe hAd H2 HDB HEB CX
    generalize u.setCell ⟨x, 3, none⟩ (.slice a (n + 1 + 1) c) = wA at *
    rename_i K0 hK0
    refine hK0 _ _ ?_
    clear hK0
    simp only [List.range, List.range.loop, List.map_cons, List.map_nil, sltakeN, List.getD_cons_zero, List.getD_cons_succ, puts, List.foldl_cons, List.foldl_nil, Act.put, List.setIfInBounds_toArray, List.set_cons_succ, List.set_cons_zero]
    go_upto_region 3 with fail
    refine takeE _ wA x w.heap.size n cE aE et ek ep ec el es rfl rfl (by simp)
      (fun v u => ∃ a3 c3, v = .slice a3 (n + 1) c3 ∧ u.cell? ⟨x, 1, none⟩ = some (.slice aE n cE) ∧ u.frozen? ⟨x, 1, none⟩ = false ∧ ∃ β', RBs w0 (u.setCell ⟨x, 1, none⟩ (.slice a3 (n + 1) c3)) x (E ++ [(⟨et, ⟨ek, ep, ec, el, es⟩⟩ : Ed)]) D (nsL D ++ [Nk + gg]) KK (.slice a3 (n + 1) c3) (.slice aD n cD) (.slice a (n + 1 + 1) c) (.slice aK KK.length cK) β' βD βn βK ∧ (u.setCell ⟨x, 1, none⟩ (.slice a3 (n + 1) c3)).heap[db]? = some (.cells #[.int .i64 dk, .int .i64 dp, .int .u8 dc, .int .i64 dl, .int .i64 ds] 46 (0, 0))) ?e0 ?ea ?es ?ek
    case e0 =>
      intro u hu
      have h3 := HA.out.below hu
      obtain ⟨d0, d1, d2, d3, d4, d5⟩ := edCells ((hu.block _ (block_lt HAe.out)).trans HAe.out)
      exact ⟨by rw [cell_row h3.blk]; rfl, d0, d1, d2, d3, d4, d5⟩
    case ea =>
      intro u b hu hb
      obtain ⟨a3, c3, u', k1, k2, β', k3, k4⟩ := HA.out.pushE ⟨et, ⟨ek, ep, ec, el, es⟩⟩ hu b hb (by rw [HN.out]; omega)
      rw [HN.out] at k1 k3 k4
      have nD := HA.out.e.ne HAd.out (by decide)
      refine ⟨_, u', k1, a3, c3, rfl, by rw [cell_row k2]; rfl, frozen_row k2 1, β', k3, k4.keeps HAd.out (fun hs => hs.elim (fun e => ?_) (fun e => (nD _ e).2 rfl))⟩
      have h6 := HA.out.blk
      rw [← e, HAd.out] at h6
      simp at h6
    case es =>
      rintro v u ⟨a3, c3, rfl, h1, h2, -⟩
      exact ⟨⟨_, _, _, rfl⟩, h1, h2⟩
    case ek =>
      rintro V' v u ⟨a3, c3, rfl, -, -, βe, hB, hBd⟩
      have HB := hd hB
      have HBd := hd hBd
      clear hB hBd HA HAe HAd
      generalize u.setCell ⟨x, 1, none⟩ (.slice a3 (n + 1) c3) = wB at *
      rename_i K0 hK0
      refine hK0 _ _ ?_
      clear hK0
      simp only [List.range, List.range.loop, List.map_cons, List.map_nil, sltakeE, List.getD_cons_zero, List.getD_cons_succ, puts, List.foldl_cons, List.foldl_nil, Act.put, List.setIfInBounds_toArray, List.set_cons_succ, List.set_cons_zero]
      go_upto_region 4 with fail
      refine takeD _ wB x db n cD aD dk dp dc dl ds rfl rfl (by simp)
        (fun v u => ∃ a4 c4, v = .slice a4 (n + 1) c4 ∧ u.cell? ⟨x, 2, none⟩ = some (.slice aD n cD) ∧ u.frozen? ⟨x, 2, none⟩ = false ∧ ∃ β', RBs w0 (u.setCell ⟨x, 2, none⟩ (.slice a4 (n + 1) c4)) x (E ++ [(⟨et, ⟨ek, ep, ec, el, es⟩⟩ : Ed)]) (D ++ [(⟨dk, dp, dc, dl, ds⟩ : OpE)]) (nsL D ++ [Nk + gg]) KK (.slice a3 (n + 1) c3) (.slice a4 (n + 1) c4) (.slice a (n + 1 + 1) c) (.slice aK KK.length cK) βe β' βn βK) ?d0 ?da ?ds ?dk
      case d0 =>
        intro u hu
        have h3 := HB.out.below hu
        obtain ⟨⟨o0, o1, o2, o3, o4⟩, -⟩ := opCells ((hu.block _ (block_lt HBd.out)).trans HBd.out)
        exact ⟨by rw [cell_row h3.blk]; rfl, o0, o1, o2, o3, o4⟩
      case da =>
        intro u b hu hb
        have hlD : D.length = n := HJl.out.trans HN.out
        obtain ⟨a4, c4, u', k1, k2, β', k3, k4⟩ := HB.out.pushD ⟨dk, dp, dc, dl, ds⟩ hu b hb (by rw [hlD]; omega)
        rw [hlD] at k1 k3 k4
        exact ⟨_, u', k1, a4, c4, rfl, by rw [cell_row k2]; rfl, frozen_row k2 2, β', k3⟩
      case ds =>
        rintro v u ⟨a4, c4, rfl, h1, h2, -⟩
        exact ⟨⟨_, _, _, rfl⟩, h1, h2⟩
      case dk =>
        rintro V' v u ⟨a4, c4, rfl, -, -, βd, hC⟩
        have HC := hd hC
        clear hC HB HBd
        generalize u.setCell ⟨x, 2, none⟩ (.slice a4 (n + 1) c4) = wC at *
        rename_i K0 hK0
        refine hK0 _ _ ?_
        clear hK0
        simp only [List.range, List.range.loop, List.map_cons, List.map_nil, sltakeD, List.getD_cons_zero, List.getD_cons_succ, puts, List.foldl_cons, List.foldl_nil, Act.put, List.setIfInBounds_toArray, List.set_cons_succ, List.set_cons_zero]
        obtain ⟨a5, c5, u5, hap, k2, β5, k3, -⟩ := HC.out.pushK (u := wC.alloc (.cells #[.int .i64 2] 3)) 2 ((Below.refl _ _).alloc (Nat.le_refl _) _) wC.heap.size (heap_alloc_new wC _) (by omega)
        have e4 : wC.cell? ⟨x, 4, none⟩ = some (.slice aK KK.length cK) := by rw [cell_row HC.out.blk]; rfl
        have q4 : u5.cell? ⟨x, 4, none⟩ = some (.slice aK KK.length cK) := by rw [cell_row k2]; rfl
        have f4 := frozen_row k2 4
        have lx5 := block_lt k2
        have Z : Hid (∃ vE vD vN vK βE βD βN βK, RBs w0 (u5.setCell ⟨x, 4, none⟩ (.slice a5 (KK.length + 1) c5)) x (E ++ [(⟨et, ⟨ek, ep, ec, el, es⟩⟩ : Ed)]) (D ++ [(⟨dk, dp, dc, dl, ds⟩ : OpE)]) (nsL (D ++ [(⟨dk, dp, dc, dl, ds⟩ : OpE)])) (KK ++ [2]) vE vD vN vK βE βD βN βK) := by
          have h := k3
          rw [← HNL.out] at h
          exact ⟨_, _, _, _, _, _, _, _, h⟩
        clear k2 k3 HC
        go_wp2_with (at_builtin; refine wpList_append_k _ rfl _ _ 54 54 rfl _ _ rfl rfl (hap _) ?_)
        refine bodyPost_end (results_none rfl _ _ _) rfl ?_
        exact ⟨⟨_, rfl⟩, Z.out⟩
end

end Go.Proofs.YtilidolbplglcaaGreatDoor

/-! Ea -/
namespace Go.Proofs.YtilidolbplglcaaGreatDoor
open Go.RowKit Go.Lib
set_option linter.unusedVariables false

def elc (x : El) : List Value := [.int .u8 x.1, .int .i64 x.2.1, .int .i64 x.2.2]
/-- The cells of a text. -/
def cE (xs : List El) : List Value := xs.flatMap elc

theorem cE_nil : cE [] = [] := rfl
theorem cE_cons (x : El) (xs : List El) : cE (x :: xs) = elc x ++ cE xs := rfl
theorem cE_app (xs ys : List El) : cE (xs ++ ys) = cE xs ++ cE ys := by simp [cE]
theorem cE_one (x : El) : cE [x] = elc x := by simp [cE]
theorem cE_len (xs : List El) : (cE xs).length = xs.length * 3 := by
  induction xs with
  | nil => rfl
  | cons x xs ih => rw [cE_cons, List.length_append, ih]; simp [elc]; omega
theorem cE_take (xs : List El) (k : Nat) (hk : k ≤ xs.length) : (cE xs).take (k * 3) = cE (xs.take k) := by
  have h : cE xs = cE (xs.take k) ++ cE (xs.drop k) := by rw [← cE_app, List.take_append_drop]
  rw [h, List.take_append_of_le_length (by rw [cE_len, List.length_take, Nat.min_eq_left hk]; exact Nat.le_refl _), List.take_of_length_le (by rw [cE_len, List.length_take, Nat.min_eq_left hk]; exact Nat.le_refl _)]
theorem cE_drop (xs : List El) (k : Nat) (hk : k ≤ xs.length) : (cE xs).drop (k * 3) = cE (xs.drop k) := by
  have h : cE xs = cE (xs.take k) ++ cE (xs.drop k) := by rw [← cE_app, List.take_append_drop]
  have hl : (cE (xs.take k)).length = k * 3 := by rw [cE_len, List.length_take, Nat.min_eq_left hk]
  rw [h, ← hl, List.drop_left]
theorem cE_one' (xs : List El) : ∀ v ∈ cE xs, v.oneCell' = true := by
  intro v hv
  simp [cE, elc] at hv
  obtain ⟨a, b, c, _, h⟩ := hv
  rcases h with rfl | rfl | rfl <;> rfl
theorem cE_get (xs : List El) (i : Nat) (hi : i < xs.length) : (cE xs)[i * 3]? = some (.int .u8 xs[i].1) ∧ (cE xs)[i * 3 + 1]? = some (.int .i64 xs[i].2.1) ∧ (cE xs)[i * 3 + 2]? = some (.int .i64 xs[i].2.2) := by
  have h : cE xs = cE (xs.take i) ++ (elc xs[i] ++ cE (xs.drop (i + 1))) := by
    rw [← cE_cons, ← cE_app]
    congr 1
    rw [← List.drop_eq_getElem_cons hi, List.take_append_drop]
  have hl : (cE (xs.take i)).length = i * 3 := by rw [cE_len, List.length_take]; congr 1; omega
  rw [h]
  refine ⟨?_, ?_, ?_⟩
  · rw [List.getElem?_append_right (by omega), hl, Nat.sub_self]; rfl
  · rw [List.getElem?_append_right (by omega), hl, show i * 3 + 1 - i * 3 = 1 by omega]; rfl
  · rw [List.getElem?_append_right (by omega), hl, show i * 3 + 2 - i * 3 = 2 by omega]; rfl

/-- The slice value at a, of n elements and capacity c, holds the text xs in w. -/
def IsE (w : World) (a : Option Addr) (n c : Nat) (xs : List El) : Prop :=
  xs.length = n ∧ n ≤ c ∧ c ≤ 9223372036854775807 ∧
  (0 < n → ∃ b off, a = some ⟨b, off, none⟩ ∧ b < w.heap.size ∧ ∀ j v, (cE xs)[j]? = some v → w.cell? ⟨b, off + j, none⟩ = some v)

theorem IsE.at {w : World} {b off n c : Nat} {xs : List El} (h : IsE w (some ⟨b, off, none⟩) n c xs) (i : Nat) (hi : i < n) (hx : i < xs.length) :
    w.cell? ⟨b, off + i * 3, none⟩ = some (.int .u8 xs[i].1) ∧ w.cell? ⟨b, off + i * 3 + 1, none⟩ = some (.int .i64 xs[i].2.1) ∧ w.cell? ⟨b, off + i * 3 + 2, none⟩ = some (.int .i64 xs[i].2.2) := by
  obtain ⟨h1, h2, h3, h4⟩ := h
  obtain ⟨b', off', e, hlt, hc⟩ := h4 (by omega)
  have e' := Option.some.inj e
  simp at e'
  obtain ⟨rfl, rfl⟩ := e'
  obtain ⟨g0, g1, g2⟩ := cE_get xs i hx
  exact ⟨hc _ _ g0, by rw [Nat.add_assoc]; exact hc _ _ g1, by rw [Nat.add_assoc]; exact hc _ _ g2⟩

theorem IsE.addr {w : World} {a : Option Addr} {n c : Nat} {xs : List El} (h : IsE w a n c xs) (hn : 0 < n) : ∃ b off, a = some ⟨b, off, none⟩ ∧ b < w.heap.size := by
  obtain ⟨b, off, e, hlt, _⟩ := h.2.2.2 hn
  exact ⟨b, off, e, hlt⟩

theorem IsE.fr {S : Nat → Prop} {w w' : World} {a : Option Addr} {n c : Nat} {xs : List El} (h : IsE w a n c xs) (hb : Fr S w w') (hr : 0 < n → ∀ b off, a = some ⟨b, off, none⟩ → ¬ S b) : IsE w' a n c xs := by
  obtain ⟨h1, h2, h3, h4⟩ := h
  refine ⟨h1, h2, h3, fun hn => ?_⟩
  obtain ⟨b, off, e, hlt, hc⟩ := h4 hn
  refine ⟨b, off, e, Nat.lt_of_lt_of_le hlt hb.size, fun j v hj => ?_⟩
  rw [hb.cell (p := ⟨b, off + j, none⟩) hlt (hr hn b off e)]
  exact hc j v hj
theorem IsE.below {w w' : World} {a : Option Addr} {n c : Nat} {xs : List El} (h : IsE w a n c xs) (hb : Below w.heap.size w w') : IsE w' a n c xs :=
  h.fr (S := fun _ => False) (Fr.of_below hb) (fun _ _ _ _ h => h)
theorem isE_nil (w : World) : IsE w none 0 0 [] := ⟨rfl, Nat.le_refl _, by omega, fun h => by omega⟩

theorem IsE.take {w : World} {a : Option Addr} {n c : Nat} {xs : List El} (h : IsE w a n c xs) (m : Nat) (hm : m ≤ n) : IsE w a m c (xs.take m) := by
  obtain ⟨h1, h2, h3, h4⟩ := h
  refine ⟨by simp; omega, by omega, h3, fun hn => ?_⟩
  obtain ⟨b, off, e, hlt, hc⟩ := h4 (by omega)
  refine ⟨b, off, e, hlt, fun j v hj => hc j v ?_⟩
  rw [← cE_take xs m (by omega), List.getElem?_take] at hj
  split at hj
  · exact hj
  · cases hj

/-- Part of a text: from place k on. -/
theorem IsE.drop {w : World} {b off n c : Nat} {xs : List El} (h : IsE w (some ⟨b, off, none⟩) n c xs) (k : Nat) (hk : k ≤ n) : IsE w (some ⟨b, off + k * 3, none⟩) (n - k) (c - k) (xs.drop k) := by
  obtain ⟨h1, h2, h3, h4⟩ := h
  refine ⟨by simp; omega, by omega, by omega, fun hn => ?_⟩
  obtain ⟨b', off', e, hlt, hc⟩ := h4 (by omega)
  have e' := Option.some.inj e
  simp at e'
  obtain ⟨rfl, rfl⟩ := e'
  refine ⟨b, off + k * 3, rfl, hlt, fun j v hj => ?_⟩
  rw [← cE_drop xs k (by omega), List.getElem?_drop] at hj
  rw [Nat.add_assoc]
  exact hc _ _ hj

/-- Block g is a row of cap elements, the first N of them xs. -/
def RowE (w : World) (g N cap : Nat) (xs : List El) : Prop :=
  ∃ cur : List Value, w.heap[g]? = some (.cells cur.toArray 50 (0, 0)) ∧ cur.take (N * 3) = cE xs ∧ xs.length = N ∧ N ≤ cap ∧ cap ≤ 9223372036854775807 ∧ cur.length = cap * 3

theorem RowE.fr {S : Nat → Prop} {w w' : World} {g N cap : Nat} {xs : List El} (h : RowE w g N cap xs) (hF : Fr S w w') (hS : ¬ S g) : RowE w' g N cap xs := by
  obtain ⟨cur, hh, r⟩ := h
  exact ⟨cur, hF.keeps hh hS, r⟩
theorem RowE.lt {w : World} {g N cap : Nat} {xs : List El} (h : RowE w g N cap xs) : g < w.heap.size := by
  obtain ⟨cur, hh, _⟩ := h
  exact block_lt hh
theorem RowE.isE {w : World} {g N cap : Nat} {xs : List El} (h : RowE w g N cap xs) : IsE w (some ⟨g, 0, none⟩) N cap xs := by
  obtain ⟨cur, hh, ht, hl, hn, hm, hs⟩ := h
  refine ⟨hl, hn, hm, fun _ => ⟨g, 0, rfl, block_lt hh, fun j v hj => ?_⟩⟩
  rw [Nat.zero_add, cell_row hh, List.getElem?_toArray]
  rw [← ht, List.getElem?_take] at hj
  split at hj
  · exact hj
  · cases hj

theorem Tryz.infoE : (Tryz.prog.info? 50).map (fun i => (i.zero, i.size, i.bytes)) = some (some (.agg #[.int .u8 0, .int .i64 0, .int .i64 0]), 3, 24) := by kernel_rfl

theorem row_emptyE {w : World} {g m : Nat} {cur : List Value} (hg : w.heap[g]? = some (.cells cur.toArray 50 (0, 0))) (hcur : cur = (madeCells #[.int .u8 0, .int .i64 0, .int .i64 0] (m * 3)).toList) (hm : m ≤ 9223372036854775807) : RowE w g 0 m [] := by
  refine ⟨cur, hg, by simp [cE_nil], rfl, Nat.zero_le _, hm, ?_⟩
  rw [hcur]
  simp [madeCells]

/-- append of a text onto a row with room. -/
theorem run_app_roomE (w : World) (g N cap : Nat) (xs : List El) (hR : RowE w g N cap xs) (a : Option Addr) (n c : Nat) (ys : List El) (hE : IsE w a n c ys) (hroom : N + n ≤ cap) :
    ∃ w', (∀ ty, (Builtin.append_ #[25, 25] ty #[.slice (some ⟨g, 0, none⟩) N cap, .slice a n c]).run Tryz.prog w = .ok (.slice (some ⟨g, 0, none⟩) (N + n) cap) w') ∧ RowE w' g (N + n) cap (xs ++ ys) ∧ Fr (· = g) w w' := by
  obtain ⟨i0, hi0, hz0, hz1, hz2⟩ := info_parts Tryz.infoE
  by_cases h0 : n = 0
  · subst h0
    obtain rfl := List.eq_nil_of_length_eq_zero hE.1
    refine ⟨w, fun ty => ?_, by simpa using hR, Fr.refl _ _⟩
    have hl : ∀ (x : Addr), (loadCells x 0).run Tryz.prog w = .ok #[] w := fun x => by simpa using run_loadCells_list (P := Tryz.prog) w x [] (by simp)
    have hc : N ≤ cap := by omega
    cases a <;> simp [Builtin.append_, run_underlying Tryz.underlying25, Builtin.lenOf, Builtin.firstCells, sizeOf, typeInfo, hi0, storeCells, hl, hc]
  · obtain ⟨h1, h2, h3, h4⟩ := hE
    obtain ⟨b, off, rfl, hlt, hc⟩ := h4 (by omega)
    obtain ⟨cur, hh, htk, hvl, hnc, hcm, hcs⟩ := hR
    have hl : (cE ys).length = n * i0.size := by rw [hz1, cE_len, h1]
    have hr := fun ty => run_append_room (P := Tryz.prog) w 25 ty 50 i0 Tryz.underlying25 hi0 g N cap cur.toArray hh ⟨b, off, none⟩ n c (cE ys) hl (fun j v hj => by rw [add_lit]; exact hc j v hj) (cE_one' _) hroom (by rw [hz1, cE_len, h1]; simp [hcs]; omega)
    refine ⟨_, hr, ?_, Fr.setRow _ _ _ rfl⟩
    rw [hz1]
    refine ⟨splice cur (N * 3) (cE ys), ?_, ?_, by simp [hvl, h1], hroom, hcm, ?_⟩
    · have := setRow_heap w g cur.toArray (splice cur (N * 3) (cE ys)).toArray 50 _ hh
      simpa [splice] using this
    · have := splice_take_end cur (N * 3) (cE ys) (by omega)
      rw [cE_len, h1, ← Nat.add_mul, htk] at this
      rw [this, cE_app]
    · rw [length_splice _ _ _ (by rw [cE_len, h1, hcs]; omega), hcs]

/-- append of one element onto a row with room. -/
theorem run_app1E (w : World) (g N cap : Nat) (xs : List El) (hR : RowE w g N cap xs) (x : El) (hroom : N + 1 ≤ cap) :
    ∃ w', (∀ ty, (Builtin.append_ #[25, 25] ty #[.slice (some ⟨g, 0, none⟩) N cap, .slice (some ⟨w.heap.size, 0, none⟩) 1 1]).run Tryz.prog (w.alloc (.cells (elc x).toArray 50)) = .ok (.slice (some ⟨g, 0, none⟩) (N + 1) cap) w') ∧ RowE w' g (N + 1) cap (xs ++ [x]) ∧ Fr (· = g) w w' := by
  have F := Fr.alloc (· = g) w (.cells (elc x).toArray 50)
  have hR' : RowE (w.alloc (.cells (elc x).toArray 50)) g N cap xs := hR.fr (S := fun _ => False) (Fr.alloc _ _ _) (fun h => h)
  have hx : IsE (w.alloc (.cells (elc x).toArray 50)) (some ⟨w.heap.size, 0, none⟩) 1 1 [x] := by
    refine ⟨rfl, Nat.le_refl _, by omega, fun _ => ⟨_, _, rfl, by simp, fun j v hj => ?_⟩⟩
    rw [Nat.zero_add, cell_row (heap_alloc_new _ _)]
    rw [cE_one] at hj
    simpa using hj
  obtain ⟨w', hr, h1, h2⟩ := run_app_roomE _ g N cap xs hR' _ 1 1 [x] hx hroom
  exact ⟨w', hr, h1, F.trans h2⟩

theorem insertIdx_parts (d : List El) (p : Nat) (x : El) (h : p ≤ d.length) : d.insertIdx p x = d.take p ++ ([x] ++ d.drop p) := by
  apply List.ext_getElem?
  intro j
  rw [List.getElem?_insertIdx, List.getElem?_append, List.length_take, Nat.min_eq_left h]
  by_cases h1 : j < p
  · rw [if_pos h1, if_pos h1, List.getElem?_take, if_pos h1]
  · rw [if_neg h1, if_neg h1]
    by_cases h2 : j = p
    · subst h2
      rw [if_pos rfl, if_pos h]
      simp
    · rw [if_neg h2]
      obtain ⟨i, rfl⟩ : ∃ i, j = p + 1 + i := ⟨j - p - 1, by omega⟩
      rw [show p + 1 + i - p = i + 1 by omega, show p + 1 + i - 1 = p + i by omega]
      simp [List.getElem?_drop]

end Go.Proofs.YtilidolbplglcaaGreatDoor

/-! Te -/
namespace Go.Proofs.YtilidolbplglcaaGreatDoor
open Go.RowKit Go.Lib
set_option linter.unusedVariables false

/-- nil, or a row at the block. -/
def SE (w : World) (β : Option Nat) (v : Value) (xs : List El) : Prop :=
  match β with
  | none => v = .slice none 0 0 ∧ xs = []
  | some g => ∃ cap, v = .slice (some ⟨g, 0, none⟩) xs.length cap ∧ RowE w g xs.length cap xs

theorem SE.fr {S : Nat → Prop} {w w' : World} {β : Option Nat} {v : Value} {xs : List El} (h : SE w β v xs) (hF : Fr S w w') (hS : ∀ g, β = some g → ¬ S g) : SE w' β v xs := by
  cases β with
  | none => exact h
  | some g =>
    obtain ⟨cap, hv, hR⟩ := h
    exact ⟨cap, hv, hR.fr hF (hS g rfl)⟩
theorem SE.below {w w' : World} {β : Option Nat} {v : Value} {xs : List El} (h : SE w β v xs) (hb : Below w.heap.size w w') : SE w' β v xs :=
  h.fr (S := fun _ => False) (Fr.of_below hb) (fun _ _ h => h)
theorem SE.lt {w : World} {β : Option Nat} {v : Value} {xs : List El} (h : SE w β v xs) : ∀ g, β = some g → g < w.heap.size := by
  rintro g rfl
  obtain ⟨cap, hv, hR⟩ := h
  exact hR.lt
theorem SE.form {w : World} {β : Option Nat} {v : Value} {xs : List El} (h : SE w β v xs) : ∃ a c, v = .slice a xs.length c ∧ IsE w a xs.length c xs ∧ ∀ b off, a = some ⟨b, off, none⟩ → β = some b := by
  cases β with
  | none =>
    obtain ⟨rfl, rfl⟩ := h
    exact ⟨none, 0, rfl, isE_nil w, fun b off e => by cases e⟩
  | some g =>
    obtain ⟨cap, rfl, hR⟩ := h
    refine ⟨_, cap, rfl, hR.isE, fun b off e => ?_⟩
    have := Option.some.inj e
    simp at this
    rw [this.1]

/-- Put in with room: what lies in the row behind the two copies. -/
theorem shift_take (L : List Value) (xs : List El) (x : El) (i n : Nat) (hx : xs.length = n) (hi : i ≤ n) (hL : (n + 1) * 3 ≤ L.length) (ht : L.take (n * 3) = cE xs) :
    (splice (splice L ((i + 1) * 3) (cE (xs.drop i))) (i * 3) (elc x)).take ((n + 1) * 3) = cE (xs.take i ++ x :: xs.drop i) := by
  have hd' : (cE (xs.drop i)).length = (n - i) * 3 := by rw [cE_len, List.length_drop, hx]
  have h1 : (splice L ((i + 1) * 3) (cE (xs.drop i))).length = L.length := length_splice _ _ _ (by rw [hd']; omega)
  have h2 : (splice L ((i + 1) * 3) (cE (xs.drop i))).take (i * 3) = cE (xs.take i) := by
    rw [splice_take _ _ _ _ (by omega) (by omega), ← cE_take xs i (by omega), ← ht, List.take_take, Nat.min_eq_left (by omega)]
  have h3 : (splice L ((i + 1) * 3) (cE (xs.drop i))).drop (i * 3 + (elc x).length) = cE (xs.drop i) ++ L.drop ((i + 1) * 3 + (cE (xs.drop i)).length) := by
    rw [show i * 3 + (elc x).length = (i + 1) * 3 from by simp [elc]; omega]
    exact splice_drop _ _ _ (by omega)
  rw [show splice (splice L ((i + 1) * 3) (cE (xs.drop i))) (i * 3) (elc x) = cE (xs.take i) ++ (elc x ++ (cE (xs.drop i) ++ L.drop ((i + 1) * 3 + (cE (xs.drop i)).length))) from by
    rw [← h2, ← h3]; rfl]
  have e : cE (xs.take i ++ x :: xs.drop i) = cE (xs.take i) ++ (elc x ++ cE (xs.drop i)) := by rw [cE_app, cE_cons]
  have el : (cE (xs.take i ++ x :: xs.drop i)).length = (n + 1) * 3 := by
    rw [cE_len]; simp; omega
  rw [← List.append_assoc (elc x), ← List.append_assoc (cE (xs.take i)), ← e, ← el, List.take_left]

/-- Take out: what lies in the row. -/
theorem unshift_take (L : List Value) (xs : List El) (z : List Value) (i n : Nat) (hx : xs.length = n) (hi : i < n) (hL : n * 3 ≤ L.length) (ht : L.take (n * 3) = cE xs) :
    (splice (splice L (i * 3) (cE (xs.drop (i + 1)))) ((n - 1) * 3) z).take ((n - 1) * 3) = cE (xs.take i ++ xs.drop (i + 1)) := by
  have hd' : (cE (xs.drop (i + 1))).length = (n - (i + 1)) * 3 := by rw [cE_len, List.length_drop, hx]
  have h1 : (splice L (i * 3) (cE (xs.drop (i + 1)))).length = L.length := length_splice _ _ _ (by rw [hd']; omega)
  rw [splice_take _ _ _ _ (by omega) (by omega)]
  have el : (cE (xs.take i ++ xs.drop (i + 1))).length = (n - 1) * 3 := by
    rw [cE_len]; simp; omega
  have h2 : L.take (i * 3) = cE (xs.take i) := by rw [← cE_take xs i (by omega), ← ht, List.take_take, Nat.min_eq_left (by omega)]
  unfold splice
  rw [h2, ← List.append_assoc, ← cE_app, ← el, List.take_left]

/-- The text at β is now ys, at v. -/
def NowE (w w' : World) (β : Option Nat) (v : Value) (ys : List El) : Prop := ∃ β', SE w' β' v ys ∧ Moved w β β' ∧ Fr (fun k => β = some k) w w'

end Go.Proofs.YtilidolbplglcaaGreatDoor
