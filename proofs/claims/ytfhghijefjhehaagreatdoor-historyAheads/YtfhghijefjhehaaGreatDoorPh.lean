/-
  A walker of the document: the record of another is taken in: the walk.
-/
import Derived.Test.YtfhghijefjhehaaGreatDoorMPf
namespace Go.Proofs.YtfhghijefjhehaaGreatDoor
open Go.RowKit
set_option linter.unusedVariables false

/-- A form laid in a block of its own. -/
def TB (w wx : World) (g o bx bf : Nat) (β φ ν : Option Nat) (es : List Ed) (k : Wk) (way : List PV) (r : OpE) (nx : List OpE) (v : Value) (f : OpE) : Prop :=
  TH w wx g o bx β φ ν es k way r nx v ∧ wx.heap[bf]? = some (.cells (opc f).toArray 69 (0, 0)) ∧ bf ≠ bx
section
variable {w wx u : World} {g o bx : Nat} {β φ ν : Option Nat} {es : List Ed} {k : Wk} {way : List PV} {r f z : OpE} {nx : List OpE} {v : Value}
theorem TB.late (h : TH w wx g o bx β φ ν es k way r nx v) (hb : Below wx.heap.size wx u) (f : OpE) : TB w (u.alloc (.cells (opc f).toArray 69 (0, 0))) g o bx u.heap.size β φ ν es k way r nx v f :=
  ⟨h.below (hb.alloc hb.size _), heap_alloc_new u _, fun e => by have := block_lt h.ms.ob; have := hb.size; omega⟩
theorem TB.early (h : TH w wx g o bx β φ ν es k way r nx v) (hb : Below wx.heap.size wx u) (hz : u.heap[wx.heap.size]? = some (.cells (opc z).toArray 69 (0, 0))) (f : OpE) : TB w (set5 u wx.heap.size 0 f.kind f.pos f.ch f.cl f.sq) g o bx wx.heap.size β φ ν es k way r nx v f :=
  ⟨h.below (hb.trans ((Fr.set5 u wx.heap.size 0 f.kind f.pos f.ch f.cl f.sq).below hb.size (fun j hj => by omega))), set5_op hz _ _ _ _ _, fun e => by have := block_lt h.ms.ob; omega⟩

set_option maxRecDepth 100000 in
set_option maxHeartbeats 8000000 in
theorem take_other (h : WR w g o β φ ν es k way) (op : OpE) (hg : GW k) (hn : way.length ≤ 100000) (hh : k.hav ≤ 4096) :
    Calls Tryz.prog 57 #[.pointer (some ⟨g, o, none⟩), op.val, .bool false] w fun e w' => (∃ v, e = .returned v) ∧ TkP w g o β φ ν es k way op false w' := by
  have hM := MS.begin h op
  have I0 : Hid (TH w (w.alloc (.cells (opc op).toArray 69)) g o w.heap.size β φ ν es k way (throughP op (k.forms.take 0) false).1 (throughP op (k.forms.take 0) false).2 (.slice none 0 0)) := ⟨hM, ⟨none, ⟨rfl, rfl⟩, fun j hj => (by cases hj)⟩, fun j hj => by
    obtain ⟨vE, vT, vF, vW, hE, hT, hO, hW, -⟩ := h.cells
    exact hO.lt j hj⟩
  have HN := hd hn
  have HG := hd hg
  obtain ⟨n, hnl⟩ : ∃ n, k.forms.length = n := ⟨_, rfl⟩
  have HL := hd hnl
  have hn64 : n ≤ 64 := by have := hg.n; have := hg.f; omega
  obtain ⟨op0, hop0⟩ : ∃ o, op = o := ⟨_, rfl⟩
  obtain ⟨ok, opp, oc, ol, os⟩ := op
  simp only [OpE.val, opc] at I0 ⊢
  clear h hn hM hg hnl hop0 op0
  go_enter Tryz.func57, Tryz.ntmps57
  go_upto_region 1 with fail
  generalize w.alloc (.cells #[.int .i64 ok, .int .i64 opp, .int .u8 oc, .int .i64 ol, .int .i64 os] 69) = w1 at *
  generalize hbx : w.heap.size = bx at *
  have HBX := hd hbx
  clear hbx
  go_wp2_with fail
  go_loopw [6, 7] (fun v i wr => ∃ q : Nat, q ≤ n ∧ i = .int .i64 (q : Int) ∧ Hid (TH w wr g o bx β φ ν es k way (throughP ⟨ok, opp, oc, ol, os⟩ (k.forms.take q) false).1 (throughP ⟨ok, opp, oc, ol, os⟩ (k.forms.take q) false).2 v)) (fun _ i _ => n - (intOf i).toNat)
  case atStart => exact ⟨0, Nat.zero_le _, rfl, I0⟩
  case round =>
    obtain ⟨q, hq, rfl, HR⟩ := hrel
    clear I0
    have hnxl : (throughP ⟨ok, opp, oc, ol, os⟩ (k.forms.take q) false).2.length = q := by rw [throughP_len, List.length_take]; have := HL.out; omega
    obtain ⟨aV, cV, hvV⟩ : ∃ a c, _ = Value.slice a q c := by
      obtain ⟨φn, h1, -⟩ := HR.out.nx
      obtain ⟨a, c, e, -⟩ := h1.is
      rw [hnxl] at e
      exact ⟨a, c, e⟩
    subst hvV
    have HNX := hd hnxl
    clear hnxl
    by_cases hql : q < n
    · have hqf : q < k.forms.length := by have := HL.out; omega
      have hstep := through_take (op := ⟨ok, opp, oc, ol, os⟩) hqf
      obtain ⟨⟨rk, rp, rc, rl, rs⟩, hr⟩ : ∃ r, (throughP ⟨ok, opp, oc, ol, os⟩ (k.forms.take q) false).1 = r := ⟨_, rfl⟩
      obtain ⟨nx, hnx⟩ : ∃ nx, (throughP ⟨ok, opp, oc, ol, os⟩ (k.forms.take q) false).2 = nx := ⟨_, rfl⟩
      obtain ⟨gf, off, cF, d2, hc1, hc2, lgf, ngf, x0, x1, x2, x3, x4⟩ := HR.out.nth hqf
      obtain ⟨⟨xk, xp, xc, xl, xs⟩, hx⟩ : ∃ x, k.forms[q] = x := ⟨_, rfl⟩
      simp only [hx] at x0 x1 x2 x3 x4 hstep
      simp only [hr, hnx] at HR hstep HNX
      rw [HL.out] at d2 hc1
      have HST := hd hstep
      have HXF := hd hx
      obtain ⟨⟨z0, z1, z2, z3, z4⟩, -⟩ := cellsF (show wr.heap[bx]? = some (.cells #[.int .i64 rk, .int .i64 rp, .int .u8 rc, .int .i64 rl, .int .i64 rs] 69 (0, 0)) from HR.out.ms.ob)
      have lg : g < wr.heap.size := HR.out.ms.wr.lt
      have lb : bx < wr.heap.size := block_lt HR.out.ms.ob
      have i1 : (q : Int) < (n : Int) := by omega
      have CS := hd (fun W => rshift_any ⟨xk, xp, xc, xl, xs⟩ ⟨rk, rp, rc, rl, rs⟩ false W)
      have CS2 := hd (fun W => rshift_any ⟨rk, rp, rc, rl, rs⟩ ⟨xk, xp, xc, xl, xs⟩ true W)
      obtain ⟨⟨fk, fp, fc, fl, fs⟩, hf⟩ : ∃ f, shiftP ⟨xk, xp, xc, xl, xs⟩ ⟨rk, rp, rc, rl, rs⟩ false = f := ⟨_, rfl⟩
      obtain ⟨⟨tk, tp, tc, tl, ts⟩, ht⟩ : ∃ f, shiftP ⟨rk, rp, rc, rl, rs⟩ ⟨xk, xp, xc, xl, xs⟩ true = f := ⟨_, rfl⟩
      simp only [hf, ht, OpE.val] at CS CS2 HST
      clear hstep hr hnx hx hf ht
      go_upto_region 7 with fail
      conv => arg 4; zeta
      go_cut [8] (fun q' wx => ∃ bf, q' = .pointer (some ⟨bf, 0, none⟩) ∧ Hid (TB w wx g o bx bf β φ ν es k way ⟨rk, rp, rc, rl, rs⟩ nx (.slice aV q cV) ⟨fk, fp, fc, fl, fs⟩))
      case first =>
        go_region_law ((go_simp; go_at_call 94; refine (CS.out _).mono ?_; rintro e u1 ⟨rfl, b1⟩; have BU := hd (show Below wr.heap.size wr u1 from (show Below wr.heap.size wr _ from (by first | exact (Below.refl _ _).drew | exact below_drewN (Below.refl _ _) _ | exact ((Below.refl _ _).drew).alloc (by simp) _ | exact ((Below.refl _ _).alloc (Nat.le_refl _) _).drew)).trans (b1.mono (by simp))); have ZB := hd (TB.late HR.out BU.out ⟨fk, fp, fc, fl, fs⟩); (first | (have hxz : u1.heap[wr.heap.size]? = some (.cells #[.int .i64 0, .int .i64 0, .int .u8 0, .int .i64 0, .int .i64 0] 69 (0, 0)) := (b1.block wr.heap.size (by simp)).trans (heap_alloc_new wr.drew _); obtain ⟨⟨y0, y1, y2, y3, y4⟩, ⟨g0, g1, g2, g3, g4⟩⟩ := cellsF hxz; have ZA := hd (TB.early (z := zop) HR.out BU.out hxz ⟨fk, fp, fc, fl, fs⟩); clear hxz) | skip); clear b1))
        all_goals go_wp2_with fail
        all_goals go_meet
        all_goals first | exact ⟨_, rfl, ZB⟩ | exact ⟨_, rfl, ZA⟩
      case rest =>
      obtain ⟨bf, rfl, hTB⟩ := hcut
      clear CS d2 x0 x1 x2 x3 x4 z0 z1 z2 z3 z4 hc1 lg lb lgf ngf hc2 gf off cF HR
      obtain ⟨hTH, hbf, nbf⟩ := hTB.out
      obtain ⟨gf, off, cF, d2, hc1, hc2, lgf, ngf, x0, x1, x2, x3, x4⟩ := hTH.nth hqf
      rw [HL.out] at d2 hc1
      have exf : k.forms[q] = ⟨xk, xp, xc, xl, xs⟩ := HXF.out
      simp only [exf] at x0 x1 x2 x3 x4
      obtain ⟨⟨z0, z1, z2, z3, z4⟩, -⟩ := cellsF (show wc.heap[bx]? = some (.cells #[.int .i64 rk, .int .i64 rp, .int .u8 rc, .int .i64 rl, .int .i64 rs] 69 (0, 0)) from hTH.ms.ob)
      have lg : g < wc.heap.size := hTH.ms.wr.lt
      have lb : bx < wc.heap.size := block_lt hTH.ms.ob
      have CO : Hid (∀ W, Below wc.heap.size wc W → Calls Tryz.prog 94 #[.agg #[.int .i64 rk, .int .i64 rp, .int .u8 rc, .int .i64 rl, .int .i64 rs], .agg #[.int .i64 xk, .int .i64 xp, .int .u8 xc, .int .i64 xl, .int .i64 xs], .bool true] W fun e u => e = .returned (.agg #[.int .i64 tk, .int .i64 tp, .int .u8 tc, .int .i64 tl, .int .i64 ts]) ∧ u.heap[bx]? = some (.cells #[.int .i64 rk, .int .i64 rp, .int .u8 rc, .int .i64 rl, .int .i64 rs] 69 (0, 0)) ∧ Hid (TB w (set5 u bx 0 tk tp tc tl ts) g o bx bf β φ ν es k way ⟨tk, tp, tc, tl, ts⟩ nx (.slice aV q cV) ⟨fk, fp, fc, fl, fs⟩)) := fun W hW => (CS2.out W).mono (by
        rintro e u ⟨rfl, hb⟩
        have hB := hW.trans (hb.mono hW.size)
        have h2 := hTH.below hB
        refine ⟨rfl, h2.ms.ob, h2.setop ⟨tk, tp, tc, tl, ts⟩, ?_, nbf⟩
        exact (Fr.set5 u bx 0 tk tp tc tl ts).keeps ((hB.block _ (block_lt hbf)).trans hbf) (fun e => nbf e))
      clear hTB hTH hbf exf CS2
      go_upto_region 8 with fail
      conv => arg 4; zeta
      go_cut [] (fun wx => Hid (TB w wx g o bx bf β φ ν es k way ⟨tk, tp, tc, tl, ts⟩ nx (.slice aV q cV) ⟨fk, fp, fc, fl, fs⟩))
      case first =>
        go_region_law ((go_simp; go_at_call 94; refine (CO.out _ (by first | exact (Below.refl _ _).drew | exact below_drewN (Below.refl _ _) _)).mono ?_; rintro e u1 ⟨rfl, hob, ZT⟩; obtain ⟨⟨y0, y1, y2, y3, y4⟩, ⟨g0, g1, g2, g3, g4⟩⟩ := cellsF hob; clear hob))
        all_goals go_wp2_with fail
        all_goals go_meet
        all_goals exact ZT
      case rest =>
      clear CO d2 x0 x1 x2 x3 x4 z0 z1 z2 z3 z4 hc1 lg lb lgf ngf hc2 gf off cF
      obtain ⟨hTH, hbf, nbf⟩ := hcut.out
      obtain ⟨⟨z0, z1, z2, z3, z4⟩, -⟩ := cellsF (show wc.heap[bf]? = some (.cells #[.int .i64 fk, .int .i64 fp, .int .u8 fc, .int .i64 fl, .int .i64 fs] 69 (0, 0)) from hbf)
      have lbf : bf < wc.heap.size := block_lt hbf
      have b9 : Below wc.heap.size wc (wc.alloc (.cells (opc ⟨fk, fp, fc, fl, fs⟩).toArray 69)) := (Below.refl _ _).alloc (Nat.le_refl _) _
      obtain ⟨aN, cN, w9, hap, hT9⟩ := (hTH.below b9).push ⟨fk, fp, fc, fl, fs⟩ wc.heap.size (heap_alloc_new wc _) (by have := HNX.out; omega)
      rw [HNX.out] at hap hT9
      have ZR : Hid (TH w w9 g o bx β φ ν es k way (throughP ⟨ok, opp, oc, ol, os⟩ (k.forms.take (q + 1)) false).1 (throughP ⟨ok, opp, oc, ol, os⟩ (k.forms.take (q + 1)) false).2 (.slice aN (q + 1) cN)) := by
        rw [HST.out]
        exact hT9
      have hm : n - (q + 1) < n - q := by omega
      simp only [opc] at hap
      clear hcut hTH hbf b9 hT9 HST HNX
      go_wp2_with (at_builtin; refine wpList_append_k _ rfl _ _ 63 63 rfl _ _ rfl rfl (hap _) ?_)
      exact ⟨⟨q + 1, by omega, by go_num, ZR⟩, by simp [intOf]; omega⟩
    · have i1 : ¬ ((q : Int) < (n : Int)) := by omega
      have eq : q = n := by omega
      have HR2 := HR
      rw [show k.forms.take q = k.forms from List.take_of_length_le (by have := HL.out; omega)] at HR2
      obtain ⟨rr, hr⟩ : ∃ r, (throughP ⟨ok, opp, oc, ol, os⟩ k.forms false).1 = r := ⟨_, rfl⟩
      obtain ⟨nx, hnx⟩ : ∃ nx, (throughP ⟨ok, opp, oc, ol, os⟩ k.forms false).2 = nx := ⟨_, rfl⟩
      rw [hr, hnx] at HR2
      have HRR := hd (And.intro hr hnx)
      obtain ⟨rk, rp, rc, rl, rs⟩ := rr
      obtain ⟨vE, vT, vF, vW, -, ⟨βt, hT⟩, hO, -, -, d1, d2, -, d4, -⟩ := HR2.out.ms.wr.cells
      obtain ⟨aT, cT, hvT, -⟩ := hT.form
      subst hvT
      obtain ⟨aF, cF, hvF, -⟩ := hO.is
      subst hvF
      rw [HL.out] at d2
      have f2 := HR2.out.ms.wr.frozen (o + 2)
      have f1 := HR2.out.ms.wr.frozen (o + 1)
      have f4 := HR2.out.ms.wr.frozen (o + 4)
      -- the forms
      have h10 : Hid (∃ φ2, MS w (wr.setCell ⟨g, o + 2, none⟩ (.slice aV q cV)) g o bx β φ ν φ2 ν es ⟨k.still, k.text, nx, k.hav, k.made⟩ way ⟨rk, rp, rc, rl, rs⟩) := by
        obtain ⟨φn, k1, k2⟩ := HR2.out.nx
        obtain ⟨z1, z2, z3⟩ := HR2.out.ms.wr.setForms k1
        exact ⟨φn, HR2.out.ms.put z1 z2 z3 (fun j hj => .inr (k2 j hj))⟩
      clear HR HR2 hr hnx hT hO eq
      go_upto_region 11 with fail
      generalize wr.setCell ⟨g, o + 2, none⟩ (.slice aV q cV) = w2 at *
      clear d1 d2 d4 f1 f2 f4
      obtain ⟨φ2, hM2⟩ := h10.out
      obtain ⟨vE, vT, vF, vW, -, ⟨βt, hT⟩, -, -, -, d1, -, -, -, -⟩ := hM2.wr.cells
      obtain ⟨aT, cT, hvT, -⟩ := hT.form
      subst hvT
      obtain ⟨⟨z0, z1, z2, z3, z4⟩, -⟩ := cellsF (show w2.heap[bx]? = some (.cells #[.int .i64 rk, .int .i64 rp, .int .u8 rc, .int .i64 rl, .int .i64 rs] 69 (0, 0)) from hM2.ob)
      have lg2 : g < w2.heap.size := hM2.wr.lt
      have CA : Hid (∀ W, Below w2.heap.size w2 W → Calls Tryz.prog 30 #[.slice aT (List.length (α := El) k.text) cT, .agg #[.int .i64 rk, .int .i64 rp, .int .u8 rc, .int .i64 rl, .int .i64 rs]] W fun e w' => ∃ a c, e = .returned (.slice a (List.length (α := El) (apE k.text ⟨rk, rp, rc, rl, rs⟩)) c) ∧ (∃ v, w'.cell? ⟨g, o + 1, none⟩ = some v) ∧ w'.frozen? ⟨g, o + 1, none⟩ = false ∧ Hid (MS w (w'.setCell ⟨g, o + 1, none⟩ (.slice a (List.length (α := El) (apE k.text ⟨rk, rp, rc, rl, rs⟩)) c)) g o bx β φ ν φ2 ν es ⟨k.still, apE k.text ⟨rk, rp, rc, rl, rs⟩, nx, k.hav, k.made⟩ way ⟨rk, rp, rc, rl, rs⟩)) := fun W hW => (applied_any (hT.below hW) ⟨rk, rp, rc, rl, rs⟩).mono (by
        rintro e w' ⟨a, c, βt', rfl, hs, hb⟩
        have h2 := hM2.below (hW.trans (hb.mono hW.size))
        obtain ⟨vE, vT, vF, vW, -, -, -, -, -, e1, -⟩ := h2.wr.cells
        exact ⟨a, c, rfl, ⟨_, e1⟩, h2.wr.frozen _, h2.text hs (by rw [ap_len]; exact size_le _ h2.wr.le)⟩)
      clear h10 hT hM2
      conv => arg 4; zeta
      go_cut [] (fun wx => Hid (MS w wx g o bx β φ ν φ2 ν es ⟨k.still, apE k.text ⟨rk, rp, rc, rl, rs⟩, nx, k.hav, k.made⟩ way ⟨rk, rp, rc, rl, rs⟩))
      case first =>
        go_region_law ((go_simp; go_at_call 30; refine (CA.out _ (by first | exact (Below.refl _ _).drew | exact below_drewN (Below.refl _ _) _)).mono ?_; rintro e u1 ⟨a1, k1, rfl, ⟨vv, e1⟩, e2, ZM⟩))
        all_goals go_wp2_with fail
        all_goals go_meet
        all_goals exact ZM
      case rest =>
      clear CA z0 z1 z2 z3 z4 d1
      have hM3 := hcut.out.hav (k.hav + 1)
      have ek : (⟨k.still, apE k.text ⟨rk, rp, rc, rl, rs⟩, nx, k.hav + 1, k.made⟩ : Wk) = k.take apE ⟨ok, opp, oc, ol, os⟩ false := by
        unfold Wk.take
        rw [if_neg (by simp), HRR.out.1, HRR.out.2]
      have e4 : ((k.hav : Int) + 1) = ((k.hav + 1 : Nat) : Int) := by omega
      have EM := hd e4
      simp only at hM3
      rw [ek] at hM3
      have CT := hd (told_any hM3.wr (by have := HN.out; omega))
      have HM3 := hd hM3
      obtain ⟨uE, uT, uF, uW, -, -, -, -, -, -, -, -, q4, -⟩ := hcut.out.wr.cells
      have f4 := hcut.out.wr.frozen (o + 4)
      clear hM3 ek e4 hcut
      go_upto_region 13 with fail
      rw [EM.out]
      go_wp2_with fail
      refine CT.out.mono ?_
      rintro e w9 ⟨⟨vr, rfl⟩, hTP⟩
      obtain ⟨ν2, p, hp, hM9⟩ := HM3.out.told hTP
      have Z := hd (hM9.fin hp)
      clear hTP hM9 hp CT HM3
      go_wp2
      refine bodyPost_end (results_none rfl _ _ _) rfl ?_
      exact ⟨⟨_, rfl⟩, Z.out⟩
end

end Go.Proofs.YtfhghijefjhehaaGreatDoor
