/-
  Texts put together: Hk Hl Hm.
-/
import Derived.Test.YtfhghijefjhehaaDoorMC
import Derived.Test.YtfhghijefjhehaaDoorMD
import Derived.Test.YtfhghijefjhehaaDoorHf
/-! Hk -/
namespace Go.Proofs.YtfhghijefjhehaaDoor
open Go.RowKit
set_option linter.unusedVariables false

set_option maxRecDepth 100000 in
set_option maxHeartbeats 4000000 in
theorem made_in (C : Int) (aL aE : Option Addr) (nL cL nE cE : Nat) (st si ha ok op oc os : Int) (ad : Option Addr) (nd cd : Nat) (pst psi pma pk pp pc pl ps : Int) (pa : Option Addr) (pn pcap : Nat) (log : List Ed) (w : World)
    (hL : IsL w aL nL log) (hn : nL ≤ 4096) (hm : -9223372036854775808 ≤ pma ∧ pma ≤ 9223372036854775800) (hos : os = pma + 1)
    (hch : chP ⟨ok, op, oc, si, os⟩ = true) (G : Prop) (hG : G ↔ fitsP pn ⟨ok, op, oc, si, os⟩ = 0 ∧ ∀ k (h : k < log.length), log[k].o.cl = si → log[k].o.sq = os → log[k] = ⟨ha, ⟨ok, op, oc, si, os⟩⟩) :
    Calls Tryd.prog 31 #[.agg #[.int .i64 C, .slice aL nL cL, .slice aE nE cE], .agg #[.int .i64 st, .int .i64 si, .int .i64 ha, .int .i64 os, .int .i64 ok, .int .i64 op, .int .u8 oc, .int .i64 si, .int .i64 os, .slice ad nd cd], .agg #[.int .i64 pst, .int .i64 psi, .int .i64 ha, .int .i64 pma, .int .i64 pk, .int .i64 pp, .int .u8 pc, .int .i64 pl, .int .i64 ps, .slice pa pn pcap]] w
      fun e w' => ∃ r : Bool, e = .returned (.bool r) ∧ (r = true ↔ G) ∧ Below w.heap.size w w' := by
  have BX := hd (bx_mk w #[.int .i64 C, .slice aL nL cL, .slice aE nE cE] st si ha os ok op oc si os ad nd cd pst psi ha pma pk pp pc pl ps pa pn pcap)
  have CV := hd (fun W => change_any ok op oc si os W)
  have CF := hd (fun W => rfits_any pn ok op oc si os W)
  rw [hch] at CV
  clear hch
  have ew : wrap64 (pma + 1) = os := (wrap64_id (by omega) (by omega)).trans hos.symm
  clear hm hos
  have HL := hd hL
  have HN := hd hn
  have HGd := hd hG
  clear hG
  clear hL hn
  generalize fitsP pn ⟨ok, op, oc, si, os⟩ = ft at *
  go_enter Tryd.func31, Tryd.ntmps31
  go_upto_region 1 with fail
  generalize (((w.alloc (.cells #[.int .i64 C, .slice aL nL cL, .slice aE nE cE] 25)).alloc (.cells #[.int .i64 st, .int .i64 si, .int .i64 ha, .int .i64 os, .int .i64 ok, .int .i64 op, .int .u8 oc, .int .i64 si, .int .i64 os, .slice ad nd cd] 50)).alloc (.cells #[.int .i64 pst, .int .i64 psi, .int .i64 ha, .int .i64 pma, .int .i64 pk, .int .i64 pp, .int .u8 pc, .int .i64 pl, .int .i64 ps, .slice pa pn pcap] 50)) = w0 at *
  have e4 := cell_row BX.out.2.1 4; have e5 := cell_row BX.out.2.1 5; have e6 := cell_row BX.out.2.1 6; have e7 := cell_row BX.out.2.1 7; have e8 := cell_row BX.out.2.1 8
  simp at e4 e5 e6 e7 e8
  go_wp2_with fail
  refine (CV.out _).mono ?_
  rintro e w1 ⟨rfl, b1⟩
  clear e4 e5 e6 e7 e8
  have B1 := hd (BX.out.below b1)
  clear BX b1 CV
  have e1 := cell_row B1.out.2.1 1; have e2 := cell_row B1.out.2.1 2; have e3 := cell_row B1.out.2.1 3; have e4 := cell_row B1.out.2.1 4; have e5 := cell_row B1.out.2.1 5; have e6 := cell_row B1.out.2.1 6; have e7 := cell_row B1.out.2.1 7; have e8 := cell_row B1.out.2.1 8
  have p2 := cell_row B1.out.2.2.1 2; have p3 := cell_row B1.out.2.2.1 3; have p9 := cell_row B1.out.2.2.1 9
  simp at e1 e2 e3 e4 e5 e6 e7 e8 p2 p3 p9
  go_wp2_with fail
  refine (CF.out _).mono ?_
  rintro e w2 ⟨rfl, b2⟩
  have B2 := hd (B1.out.below b2)
  clear e1 e2 e3 e4 e5 e6 e7 e8 p2 p3 p9 B1 b2 CF ew
  by_cases hf : ft = 0
  · subst hf
    have L2 := hd (HL.out.below B2.out.2.2.2.2 (Nat.le_refl _))
    clear HL
    go_wp2_with fail
    go_loopw [7] (fun v wr => ∃ i : Nat, i ≤ nL ∧ v = .int .i64 i ∧ Hid (Below w2.heap.size w2 wr ∧ ∀ k (h : k < log.length), k < i → log[k].o.cl = si → log[k].o.sq = os → log[k] = ⟨ha, ⟨ok, op, oc, si, os⟩⟩)) (fun v _ => nL - (intOf v).toNat)
    case atStart => exact ⟨0, Nat.zero_le _, rfl, Below.refl _ _, fun k _ h => by omega⟩
    case round =>
      obtain ⟨i, hi, rfl, HR⟩ := hrel
      have B3 := hd (B2.out.below HR.out.1)
      have x1 := cell_row B3.out.1 1
      simp at x1
      by_cases hlt : i < nL
      · have l1 : i < log.length := by have := L2.out.1; omega
        obtain ⟨b, off, rfl, s1, q⟩ := (L2.out.below HR.out.1 (Nat.le_refl _)).2 (by omega)
        obtain ⟨q0, q1, q2, q3, q4, q5⟩ := q i l1
        have i1 : (i : Int) < (nL : Int) := by omega
        have HS := hd (show (log[i].o.cl = si → log[i].o.sq = os → log[i] = ⟨ha, ⟨ok, op, oc, si, os⟩⟩) → ∀ k (h : k < log.length), k < i + 1 → log[k].o.cl = si → log[k].o.sq = os → log[k] = ⟨ha, ⟨ok, op, oc, si, os⟩⟩ from fun h k hk hki => by
          by_cases e : k = i
          · subst e; exact h
          · exact HR.out.2 k hk (by omega))
        have HX := hd (show log[i].o.cl = si → log[i].o.sq = os → log[i] ≠ ⟨ha, ⟨ok, op, oc, si, os⟩⟩ → ¬ ∀ k (h : k < log.length), log[k].o.cl = si → log[k].o.sq = os → log[k] = ⟨ha, ⟨ok, op, oc, si, os⟩⟩ from fun h1 h2 h3 h => h3 (h i l1 h1 h2))
        have HW := hd HR.out.1
        have HS1 := hd s1
        clear HR q s1
        generalize log[i] = x at *
        obtain ⟨tg, ⟨xk, xp, xc, xl, xs⟩⟩ := x
        simp only at q0 q1 q2 q3 q4 q5 HS HX
        have hM := hd (heap_alloc_new wr (.cells #[.int .i64 tg, .int .i64 xk, .int .i64 xp, .int .u8 xc, .int .i64 xl, .int .i64 xs] 48))
        have hb : Hid (Below wr.heap.size wr (wr.alloc (.cells #[.int .i64 tg, .int .i64 xk, .int .i64 xp, .int .u8 xc, .int .i64 xl, .int .i64 xs] 48))) := (Below.refl _ _).alloc (Nat.le_refl _) _
        go_upto_region 9 with fail
        generalize wr.alloc (.cells #[.int .i64 tg, .int .i64 xk, .int .i64 xp, .int .u8 xc, .int .i64 xl, .int .i64 xs] 48) = w4 at *
        clear q0 q1 q2 q3 q4 q5 x1
        have B4 := hd (B3.out.below hb.out)
        have HW4 := hd (HW.out.trans (hb.out.mono HW.out.size))
        clear B3 hb HW
        have e1 := cell_row B4.out.2.1 1; have e2 := cell_row B4.out.2.1 2; have e3 := cell_row B4.out.2.1 3; have e4 := cell_row B4.out.2.1 4; have e5 := cell_row B4.out.2.1 5; have e6 := cell_row B4.out.2.1 6; have e7 := cell_row B4.out.2.1 7; have e8 := cell_row B4.out.2.1 8
        have m0 := cell_row hM.out 0; have m1 := cell_row hM.out 1; have m2 := cell_row hM.out 2; have m3 := cell_row hM.out 3; have m4 := cell_row hM.out 4; have m5 := cell_row hM.out 5
        simp at e1 e2 e3 e4 e5 e6 e7 e8 m0 m1 m2 m3 m4 m5
        have E3 : Hid (wrap64 ((i : Int) + 1) = ((i + 1 : Nat) : Int)) := by have := HN.out; rw [Hid, wrap64]; omega
        by_cases h1 : xl = si
        · subst h1
          by_cases h2 : xs = os
          · subst h2
            by_cases h3 : (⟨tg, ⟨xk, xp, xc, xl, xs⟩⟩ : Ed) = ⟨ha, ⟨ok, op, oc, xl, xs⟩⟩
            · obtain ⟨rfl, h4⟩ := Ed.mk.inj h3
              obtain ⟨rfl, rfl, rfl, -, -⟩ := OpE.mk.inj h4
              have E1 := fun W => edSame tg xk xp xc xl xs W
              have Z := hd (HS.out (fun _ _ => rfl))
              clear HS HX h3 h4
              go_wp2
              first
                | exact ⟨⟨i + 1, by omega, by first | trivial | rfl | simp, HW4.out, Z.out⟩, by simp [intOf]; omega⟩
                | (rw [E3.out]; exact ⟨⟨i + 1, by omega, by first | trivial | rfl | simp, HW4.out, Z.out⟩, by simp [intOf]; omega⟩)
            · have E1 := fun W => edNe h3 W
              have Z := hd (HX.out rfl rfl h3)
              clear HS HX h3
              go_wp2
              go_ret
              have nG : ¬ G := fun h => Z.out (HGd.out.1 h).2
              first
                | exact .inl ⟨rfl, nG, B4.out.2.2.2.2⟩
                | exact ⟨false, rfl, iff_of_false (by decide) nG, B4.out.2.2.2.2⟩
          · have k2 : (xs == os) = false := by simpa using h2
            have Z := hd (HS.out (fun _ h => absurd h h2))
            clear HS HX h2
            go_wp2
            first
              | exact ⟨⟨i + 1, by omega, by first | trivial | rfl | simp, HW4.out, Z.out⟩, by simp [intOf]; omega⟩
              | (rw [E3.out]; exact ⟨⟨i + 1, by omega, by first | trivial | rfl | simp, HW4.out, Z.out⟩, by simp [intOf]; omega⟩)
        · have k1 : (xl == si) = false := by simpa using h1
          have Z := hd (HS.out (fun h => absurd h h1))
          clear HS HX h1
          go_wp2
          first
            | exact ⟨⟨i + 1, by omega, by first | trivial | rfl | simp, HW4.out, Z.out⟩, by simp [intOf]; omega⟩
            | (rw [E3.out]; exact ⟨⟨i + 1, by omega, by first | trivial | rfl | simp, HW4.out, Z.out⟩, by simp [intOf]; omega⟩)
      · have i1 : ¬ (i : Int) < (nL : Int) := by omega
        have Z : Hid (∀ k (h : k < log.length), log[k].o.cl = si → log[k].o.sq = os → log[k] = ⟨ha, ⟨ok, op, oc, si, os⟩⟩) := fun k hk => HR.out.2 k hk (by have := L2.out.1; omega)
        clear HR
        go_wp2
        go_ret
        have yG : G := HGd.out.2 ⟨by first | trivial | rfl, Z.out⟩
        first
          | exact .inr ⟨rfl, yG, B3.out.2.2.2.2⟩
          | exact ⟨true, rfl, ⟨fun _ => yG, fun _ => rfl⟩, B3.out.2.2.2.2⟩
  · have kf : (ft != 0) = true := by simpa using hf
    have HF := hd hf
    clear hf
    go_wp2
    go_ret
    have nG : ¬ G := fun h => HF.out (HGd.out.1 h).1
    first
      | exact .inl ⟨rfl, nG, B2.out.2.2.2.2⟩
      | exact ⟨false, rfl, iff_of_false (by decide) nG, B2.out.2.2.2.2⟩

end Go.Proofs.YtfhghijefjhehaaDoor

/-! Hl -/
namespace Go.Proofs.YtfhghijefjhehaaDoor
set_option linter.unusedVariables false

theorem lgAt_filter (log : List Ed) (c : Int) (m : Nat) : ∀ n, m ≤ n → (lgAt log n c).filter (fun j => decide (j < m)) = lgAt log m c
  | 0, h => by
    obtain rfl : m = 0 := by omega
    rfl
  | n + 1, h => by
    by_cases e : m = n + 1
    · subst e
      exact List.filter_eq_self.2 fun j hj => decide_eq_true (lgAt_lt hj).1
    · have ih := lgAt_filter log c m n (by omega)
      simp only [lgAt, List.filter_append, ih]
      cases log[n]? with
      | none => simp
      | some x =>
        by_cases hc : x.o.cl = c
        · have : ¬ n < m := by omega
          simp [hc, this]
        · simp [hc]
theorem ownN_eq (log : List Ed) (c : Int) (m : Nat) (h : m ≤ log.length) : ownN (log := log) m c = (lgAt log m c).length := by
  unfold ownN
  rw [lgAt_filter log c m log.length h]
end Go.Proofs.YtfhghijefjhehaaDoor

/-! Hm -/
namespace Go.Proofs.YtfhghijefjhehaaDoor
open Go.RowKit
set_option linter.unusedVariables false

def stP (evs : List Ev) (i : Nat) : Int := match i with
  | 0 => 0
  | n + 1 => (evs.getD n zev).step

set_option maxRecDepth 100000 in
set_option maxHeartbeats 8000000 in
theorem can_no (C : Int) (aL aE : Option Addr) (nL cL nE cE i : Nat) (evs : List Ev) (A : Nat → Option Addr) (K : Nat → Nat) (w : World) (hV : IsV w aE nE evs A K) (hi : i < nE) (hil : i < evs.length) (hn : nE ≤ 9223372036854775800)
    (hno : ¬ (0 ≤ evs[i].site ∧ evs[i].site ≤ C ∧ stP evs i ≤ evs[i].step ∧ evs[i].len ≤ 4096 ∧ (pv evs i evs[i].site).hav ≤ evs[i].hav ∧ evs[i].hav ≤ (nL : Int))) :
    Calls Tryd.prog 15 #[.agg #[.int .i64 C, .slice aL nL cL, .slice aE nE cE], .int .i64 i] w fun e w' => e = .returned (.bool false) ∧ Below w.heap.size w w' := by
  obtain ⟨b, off, rfl, s1, q⟩ := hV.2 (by omega)
  have QI := hd (q i hil)
  clear q
  have CB := hd (fun W (h : IsV W (some ⟨b, off, none⟩) nE evs A K) => before_any C aL (some ⟨b, off, none⟩) nL cL nE cE i evs A K W h hi hil hn)
  have i9 : (i : Int) < (nE : Int) := by omega
  have HN := hd hn
  have HIL := hd hil
  generalize evs[i] = x at *
  obtain ⟨x0, x1, x2, x3, ⟨ok, op, oc, oL, os⟩, xn⟩ := x
  simp only at QI hno CB
  generalize pv evs i x1 = p at *
  have HV := hd hV
  have HI := hd hi
  have HS1 := hd s1
  clear hV hn hil hi s1
  have g0 := box_hist w #[.int .i64 C, .slice aL nL cL, .slice (some ⟨b, off, none⟩) nE cE] 25
  have gb : Below w.heap.size w (w.alloc (.cells #[.int .i64 C, .slice aL nL cL, .slice (some ⟨b, off, none⟩) nE cE] 25)) := (Below.refl _ _).alloc (Nat.le_refl _) _
  have HG := hd g0
  have HB := hd gb
  clear g0 gb
  go_enter Tryd.func15, Tryd.ntmps15
  go_upto_region 1 with fail
  generalize w.alloc (.cells #[.int .i64 C, .slice aL nL cL, .slice (some ⟨b, off, none⟩) nE cE] 25) = w0 at *
  have V0 := hd (HV.out.below HB.out (Nat.le_refl _))
  have Q0 : Hid _ := hd (show _ from QI.out)
  have kk : ∀ j, w0.cell? ⟨b, j, none⟩ = w.cell? ⟨b, j, none⟩ := fun j => HB.out.cell (p := ⟨b, j, none⟩) HS1.out
  obtain ⟨q0, q1, q2, q3, q4, q5, q6, q7, q8, q9⟩ := QI.out
  rw [← kk] at q0 q1 q2 q3 q4 q5 q6 q7 q8 q9
  clear kk Q0 QI HV HS1
  have h2 := cell_row HG.out 2
  simp at h2
  have hE := hd (heap_alloc_new w0 (.cells #[.int .i64 x0, .int .i64 x1, .int .i64 x2, .int .i64 x3, .int .i64 ok, .int .i64 op, .int .u8 oc, .int .i64 oL, .int .i64 os, .slice (A i) xn (K i)] 50))
  have hb : Hid (Below w0.heap.size w0 (w0.alloc (.cells #[.int .i64 x0, .int .i64 x1, .int .i64 x2, .int .i64 x3, .int .i64 ok, .int .i64 op, .int .u8 oc, .int .i64 oL, .int .i64 os, .slice (A i) xn (K i)] 50))) := (Below.refl _ _).alloc (Nat.le_refl _) _
  go_upto_region 2 with fail
  generalize w0.alloc (.cells #[.int .i64 x0, .int .i64 x1, .int .i64 x2, .int .i64 x3, .int .i64 ok, .int .i64 op, .int .u8 oc, .int .i64 oL, .int .i64 os, .slice (A i) xn (K i)] 50) = w1 at *
  clear q0 q1 q2 q3 q4 q5 q6 q7 q8 q9 h2
  have hG1 := hd (block_keep hb.out HG.out (by have := (Array.getElem?_eq_some_iff.1 HG.out).1; omega))
  have c0 := cell_row hG1.out 0; have c1 := cell_row hG1.out 1; have c2 := cell_row hG1.out 2
  simp at c0 c1 c2
  go_wp2_with fail
  refine (CB.out _ (V0.out.below hb.out (Nat.le_refl _))).mono ?_
  rintro e w2 ⟨v, j, rfl, ⟨pst, psi, pk, pp, pc, pl, ps, pa, pcap, rfl⟩, b2⟩
  have lE : w0.heap.size < w1.heap.size := (Array.getElem?_eq_some_iff.1 hE.out).1
  have lG : w.heap.size < w0.heap.size := (Array.getElem?_eq_some_iff.1 HG.out).1
  have hG2 := hd (block_keep b2 hG1.out (by omega))
  have hE2 := hd (block_keep b2 hE.out lE)
  have HB2 := hd ((HB.out.trans (hb.out.mono (by omega))).trans (b2.mono (by omega)))
  have V2 := hd ((V0.out.below hb.out (Nat.le_refl _)).below b2 (Nat.le_refl _))
  have LE : Hid (w0.heap.size < w2.heap.size ∧ w.heap.size < w2.heap.size) := ⟨Nat.lt_of_lt_of_le lE b2.size, by have := b2.size; omega⟩
  clear c0 c1 c2 hG1 hE HB hb b2 lE lG HG V0 CB
  have hP := hd (heap_alloc_new w2 (.cells #[.int .i64 pst, .int .i64 psi, .int .i64 p.hav, .int .i64 p.made, .int .i64 pk, .int .i64 pp, .int .u8 pc, .int .i64 pl, .int .i64 ps, .slice pa p.len pcap] 50))
  have hb : Hid (Below w2.heap.size w2 (w2.alloc (.cells #[.int .i64 pst, .int .i64 psi, .int .i64 p.hav, .int .i64 p.made, .int .i64 pk, .int .i64 pp, .int .u8 pc, .int .i64 pl, .int .i64 ps, .slice pa p.len pcap] 50))) := (Below.refl _ _).alloc (Nat.le_refl _) _
  go_upto_region 3 with fail
  generalize w2.alloc (.cells #[.int .i64 pst, .int .i64 psi, .int .i64 p.hav, .int .i64 p.made, .int .i64 pk, .int .i64 pp, .int .u8 pc, .int .i64 pl, .int .i64 ps, .slice pa p.len pcap] 50) = w3 at *
  have HB3 := hd (HB2.out.trans (hb.out.mono HB2.out.size))
  have V3 := hd (V2.out.below hb.out (Nat.le_refl _))
  have hG3 := hd (block_keep hb.out hG2.out LE.out.2)
  have hE3 := hd (block_keep hb.out hE2.out LE.out.1)
  clear HB2 V2 hG2 hE2 hb LE
  have h0 := cell_row hG3.out 0; have h1 := cell_row hG3.out 1; have h2 := cell_row hG3.out 2
  have e0 := cell_row hE3.out 0; have e1 := cell_row hE3.out 1; have e2 := cell_row hE3.out 2; have e9 := cell_row hE3.out 9
  have p2 := cell_row hP.out 2
  simp at h0 h1 h2 e0 e1 e2 e9 p2
  obtain ⟨st, hst⟩ : ∃ st, stP evs i = st := ⟨_, rfl⟩
  rw [hst] at hno
  have HST := hd hst
  clear hst
  obtain hz | ⟨n, hz⟩ : i = 0 ∨ ∃ n, i = n + 1 := by cases i with | zero => exact .inl rfl | succ n => exact .inr ⟨n, rfl⟩
  · have k1 : ¬ (0 : Int) < (i : Int) := by omega
    have hs0 : st = 0 := by rw [← HST.out, hz]; rfl
    clear HST hz
    subst hs0
    by_cases a1 : x1 < 0
    · clear hno
      go_wp2
      go_ret
      exact ⟨rfl, HB3.out⟩
    · have h_a1 := trivial
      by_cases a2 : C < x1
      · clear hno
        go_wp2
        go_ret
        exact ⟨rfl, HB3.out⟩
      · have h_a2 := trivial
        by_cases a3 : x0 < 0
        · clear hno
          go_wp2
          go_ret
          exact ⟨rfl, HB3.out⟩
        · have h_a3 := trivial
          by_cases a4 : (4096 : Int) < (xn : Int)
          · clear hno
            go_wp2
            go_ret
            exact ⟨rfl, HB3.out⟩
          · have h_a4 := trivial
            by_cases a5 : x2 < p.hav
            · clear hno
              go_wp2
              go_ret
              exact ⟨rfl, HB3.out⟩
            · have h_a5 := trivial
              have a6 : (nL : Int) < x2 := by
                apply Classical.byContradiction
                intro h
                exact hno ⟨by omega, by omega, by omega, by omega, by omega, by omega⟩
              clear hno
              go_wp2
              go_ret
              exact ⟨rfl, HB3.out⟩
  · have k1 : (0 : Int) < (i : Int) := by omega
    have k2 : wrap64 ((i : Int) - 1) = (n : Int) := by have := HN.out; rw [wrap64_id (by omega) (by omega)]; omega
    have k3 : (n : Int) < (nE : Int) := by omega
    have ln : n < evs.length := by have := HIL.out; omega
    obtain ⟨b', off', e', -, q⟩ := V3.out.2 (by omega)
    obtain ⟨rfl, rfl⟩ : b = b' ∧ off = off' := by simpa using e'
    have q0 := (q n ln).1
    have hsn : evs[n].step = st := by rw [← HST.out, hz]; simp [stP, List.getD, List.getElem?_eq_getElem ln]
    rw [hsn] at q0
    clear q e' hsn HST hz
    by_cases a1 : x1 < 0
    · clear hno
      go_wp2
      go_ret
      exact ⟨rfl, HB3.out⟩
    · have h_a1 := trivial
      by_cases a2 : C < x1
      · clear hno
        go_wp2
        go_ret
        exact ⟨rfl, HB3.out⟩
      · have h_a2 := trivial
        by_cases a3 : x0 < st
        · clear hno
          go_wp2
          go_ret
          exact ⟨rfl, HB3.out⟩
        · have h_a3 := trivial
          by_cases a4 : (4096 : Int) < (xn : Int)
          · clear hno
            go_wp2
            go_ret
            exact ⟨rfl, HB3.out⟩
          · have h_a4 := trivial
            by_cases a5 : x2 < p.hav
            · clear hno
              go_wp2
              go_ret
              exact ⟨rfl, HB3.out⟩
            · have h_a5 := trivial
              have a6 : (nL : Int) < x2 := by
                apply Classical.byContradiction
                intro h
                exact hno ⟨by omega, by omega, by omega, by omega, by omega, by omega⟩
              clear hno
              go_wp2
              go_ret
              exact ⟨rfl, HB3.out⟩

end Go.Proofs.YtfhghijefjhehaaDoor
