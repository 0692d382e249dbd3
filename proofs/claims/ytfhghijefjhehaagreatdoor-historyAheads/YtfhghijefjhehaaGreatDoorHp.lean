/-
  The document's can: a client's events that make nothing.
-/
import Derived.Test.YtfhghijefjhehaaGreatDoorHm
import Derived.Deep.RegionHeld3
namespace Go.Proofs.YtfhghijefjhehaaGreatDoor
open Go.RowKit
set_option linter.unusedVariables false

set_option maxRecDepth 100000 in
set_option maxHeartbeats 8000000 in
theorem can_idle (C : Int) (aL aE : Option Addr) (nL cL nE cE i : Nat) (evs : List Ev) (A : Nat → Option Addr) (K : Nat → Nat) (w : World) (hV : IsV w aE nE evs A K) (hi : i < nE) (hil : i < evs.length) (hn : nE ≤ 9223372036854775800)
    (log : List Ed) (hL : IsL w aL nL log) (hn4 : nL ≤ 4096) (kh : Nat) (hkh : evs[i].hav = (kh : Int))
    (hyes : (0 < evs[i].site ∧ evs[i].site ≤ C ∧ stP evs i ≤ evs[i].step ∧ evs[i].len ≤ 4096 ∧ (pv evs i evs[i].site).hav ≤ evs[i].hav ∧ evs[i].hav ≤ (nL : Int)) ∧ evs[i].o = zo) (G : Prop)
    (hG : G ↔ evs[i].made = (pv evs i evs[i].site).made ∧ (((lgAt log kh evs[i].site).length : Nat) : Int) ≤ evs[i].made) :
    Calls Tryz.prog 53 #[.agg #[.int .i64 C, .slice aL nL cL, .slice aE nE cE], .int .i64 i] w fun e w' => ∃ r : Bool, e = .returned (.bool r) ∧ (r = true ↔ G) ∧ Below w.heap.size w w' := by
  obtain ⟨b, off, rfl, s1, q⟩ := hV.2 (by omega)
  have QI := hd (q i hil)
  clear q
  have CB := hd (fun W (h : IsV W (some ⟨b, off, none⟩) nE evs A K) => before_any C aL (some ⟨b, off, none⟩) nL cL nE cE i evs A K W h hi hil hn)
  have i9 : (i : Int) < (nE : Int) := by omega
  have HN := hd hn
  have HIL := hd hil
  have HGd := hd hG
  have HLg := hd hL
  have OA := hd (fun c W (h : IsL W aL nL log) (hk : kh ≤ nL) => ownAmong_any C c aL (some ⟨b, off, none⟩) nL cL nE cE kh log W h hk hn4)
  clear hG hL hn4
  have HK := hd hkh
  clear hkh
  generalize evs[i] = x at *
  obtain ⟨x0, x1, x2, x3, ⟨ok, op, oc, oL, os⟩, xn⟩ := x
  simp only at QI hyes CB HGd HK
  obtain ⟨⟨y1, y2, y3, y4, y5, y6⟩, y7⟩ := hyes
  obtain ⟨rfl, rfl, rfl, rfl, rfl⟩ := OpE.mk.inj y7
  clear y7
  have hk' := HK.out
  subst hk'
  clear HK
  generalize pv evs i x1 = p at *
  have HV := hd hV
  have HI := hd hi
  have HS1 := hd s1
  clear hV hn hil hi s1
  have g0 := box_hist w #[.int .i64 C, .slice aL nL cL, .slice (some ⟨b, off, none⟩) nE cE] 25
  have gb : Below w.heap.size w (w.alloc (.cells #[.int .i64 C, .slice aL nL cL, .slice (some ⟨b, off, none⟩) nE cE] 25)) := (Below.refl _ _).alloc (Nat.le_refl _) _
  have HG := hd g0
  have HB := hd gb
  clear g0 gb
  go_enter Tryz.func53, Tryz.ntmps53
  go_upto_region 1 with fail
  generalize w.alloc (.cells #[.int .i64 C, .slice aL nL cL, .slice (some ⟨b, off, none⟩) nE cE] 25) = w0 at *
  have V0 := hd (HV.out.below HB.out (Nat.le_refl _))
  have Q0 : Hid _ := hd (show _ from QI.out)
  have kk : ∀ j, w0.cell? ⟨b, j, none⟩ = w.cell? ⟨b, j, none⟩ := fun j => HB.out.cell (p := ⟨b, j, none⟩) HS1.out
  obtain ⟨q0, q1, q2, q3, q4, q5, q6, q7, q8, q9⟩ := QI.out
  rw [← kk] at q0 q1 q2 q3 q4 q5 q6 q7 q8 q9
  clear kk Q0 QI HV HS1
  have h2 := cell_row HG.out 2
  simp at h2
  have hE := hd (heap_alloc_new w0 (.cells #[.int .i64 x0, .int .i64 x1, .int .i64 (kh : Int), .int .i64 x3, .int .i64 0, .int .i64 0, .int .u8 0, .int .i64 0, .int .i64 0, .slice (A i) xn (K i)] 76))
  have hb : Hid (Below w0.heap.size w0 (w0.alloc (.cells #[.int .i64 x0, .int .i64 x1, .int .i64 (kh : Int), .int .i64 x3, .int .i64 0, .int .i64 0, .int .u8 0, .int .i64 0, .int .i64 0, .slice (A i) xn (K i)] 76))) := (Below.refl _ _).alloc (Nat.le_refl _) _
  go_upto_region 2 with fail
  generalize w0.alloc (.cells #[.int .i64 x0, .int .i64 x1, .int .i64 (kh : Int), .int .i64 x3, .int .i64 0, .int .i64 0, .int .u8 0, .int .i64 0, .int .i64 0, .slice (A i) xn (K i)] 76) = w1 at *
  clear q0 q1 q2 q3 q4 q5 q6 q7 q8 q9 h2
  have hG1 := hd (block_keep hb.out HG.out (by have := (Array.getElem?_eq_some_iff.1 HG.out).1; omega))
  have c0 := cell_row hG1.out 0; have c1 := cell_row hG1.out 1; have c2 := cell_row hG1.out 2
  simp at c0 c1 c2
  go_wp2_with fail
  refine (CB.out _ (V0.out.below hb.out (Nat.le_refl _))).mono ?_
  rintro e w2 ⟨v, j, rfl, ⟨pst, psi, pk, pp, pc, pl, ps, pa, pcap, rfl⟩, b2⟩
  have lE : w0.heap.size < w1.heap.size := (Array.getElem?_eq_some_iff.1 hE.out).1
  have lG : w.heap.size < w0.heap.size := (Array.getElem?_eq_some_iff.1 HG.out).1
  have hG2 := hd (block_keep b2 hG1.out (by omega))
  have hE2 := hd (block_keep b2 hE.out lE)
  have HB2 := hd ((HB.out.trans (hb.out.mono (by omega))).trans (b2.mono (by omega)))
  have V2 := hd ((V0.out.below hb.out (Nat.le_refl _)).below b2 (Nat.le_refl _))
  have LE : Hid (w0.heap.size < w2.heap.size ∧ w.heap.size < w2.heap.size) := ⟨Nat.lt_of_lt_of_le lE b2.size, by have := b2.size; omega⟩
  clear c0 c1 c2 hG1 hE HB hb b2 lE lG HG V0 CB
  have hP := hd (heap_alloc_new w2 (.cells #[.int .i64 pst, .int .i64 psi, .int .i64 p.hav, .int .i64 p.made, .int .i64 pk, .int .i64 pp, .int .u8 pc, .int .i64 pl, .int .i64 ps, .slice pa p.len pcap] 76))
  have hb : Hid (Below w2.heap.size w2 (w2.alloc (.cells #[.int .i64 pst, .int .i64 psi, .int .i64 p.hav, .int .i64 p.made, .int .i64 pk, .int .i64 pp, .int .u8 pc, .int .i64 pl, .int .i64 ps, .slice pa p.len pcap] 76))) := (Below.refl _ _).alloc (Nat.le_refl _) _
  go_upto_region 3 with fail
  generalize w2.alloc (.cells #[.int .i64 pst, .int .i64 psi, .int .i64 p.hav, .int .i64 p.made, .int .i64 pk, .int .i64 pp, .int .u8 pc, .int .i64 pl, .int .i64 ps, .slice pa p.len pcap] 76) = w3 at *
  have HB3 := hd (HB2.out.trans (hb.out.mono HB2.out.size))
  have L3 := hd (HLg.out.below HB3.out (Nat.le_refl _))
  have V3 := hd (V2.out.below hb.out (Nat.le_refl _))
  have hG3 := hd (block_keep hb.out hG2.out LE.out.2)
  have hE3 := hd (block_keep hb.out hE2.out LE.out.1)
  clear HB2 V2 hG2 hE2 hb LE
  have h0 := cell_row hG3.out 0; have h1 := cell_row hG3.out 1; have h2 := cell_row hG3.out 2
  have e0 := cell_row hE3.out 0; have e1 := cell_row hE3.out 1; have e2 := cell_row hE3.out 2; have e3 := cell_row hE3.out 3; have e4 := cell_row hE3.out 4; have e5 := cell_row hE3.out 5; have e6 := cell_row hE3.out 6; have e7 := cell_row hE3.out 7; have e8 := cell_row hE3.out 8; have e9 := cell_row hE3.out 9
  have p0 := cell_row hP.out 0; have p1 := cell_row hP.out 1; have p2 := cell_row hP.out 2; have p3 := cell_row hP.out 3; have p4 := cell_row hP.out 4; have p5 := cell_row hP.out 5; have p6 := cell_row hP.out 6; have p7 := cell_row hP.out 7; have p8 := cell_row hP.out 8; have p9 := cell_row hP.out 9
  simp at h0 h1 h2 e0 p0 e1 p1 e2 p2 e3 p3 e4 p4 e5 p5 e6 p6 e7 p7 e8 p8 e9 p9
  obtain ⟨st, hst⟩ : ∃ st, stP evs i = st := ⟨_, rfl⟩
  rw [hst] at y3
  have HST := hd hst
  clear hst
  obtain hz | ⟨n, hz⟩ : i = 0 ∨ ∃ n, i = n + 1 := by cases i with | zero => exact .inl rfl | succ n => exact .inr ⟨n, rfl⟩
  · have k1 : ¬ (0 : Int) < (i : Int) := by omega
    have hs0 : st = 0 := by rw [← HST.out, hz]; rfl
    clear HST hz
    subst hs0
    have a1 : ¬ x1 < 0 := by omega
    have a2 : ¬ C < x1 := by omega
    have a3 : ¬ x0 < 0 := by omega
    have a4 : ¬ (4096 : Int) < (xn : Int) := by omega
    have a5 : ¬ (kh : Int) < p.hav := by omega
    have a6 : ¬ (nL : Int) < (kh : Int) := by omega
    have a7 : (x1 == 0) = false := by simp; omega
    have hkn : kh ≤ nL := by omega
    have O1 := hd (OA.out x1)
    have HKN := hd hkn
    clear OA hkn
    have E1 := fun W => opSame 0 0 0 0 0 W
    clear y1 y2 y3 y4 y5 y6
    generalize (lgAt log kh x1).length = n0 at *
    have lG := block_lt hG3.out
    have lE := block_lt hE3.out
    have lP := block_lt hP.out
    by_cases hm : x3 = p.made
    · have km : (x3 == p.made) = true := by simpa using hm
      have HMd := hd hm
      clear hm
      have yG : Hid ((n0 : Int) ≤ x3 ↔ G) := ⟨fun h => HGd.out.2 ⟨HMd.out, h⟩, fun h => (HGd.out.1 h).2⟩
      clear HGd
      go_upto_region 11 with fail
      go_region_held3 (fun W => W.cell? ⟨w.heap.size, 0, none⟩ = some (.int .i64 C) ∧ W.cell? ⟨w.heap.size, 1, none⟩ = some (.slice aL nL cL) ∧ W.cell? ⟨w.heap.size, 2, none⟩ = some (.slice (some ⟨b, off, none⟩) nE cE) ∧ W.cell? ⟨w0.heap.size, 1, none⟩ = some (.int .i64 x1) ∧ W.cell? ⟨w0.heap.size, 2, none⟩ = some (.int .i64 (kh : Int)) ∧ W.cell? ⟨w0.heap.size, 3, none⟩ = some (.int .i64 x3) ∧ W.cell? ⟨w2.heap.size, 3, none⟩ = some (.int .i64 p.made)) (first | (with_reducible exact ⟨by assumption, by assumption, by assumption, by assumption, by assumption, by assumption, by assumption⟩) | (go_keep; done)) (first | (go_at_call 91; refine (O1.out _ (L3.out.below (by first | exact Below.refl _ _ | exact (Below.refl _ _).drew | exact below_drewN (Below.refl _ _) _) (Nat.le_refl _)) HKN.out).mono ?_; rintro e u ⟨rfl, bu⟩; have BU := hd (show Below w3.heap.size w3 u from by first | exact bu | exact ((Below.refl w3.heap.size w3).drew).trans bu | exact (below_drewN (Below.refl w3.heap.size w3) _).trans bu); have BZ := hd (HB3.out.trans (BU.out.mono HB3.out.size)); have j0 := (BU.out.cell (p := ⟨w.heap.size, 0, none⟩) lG).trans h0; have j1 := (BU.out.cell (p := ⟨w.heap.size, 1, none⟩) lG).trans h1; have j2 := (BU.out.cell (p := ⟨w.heap.size, 2, none⟩) lG).trans h2; have j3 := (BU.out.cell (p := ⟨w0.heap.size, 1, none⟩) lE).trans e1; have j4 := (BU.out.cell (p := ⟨w0.heap.size, 2, none⟩) lE).trans e2; have j5 := (BU.out.cell (p := ⟨w0.heap.size, 3, none⟩) lE).trans e3; have j6 := (BU.out.cell (p := ⟨w2.heap.size, 3, none⟩) lP).trans p3; clear bu BU))
      go_wp2
      go_ret
      exact ⟨_, rfl, by rw [decide_eq_true_iff]; exact yG.out, BZ.out⟩
    · have km : (x3 == p.made) = false := by simpa using hm
      have nG : ¬ G := fun h => hm (HGd.out.1 h).1
      have HY := hd nG
      clear HGd nG hm
      go_upto_region 11 with fail
      go_quiet (fail)
      go_wp2
      go_ret
      first
        | exact .inl ⟨rfl, HY.out, below_drewN HB3.out _⟩
        | exact ⟨false, rfl, iff_of_false (by decide) HY.out, below_drewN HB3.out _⟩
  · have k1 : (0 : Int) < (i : Int) := by omega
    have k2 : wrap64 ((i : Int) - 1) = (n : Int) := by have := HN.out; rw [wrap64_id (by omega) (by omega)]; omega
    have k3 : (n : Int) < (nE : Int) := by omega
    have ln : n < evs.length := by have := HIL.out; omega
    obtain ⟨b', off', e', -, q⟩ := V3.out.2 (by omega)
    obtain ⟨rfl, rfl⟩ : b = b' ∧ off = off' := by simpa using e'
    have q0 := (q n ln).1
    have hsn : evs[n].step = st := by rw [← HST.out, hz]; simp [stP, List.getD, List.getElem?_eq_getElem ln]
    rw [hsn] at q0
    clear q e' hsn HST hz
    have a1 : ¬ x1 < 0 := by omega
    have a2 : ¬ C < x1 := by omega
    have a3 : ¬ x0 < st := by omega
    have a4 : ¬ (4096 : Int) < (xn : Int) := by omega
    have a5 : ¬ (kh : Int) < p.hav := by omega
    have a6 : ¬ (nL : Int) < (kh : Int) := by omega
    have a7 : (x1 == 0) = false := by simp; omega
    have hkn : kh ≤ nL := by omega
    have O1 := hd (OA.out x1)
    have HKN := hd hkn
    clear OA hkn
    have E1 := fun W => opSame 0 0 0 0 0 W
    clear y1 y2 y3 y4 y5 y6
    generalize (lgAt log kh x1).length = n0 at *
    have lG := block_lt hG3.out
    have lE := block_lt hE3.out
    have lP := block_lt hP.out
    by_cases hm : x3 = p.made
    · have km : (x3 == p.made) = true := by simpa using hm
      have HMd := hd hm
      clear hm
      have yG : Hid ((n0 : Int) ≤ x3 ↔ G) := ⟨fun h => HGd.out.2 ⟨HMd.out, h⟩, fun h => (HGd.out.1 h).2⟩
      clear HGd
      go_upto_region 11 with fail
      go_region_held3 (fun W => W.cell? ⟨w.heap.size, 0, none⟩ = some (.int .i64 C) ∧ W.cell? ⟨w.heap.size, 1, none⟩ = some (.slice aL nL cL) ∧ W.cell? ⟨w.heap.size, 2, none⟩ = some (.slice (some ⟨b, off, none⟩) nE cE) ∧ W.cell? ⟨w0.heap.size, 1, none⟩ = some (.int .i64 x1) ∧ W.cell? ⟨w0.heap.size, 2, none⟩ = some (.int .i64 (kh : Int)) ∧ W.cell? ⟨w0.heap.size, 3, none⟩ = some (.int .i64 x3) ∧ W.cell? ⟨w2.heap.size, 3, none⟩ = some (.int .i64 p.made)) (first | (with_reducible exact ⟨by assumption, by assumption, by assumption, by assumption, by assumption, by assumption, by assumption⟩) | (go_keep; done)) (first | (go_at_call 91; refine (O1.out _ (L3.out.below (by first | exact Below.refl _ _ | exact (Below.refl _ _).drew | exact below_drewN (Below.refl _ _) _) (Nat.le_refl _)) HKN.out).mono ?_; rintro e u ⟨rfl, bu⟩; have BU := hd (show Below w3.heap.size w3 u from by first | exact bu | exact ((Below.refl w3.heap.size w3).drew).trans bu | exact (below_drewN (Below.refl w3.heap.size w3) _).trans bu); have BZ := hd (HB3.out.trans (BU.out.mono HB3.out.size)); have j0 := (BU.out.cell (p := ⟨w.heap.size, 0, none⟩) lG).trans h0; have j1 := (BU.out.cell (p := ⟨w.heap.size, 1, none⟩) lG).trans h1; have j2 := (BU.out.cell (p := ⟨w.heap.size, 2, none⟩) lG).trans h2; have j3 := (BU.out.cell (p := ⟨w0.heap.size, 1, none⟩) lE).trans e1; have j4 := (BU.out.cell (p := ⟨w0.heap.size, 2, none⟩) lE).trans e2; have j5 := (BU.out.cell (p := ⟨w0.heap.size, 3, none⟩) lE).trans e3; have j6 := (BU.out.cell (p := ⟨w2.heap.size, 3, none⟩) lP).trans p3; clear bu BU))
      go_wp2
      go_ret
      exact ⟨_, rfl, by rw [decide_eq_true_iff]; exact yG.out, BZ.out⟩
    · have km : (x3 == p.made) = false := by simpa using hm
      have nG : ¬ G := fun h => hm (HGd.out.1 h).1
      have HY := hd nG
      clear HGd nG hm
      go_upto_region 11 with fail
      go_quiet (fail)
      go_wp2
      go_ret
      first
        | exact .inl ⟨rfl, HY.out, below_drewN HB3.out _⟩
        | exact ⟨false, rfl, iff_of_false (by decide) HY.out, below_drewN HB3.out _⟩

end Go.Proofs.YtfhghijefjhehaaGreatDoor
