/-
  The document's made: from the call of Fits on.
-/
import Derived.Test.YtfhghijefjhehaaGreatDoorMIc
import Derived.Test.YtfhghijefjhehaaGreatDoorMIh
namespace Go.Proofs.YtfhghijefjhehaaGreatDoor
open Go.RowKit
set_option linter.unusedVariables false

set_option maxRecDepth 100000 in
set_option maxHeartbeats 4000000 in
theorem made_in (C : Int) (aL aE : Option Addr) (nL cL nE cE : Nat) (st si ha ok op oc os : Int) (ad : Option Addr) (nd cd : Nat) (pst psi pma pk pp pc pl ps : Int) (pa : Option Addr) (pn pcap : Nat) (log : List Ed) (w : World)
    (hL : IsL w aL nL log) (hn : nL ≤ 4096) (hm : -9223372036854775808 ≤ pma ∧ pma ≤ 9223372036854775800) (hos : os = pma + 1)
    (hch : chP ⟨ok, op, oc, si, os⟩ = true) (G : Prop) (hG : G ↔ fitsP pn ⟨ok, op, oc, si, os⟩ = 0 ∧ ∀ k (h : k < log.length), log[k].o.cl = si → log[k].o.sq = os → log[k] = ⟨ha, ⟨ok, op, oc, si, os⟩⟩) :
    Calls Tryz.prog 92 #[.agg #[.int .i64 C, .slice aL nL cL, .slice aE nE cE], .agg #[.int .i64 st, .int .i64 si, .int .i64 ha, .int .i64 os, .int .i64 ok, .int .i64 op, .int .u8 oc, .int .i64 si, .int .i64 os, .slice ad nd cd], .agg #[.int .i64 pst, .int .i64 psi, .int .i64 ha, .int .i64 pma, .int .i64 pk, .int .i64 pp, .int .u8 pc, .int .i64 pl, .int .i64 ps, .slice pa pn pcap]] w
      fun e w' => ∃ r : Bool, e = .returned (.bool r) ∧ (r = true ↔ G) ∧ Below w.heap.size w w' := by
  have BX := hd (bx_mk w #[.int .i64 C, .slice aL nL cL, .slice aE nE cE] st si ha os ok op oc si os ad nd cd pst psi ha pma pk pp pc pl ps pa pn pcap)
  have CV := hd (fun W => change_any ok op oc si os W)
  have CF := hd (fun W => rfits_any pn ok op oc si os W)
  rw [hch] at CV
  clear hch
  have ew : wrap64 (pma + 1) = os := (wrap64_id (by omega) (by omega)).trans hos.symm
  clear hm hos
  have HL := hd hL
  have HN := hd hn
  have HGd := hd hG
  clear hG
  clear hL hn
  generalize fitsP pn ⟨ok, op, oc, si, os⟩ = ft at *
  go_enter Tryz.func92, Tryz.ntmps92
  go_upto_region 1 with fail
  generalize (((w.alloc (.cells #[.int .i64 C, .slice aL nL cL, .slice aE nE cE] 25)).alloc (.cells #[.int .i64 st, .int .i64 si, .int .i64 ha, .int .i64 os, .int .i64 ok, .int .i64 op, .int .u8 oc, .int .i64 si, .int .i64 os, .slice ad nd cd] 76)).alloc (.cells #[.int .i64 pst, .int .i64 psi, .int .i64 ha, .int .i64 pma, .int .i64 pk, .int .i64 pp, .int .u8 pc, .int .i64 pl, .int .i64 ps, .slice pa pn pcap] 76)) = w0 at *
  have e4 := cell_row BX.out.2.1 4; have e5 := cell_row BX.out.2.1 5; have e6 := cell_row BX.out.2.1 6; have e7 := cell_row BX.out.2.1 7; have e8 := cell_row BX.out.2.1 8
  simp at e4 e5 e6 e7 e8
  go_wp2_with fail
  refine (CV.out _).mono ?_
  rintro e w1 ⟨rfl, b1⟩
  clear e4 e5 e6 e7 e8
  have B1 := hd (BX.out.below b1)
  clear BX b1 CV
  have e1 := cell_row B1.out.2.1 1; have e2 := cell_row B1.out.2.1 2; have e3 := cell_row B1.out.2.1 3; have e4 := cell_row B1.out.2.1 4; have e5 := cell_row B1.out.2.1 5; have e6 := cell_row B1.out.2.1 6; have e7 := cell_row B1.out.2.1 7; have e8 := cell_row B1.out.2.1 8
  have p2 := cell_row B1.out.2.2.1 2; have p3 := cell_row B1.out.2.2.1 3; have p9 := cell_row B1.out.2.2.1 9
  simp at e1 e2 e3 e4 e5 e6 e7 e8 p2 p3 p9
  go_wp2_with fail
  refine (CF.out _).mono ?_
  rintro e w2 ⟨rfl, b2⟩
  have B2 := hd (B1.out.below b2)
  clear e1 e2 e3 e4 e5 e6 e7 e8 p2 p3 p9 B1 b2 CF ew
  by_cases hf : ft = 0
  · subst hf
    have L2 := hd (HL.out.below B2.out.2.2.2.2 (Nat.le_refl _))
    clear HL
    go_wp2_with fail
    go_loopw [7] (fun v wr => ∃ i : Nat, i ≤ nL ∧ v = .int .i64 i ∧ Hid (Below w2.heap.size w2 wr ∧ ∀ k (h : k < log.length), k < i → log[k].o.cl = si → log[k].o.sq = os → log[k] = ⟨ha, ⟨ok, op, oc, si, os⟩⟩)) (fun v _ => nL - (intOf v).toNat)
    case atStart => exact ⟨0, Nat.zero_le _, rfl, Below.refl _ _, fun k _ h => by omega⟩
    case round =>
      obtain ⟨i, hi, rfl, HR⟩ := hrel
      have B3 := hd (B2.out.below HR.out.1)
      have x1 := cell_row B3.out.1 1
      simp at x1
      by_cases hlt : i < nL
      · have l1 : i < log.length := by have := L2.out.1; omega
        obtain ⟨b, off, rfl, s1, q⟩ := (L2.out.below HR.out.1 (Nat.le_refl _)).2 (by omega)
        obtain ⟨q0, q1, q2, q3, q4, q5⟩ := q i l1
        have i1 : (i : Int) < (nL : Int) := by omega
        have HS := hd (show (log[i].o.cl = si → log[i].o.sq = os → log[i] = ⟨ha, ⟨ok, op, oc, si, os⟩⟩) → ∀ k (h : k < log.length), k < i + 1 → log[k].o.cl = si → log[k].o.sq = os → log[k] = ⟨ha, ⟨ok, op, oc, si, os⟩⟩ from fun h k hk hki => by
          by_cases e : k = i
          · subst e; exact h
          · exact HR.out.2 k hk (by omega))
        have HX := hd (show log[i].o.cl = si → log[i].o.sq = os → log[i] ≠ ⟨ha, ⟨ok, op, oc, si, os⟩⟩ → ¬ ∀ k (h : k < log.length), log[k].o.cl = si → log[k].o.sq = os → log[k] = ⟨ha, ⟨ok, op, oc, si, os⟩⟩ from fun h1 h2 h3 h => h3 (h i l1 h1 h2))
        have HW := hd HR.out.1
        have HS1 := hd s1
        clear HR q s1
        generalize log[i] = x at *
        obtain ⟨tg, ⟨xk, xp, xc, xl, xs⟩⟩ := x
        simp only at q0 q1 q2 q3 q4 q5 HS HX
        have hM := hd (heap_alloc_new wr (.cells #[.int .i64 tg, .int .i64 xk, .int .i64 xp, .int .u8 xc, .int .i64 xl, .int .i64 xs] 74))
        have hb : Hid (Below wr.heap.size wr (wr.alloc (.cells #[.int .i64 tg, .int .i64 xk, .int .i64 xp, .int .u8 xc, .int .i64 xl, .int .i64 xs] 74))) := (Below.refl _ _).alloc (Nat.le_refl _) _
        go_upto_region 9 with fail
        generalize wr.alloc (.cells #[.int .i64 tg, .int .i64 xk, .int .i64 xp, .int .u8 xc, .int .i64 xl, .int .i64 xs] 74) = w4 at *
        clear q0 q1 q2 q3 q4 q5 x1
        have B4 := hd (B3.out.below hb.out)
        have HW4 := hd (HW.out.trans (hb.out.mono HW.out.size))
        clear B3 hb HW
        have e1 := cell_row B4.out.2.1 1; have e2 := cell_row B4.out.2.1 2; have e3 := cell_row B4.out.2.1 3; have e4 := cell_row B4.out.2.1 4; have e5 := cell_row B4.out.2.1 5; have e6 := cell_row B4.out.2.1 6; have e7 := cell_row B4.out.2.1 7; have e8 := cell_row B4.out.2.1 8
        have m0 := cell_row hM.out 0; have m1 := cell_row hM.out 1; have m2 := cell_row hM.out 2; have m3 := cell_row hM.out 3; have m4 := cell_row hM.out 4; have m5 := cell_row hM.out 5
        simp at e1 e2 e3 e4 e5 e6 e7 e8 m0 m1 m2 m3 m4 m5
        have E3 : Hid (wrap64 ((i : Int) + 1) = ((i + 1 : Nat) : Int)) := by have := HN.out; rw [Hid, wrap64]; omega
        by_cases h1 : xl = si
        · subst h1
          by_cases h2 : xs = os
          · subst h2
            by_cases h3 : (⟨tg, ⟨xk, xp, xc, xl, xs⟩⟩ : Ed) = ⟨ha, ⟨ok, op, oc, xl, xs⟩⟩
            · obtain ⟨rfl, h4⟩ := Ed.mk.inj h3
              obtain ⟨rfl, rfl, rfl, -, -⟩ := OpE.mk.inj h4
              have E1 := fun W => edSame tg xk xp xc xl xs W
              have Z := hd (HS.out (fun _ _ => rfl))
              clear HS HX h3 h4
              go_wp2
              first
                | exact ⟨⟨i + 1, by omega, by first | trivial | rfl | simp, HW4.out, Z.out⟩, by simp [intOf]; omega⟩
                | (rw [E3.out]; exact ⟨⟨i + 1, by omega, by first | trivial | rfl | simp, HW4.out, Z.out⟩, by simp [intOf]; omega⟩)
            · have E1 := fun W => edNe h3 W
              have Z := hd (HX.out rfl rfl h3)
              clear HS HX h3
              go_wp2
              go_ret
              have nG : ¬ G := fun h => Z.out (HGd.out.1 h).2
              first
                | exact .inl ⟨rfl, nG, B4.out.2.2.2.2⟩
                | exact ⟨false, rfl, iff_of_false (by decide) nG, B4.out.2.2.2.2⟩
          · have k2 : (xs == os) = false := by simpa using h2
            have Z := hd (HS.out (fun _ h => absurd h h2))
            clear HS HX h2
            go_wp2
            first
              | exact ⟨⟨i + 1, by omega, by first | trivial | rfl | simp, HW4.out, Z.out⟩, by simp [intOf]; omega⟩
              | (rw [E3.out]; exact ⟨⟨i + 1, by omega, by first | trivial | rfl | simp, HW4.out, Z.out⟩, by simp [intOf]; omega⟩)
        · have k1 : (xl == si) = false := by simpa using h1
          have Z := hd (HS.out (fun h => absurd h h1))
          clear HS HX h1
          go_wp2
          first
            | exact ⟨⟨i + 1, by omega, by first | trivial | rfl | simp, HW4.out, Z.out⟩, by simp [intOf]; omega⟩
            | (rw [E3.out]; exact ⟨⟨i + 1, by omega, by first | trivial | rfl | simp, HW4.out, Z.out⟩, by simp [intOf]; omega⟩)
      · have i1 : ¬ (i : Int) < (nL : Int) := by omega
        have Z : Hid (∀ k (h : k < log.length), log[k].o.cl = si → log[k].o.sq = os → log[k] = ⟨ha, ⟨ok, op, oc, si, os⟩⟩) := fun k hk => HR.out.2 k hk (by have := L2.out.1; omega)
        clear HR
        go_wp2
        go_ret
        have yG : G := HGd.out.2 ⟨by first | trivial | rfl, Z.out⟩
        first
          | exact .inr ⟨rfl, yG, B3.out.2.2.2.2⟩
          | exact ⟨true, rfl, ⟨fun _ => yG, fun _ => rfl⟩, B3.out.2.2.2.2⟩
  · have kf : (ft != 0) = true := by simpa using hf
    have HF := hd hf
    clear hf
    go_wp2
    go_ret
    have nG : ¬ G := fun h => HF.out (HGd.out.1 h).1
    first
      | exact .inl ⟨rfl, nG, B2.out.2.2.2.2⟩
      | exact ⟨false, rfl, iff_of_false (by decide) nG, B2.out.2.2.2.2⟩

end Go.Proofs.YtfhghijefjhehaaGreatDoor
