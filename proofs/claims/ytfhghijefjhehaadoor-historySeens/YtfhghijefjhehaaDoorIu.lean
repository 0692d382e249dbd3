/-
  HistoryChecks, walked.
-/
import Derived.Test.YtfhghijefjhehaaDoorMG
import Derived.Test.YtfhghijefjhehaaDoorIp
namespace Go.Proofs.YtfhghijefjhehaaDoor
open Go.RowKit
set_option linter.unusedVariables false

set_option maxRecDepth 100000 in
set_option maxHeartbeats 8000000 in
theorem checks_any (C : Int) (aL aE : Option Addr) (nL cL nE cE : Nat) (log : List Ed) (evs : List Ev) (A : Nat → Option Addr) (K : Nat → Nat) (D : Nat → List El) (w : World) (hL : IsL w aL nL log) (hV : IsV w aE nE evs A K) (hX : IsX w evs A D) (hnL : nL ≤ 2932031007402) (hnE : nE ≤ 1466015503701)
    (hD : ∀ j (hj : j < evs.length), evs[j].len ≤ 11728124029610) (hcl : ∀ j (h : j < log.length), 0 ≤ log[j].o.ch ∧ log[j].o.ch ≤ 255) (hce : ∀ j (h : j < evs.length), 0 ≤ evs[j].o.ch ∧ evs[j].o.ch ≤ 255) (hH : Handle w) :
    Calls Tryd.prog 3 #[.agg #[.int .i64 C, .slice aL nL cL, .slice aE nE cE]] w fun e w' => e = .returned (.bool true) ∧ Below w.heap.size w w' := by
  have hb : Below w.heap.size w (w.alloc (.cells #[.int .i64 C, .slice aL nL cL, .slice aE nE cE] 25)) := (Below.refl _ _).alloc (Nat.le_refl _) _
  have hE := hd (heap_alloc_new w (.cells #[.int .i64 C, .slice aL nL cL, .slice aE nE cE] 25))
  have HB := hd hb
  have HL := hd (hL.below hb (Nat.le_refl _))
  have HV := hd (hV.below hb (Nat.le_refl _))
  have HX := hd (hX.below hb (Nat.le_refl _))
  have HHd := hd (hH.below hb hH.pos)
  have HW := hd (show nL ≤ 2932031007402 ∧ nE ≤ 1466015503701 from ⟨hnL, hnE⟩)
  have HD := hd hD
  have HCL := hd hcl
  have HCE := hd hce
  clear hb hL hV hX hH hnL hnE hD hcl hce
  go_enter Tryd.func3, Tryd.ntmps3
  go_upto_region 1 with fail
  generalize w.alloc (.cells #[.int .i64 C, .slice aL nL cL, .slice aE nE cE] 25) = w0 at *
  have x0 := cell_row hE.out 0; have x1 := cell_row hE.out 1; have x2 := cell_row hE.out 2
  simp at x0 x1 x2
  have CP := hd (copied_any C aL aE nL cL nE cE log evs A K D w0 HL.out HV.out HX.out HW.out.1 HW.out.2 HD.out)
  go_wp2_with fail
  refine CP.out.mono ?_
  rintro e u ⟨g1, g2, A', K', rfl, c1, c2, c3, bu⟩
  have CC := hd (check_any C (some ⟨g1, 0, none⟩) (some ⟨g2, 0, none⟩) nL nL nE nE log evs A' K' D u c1 c2 c3 (by have := HW.out.2; omega) HCL.out HCE.out)
  have BU := hd bu
  clear c1 c2 c3 bu CP
  go_wp2_with fail
  refine CC.out.mono ?_
  rintro e u2 ⟨ev, c, p, rfl, b2, hR, hF⟩
  have B2 := hd (BU.out.trans (b2.mono BU.out.size))
  have HR := hd hR
  have HF := hd hF
  have y0 := (B2.out.cell (p := ⟨w.heap.size, 0, none⟩) (block_lt hE.out)).trans x0
  have y1 := (B2.out.cell (p := ⟨w.heap.size, 1, none⟩) (block_lt hE.out)).trans x1
  have y2 := (B2.out.cell (p := ⟨w.heap.size, 2, none⟩) (block_lt hE.out)).trans x2
  have CR := hd (rcheck_any C aL aE nL cL nE cE log evs A K u2 (HL.out.below B2.out (Nat.le_refl _)) (HV.out.below B2.out (Nat.le_refl _)) (by have := HW.out.2; omega))
  clear b2 hR hF CC x0 x1 x2
  go_wp2_with fail
  refine CR.out.mono ?_
  rintro e u3 ⟨c', p', rfl, hR', b3⟩
  obtain ⟨rfl, rfl⟩ := rcs_one HL.out.1 HV.out.1 HR.out hR'
  have B3 := hd (B2.out.trans (b3.mono B2.out.size))
  have H3 := hd (HHd.out.below B3.out HHd.out.pos)
  have CS : Hid (Calls Tryd.prog 8 #[ev, .int .i64 c, .int .i64 p] u3 fun e w' => e = .returned (.bool true) ∧ Below u3.heap.size u3 w') := by
    rcases HF.out with ⟨f1, f2⟩ | ⟨rfl, rfl, rfl⟩
    · exact same_some ev p c u3 (f1.below b3) H3.out f2
    · exact same_none u3
  clear b3 hR' CR HR HF y0 y1 y2
  go_wp2_with fail
  refine CS.out.mono ?_
  rintro e u4 ⟨rfl, b4⟩
  have B4 := hd ((HB.out.trans (B3.out.mono HB.out.size)).trans (b4.mono (Nat.le_trans HB.out.size B3.out.size)))
  clear b4 CS
  go_wp2
  go_ret
  exact ⟨rfl, B4.out⟩

end Go.Proofs.YtfhghijefjhehaaDoor
