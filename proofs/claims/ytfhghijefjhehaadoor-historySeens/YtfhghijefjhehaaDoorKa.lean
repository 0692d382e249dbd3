/-
  HistorySeens, walked.
-/
import Derived.Test.YtfhghijefjhehaaDoorMO
import Derived.Test.YtfhghijefjhehaaDoorJf
import Derived.Test.YtfhghijefjhehaaDoorIu
namespace Go.Proofs.YtfhghijefjhehaaDoor
open Go.RowKit
set_option linter.unusedVariables false

/-- A list of numbers in memory. -/
def IsW (w : World) (a : Option Addr) (n : Nat) (W : Nat → Int) : Prop := 0 < n → ∃ b off, a = some ⟨b, off, none⟩ ∧ b < w.heap.size ∧ ∀ q, q < n → w.cell? ⟨b, off + q, none⟩ = some (.int .i64 (W q))
theorem IsW.below {w w' : World} {a : Option Addr} {n B : Nat} {W : Nat → Int} (h : IsW w a n W) (hb : Below B w w') (hB : w.heap.size ≤ B) : IsW w' a n W := by
  intro hn
  obtain ⟨b, off, e, hlt, hc⟩ := h hn
  exact ⟨b, off, e, Nat.lt_of_lt_of_le hlt hb.size, fun q hq => (hb.cell (p := ⟨b, off + q, none⟩) (show b < B by omega)).trans (hc q hq)⟩

set_option maxRecDepth 100000 in
set_option maxHeartbeats 8000000 in
theorem seens_any (C : Int) (aL aE aW : Option Addr) (nL cL nE cE nW cW : Nat) (log : List Ed) (evs : List Ev) (A : Nat → Option Addr) (K : Nat → Nat) (D : Nat → List El) (W : Nat → Int) (w : World) (hL : IsL w aL nL log) (hV : IsV w aE nE evs A K) (hX : IsX w evs A D) (hWw : IsW w aW nW W) (hnL : nL ≤ 2932031007402) (hnE : nE ≤ 1466015503701) (hnW : nW ≤ 9223372036854775800)
    (hD : ∀ j (hj : j < evs.length), evs[j].len ≤ 11728124029610) (hcl : ∀ j (h : j < log.length), 0 ≤ log[j].o.ch ∧ log[j].o.ch ≤ 255) (hce : ∀ j (h : j < evs.length), 0 ≤ evs[j].o.ch ∧ evs[j].o.ch ≤ 255) (hDw : ∀ j, j < evs.length → ∀ x ∈ D j, wfE x) (hH : Handle w) :
    Calls Tryd.prog 4 #[.agg #[.int .i64 C, .slice aL nL cL, .slice aE nE cE], .slice aW nW cW] w fun e w' => e = .returned (.bool true) ∧ Below w.heap.size w w' := by
  have hb : Below w.heap.size w (w.alloc (.cells #[.int .i64 C, .slice aL nL cL, .slice aE nE cE] 25)) := (Below.refl _ _).alloc (Nat.le_refl _) _
  have HG := hd (heap_alloc_new w (.cells #[.int .i64 C, .slice aL nL cL, .slice aE nE cE] 25))
  have HB := hd hb
  have HL := hd (fun u (hu : Below w.heap.size w u) => hL.below hu (Nat.le_refl _))
  have HV := hd (fun u (hu : Below w.heap.size w u) => hV.below hu (Nat.le_refl _))
  have HX := hd (fun u (hu : Below w.heap.size w u) => hX.below hu (Nat.le_refl _))
  have HWW := hd (fun u (hu : Below w.heap.size w u) => hWw.below hu (Nat.le_refl _))
  have HHd := hd (fun u (hu : Below w.heap.size w u) => hH.below hu hH.pos)
  have HLE := hd (show log.length = nL ∧ evs.length = nE from ⟨hL.1, hV.1⟩)
  have HW := hd (show nL ≤ 2932031007402 ∧ nE ≤ 1466015503701 ∧ nW ≤ 9223372036854775800 from ⟨hnL, hnE, hnW⟩)
  have HD := hd hD
  have HCL := hd hcl
  have HCE := hd hce
  have HDW := hd hDw
  clear hb hL hV hX hWw hnL hnE hnW hD hcl hce hDw hH
  go_enter Tryd.func4, Tryd.ntmps4
  go_upto_region 1 with fail
  generalize w.alloc (.cells #[.int .i64 C, .slice aL nL cL, .slice aE nE cE] 25) = w0 at *
  go_wp2_with fail
  go_loopw [5] (fun v wr => ∃ k : Nat, k ≤ nW ∧ v = .int .i64 k ∧ Hid (Below w.heap.size w wr ∧ wr.heap[w.heap.size]? = some (.cells #[.int .i64 C, .slice aL nL cL, .slice aE nE cE] 25 (0, 0)))) (fun v _ => nW - (intOf v).toNat)
  case atStart => exact ⟨0, Nat.zero_le _, rfl, HB.out, HG.out⟩
  case round =>
    obtain ⟨k, hk, rfl, HR⟩ := hrel
    clear HB HG
    by_cases hlt : k < nW
    · obtain ⟨bw, ow, rfl, lbw, hc⟩ := (HWW.out w (Below.refl _ _)) (by omega)
      have i1 : (k : Int) < (nW : Int) := by omega
      have E3 : wrap64 ((k : Int) + 1) = ((k + 1 : Nat) : Int) := by have := HW.out.2.2; rw [wrap64]; omega
      have CL := hd (fun (u : World) (hu : Below w.heap.size w u) (hg : u.heap[w.heap.size]? = some (.cells #[.int .i64 C, .slice aL nL cL, .slice aE nE cE] 25 (0, 0))) => (show u.cell? ⟨w.heap.size, 0, none⟩ = some (.int .i64 C) ∧ u.cell? ⟨w.heap.size, 1, none⟩ = some (.slice aL nL cL) ∧ u.cell? ⟨w.heap.size, 2, none⟩ = some (.slice aE nE cE) ∧ u.cell? ⟨bw, ow + k, none⟩ = some (.int .i64 (W k)) from
        ⟨by rw [cell_row hg]; rfl, by rw [cell_row hg]; rfl, by rw [cell_row hg]; rfl, (hu.cell (p := ⟨bw, ow + k, none⟩) lbw).trans (hc k hlt)⟩))
      generalize W k = x at *
      obtain ⟨m0, m1, m2, m3⟩ := CL.out wr HR.out.1 HR.out.2
      clear hc
      have BD := hd (show Below w.heap.size w wr.drew from HR.out.1.drew)
      have HGd := hd (show wr.drew.heap[w.heap.size]? = some (.cells #[.int .i64 C, .slice aL nL cL, .slice aE nE cE] 25 (0, 0)) from HR.out.2)
      have CP := hd (copied_any C aL aE nL cL nE cE log evs A K D wr.drew (HL.out _ BD.out) (HV.out _ BD.out) (HX.out _ BD.out) HW.out.1 HW.out.2.1 HD.out)
      have q0 : wr.drew.cell? ⟨w.heap.size, 0, none⟩ = some (.int .i64 C) := m0
      have q1 : wr.drew.cell? ⟨w.heap.size, 1, none⟩ = some (.slice aL nL cL) := m1
      have q2 : wr.drew.cell? ⟨w.heap.size, 2, none⟩ = some (.slice aE nE cE) := m2
      have q3 : wr.drew.cell? ⟨bw, ow + k, none⟩ = some (.int .i64 x) := m3
      go_upto_region 4 with fail
      go_region_held3 (fun U => U.cell? ⟨w.heap.size, 0, none⟩ = some (.int .i64 C) ∧ U.cell? ⟨w.heap.size, 1, none⟩ = some (.slice aL nL cL) ∧ U.cell? ⟨w.heap.size, 2, none⟩ = some (.slice aE nE cE) ∧ U.cell? ⟨bw, ow + k, none⟩ = some (.int .i64 x)) (first | (with_reducible exact ⟨by assumption, by assumption, by assumption, by assumption⟩) | (go_keep; done)) (first
        | (go_at_call 6; refine CP.out.mono ?_; rintro e u ⟨g1, g2, A', K', rfl, c1, c2, c3, bu⟩; have BU := hd (BD.out.trans (bu.mono BD.out.size)); have HGu := hd (block_keep bu HGd.out (block_lt HGd.out)); obtain ⟨d0, d1, d2, d3⟩ := CL.out u BU.out HGu.out; have CS := hd (hseen_any C (some ⟨g1, 0, none⟩) (some ⟨g2, 0, none⟩) nL nL nE nE log evs A' K' D x u c1 c2 c3 HW.out.2.1 HCL.out HCE.out HDW.out ⟨Nat.le_refl _, by have := HW.out.1; omega⟩); clear c1 c2 c3 bu)
        | (go_at_call 9; refine CS.out.mono ?_; rintro e u2 ⟨a, cc, L, ev, c, p, rfl, b2, ht, hS, hF⟩; have BU2 := hd (BU.out.trans (b2.mono BU.out.size)); have HG2 := hd (block_keep b2 HGu.out (block_lt HGu.out)); obtain ⟨e0, e1, e2, e3⟩ := CL.out u2 BU2.out HG2.out; have HO := hd (And.intro ht (And.intro hS hF)); clear b2 ht hS hF))
      clear m0 m1 m2 m3 q0 q1 q2 q3 d0 d1 d2 d3 CP CS BU HGu BD HGd HR
      have BD := hd (show Below w.heap.size w u2.drew from BU2.out.drew)
      have HGd := hd (show u2.drew.heap[w.heap.size]? = some (.cells #[.int .i64 C, .slice aL nL cL, .slice aE nE cE] 25 (0, 0)) from HG2.out)
      have CR := hd (rseen_law C aL aE nL cL nE cE log evs A K D x u2.drew (HL.out _ BD.out) (HV.out _ BD.out) (HX.out _ BD.out) HW.out.2.1 HCE.out HDW.out)
      have q0 : u2.drew.cell? ⟨w.heap.size, 0, none⟩ = some (.int .i64 C) := e0
      have q1 : u2.drew.cell? ⟨w.heap.size, 1, none⟩ = some (.slice aL nL cL) := e1
      have q2 : u2.drew.cell? ⟨w.heap.size, 2, none⟩ = some (.slice aE nE cE) := e2
      have q3 : u2.drew.cell? ⟨bw, ow + k, none⟩ = some (.int .i64 x) := e3
      go_upto_region 5 with fail
      go_region_held3 (fun U => U.cell? ⟨w.heap.size, 0, none⟩ = some (.int .i64 C) ∧ U.cell? ⟨w.heap.size, 1, none⟩ = some (.slice aL nL cL) ∧ U.cell? ⟨w.heap.size, 2, none⟩ = some (.slice aE nE cE) ∧ U.cell? ⟨bw, ow + k, none⟩ = some (.int .i64 x)) (first | (with_reducible exact ⟨by assumption, by assumption, by assumption, by assumption⟩) | (go_keep; done)) (first
        | (go_at_call 10; refine CR.out.mono ?_; rintro e u3 ⟨a', cc', L', c', p', rfl, b3, ht, hS, hlen'⟩; have BU3 := hd (BD.out.trans (b3.mono BD.out.size)); have HG3 := hd (block_keep b3 HGd.out (block_lt HGd.out)); obtain ⟨f0, f1, f2, f3⟩ := CL.out u3 BU3.out HG3.out; have HO' := hd (And.intro ht (And.intro hS b3)); have HLN := hd hlen'; clear b3 ht hS hlen'))
      obtain ⟨rfl, rfl, rfl⟩ := sep_one HLE.out.1 HLE.out.2 HO.out.2.1 HO'.out.2.1
      have hlen : Hid (L.length ≤ 9223372036854775807) := Nat.le_trans HLN.out (by omega)
      have CD := hd (sameDoc_true a a' cc cc' L u3 (IsTx.below (w := u2.drew) HO.out.1 HO'.out.2.2 (Nat.le_refl _)) HO'.out.1 hlen.out)
      have CE : Hid (∀ m, Calls Tryd.prog 8 #[ev, .int .i64 c, .int .i64 p] (u3.drewN m) fun e w' => e = .returned (.bool true) ∧ Below u3.heap.size (u3.drewN m) w') := by
        intro m
        rcases HO.out.2.2 with ⟨h1, h2⟩ | ⟨rfl, rfl, rfl⟩
        · exact same_some ev p c (u3.drewN m) (IsF.below (w := u3) (IsF.below (w := u2.drew) h1 HO'.out.2.2) (below_drewN (Below.refl _ _) m)) (HHd.out _ (below_drewN BU3.out m)) h2
        · exact same_none (u3.drewN m)
      clear e0 e1 e2 e3 q0 q1 q2 q3 f0 f1 f2 f3 CR HO HO' BU2 HG2 BD HGd CL
      go_wp2_with fail
      refine CD.out.mono ?_
      rintro e u4 ⟨rfl, m, rfl⟩
      go_wp2_with fail
      refine (CE.out m).mono ?_
      rintro e u5 ⟨rfl, b5⟩
      have Z : Hid (Below w.heap.size w u5 ∧ u5.heap[w.heap.size]? = some (.cells #[.int .i64 C, .slice aL nL cL, .slice aE nE cE] 25 (0, 0))) := ⟨(below_drewN BU3.out m).trans (b5.mono BU3.out.size), (b5.block _ (block_lt HG3.out)).trans HG3.out⟩
      clear CD CE b5 BU3 HG3
      go_wp2
      exact ⟨⟨k + 1, by omega, by rw [E3], Z.out⟩, by rw [E3]; simp only [intOf, Int.toNat_natCast]; omega⟩
    · obtain rfl : k = nW := by omega
      go_wp2
      go_ret
      exact ⟨rfl, HR.out.1⟩

end Go.Proofs.YtfhghijefjhehaaDoor
