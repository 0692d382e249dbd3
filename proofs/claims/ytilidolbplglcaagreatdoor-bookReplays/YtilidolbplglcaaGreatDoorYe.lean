/-
  Of the law: untouched (by wip/tools/gen/bkunt.py).
-/
import Derived.Test.YtilidolbplglcaaGreatDoorMYc
namespace Go.Proofs.YtilidolbplglcaaGreatDoor
open Go.RowKit
set_option linter.unusedVariables false

theorem svRow {w : World} {t : TypeId} {β : Option Nat} {v : Value} {xs : List SV} (h : SF svc 1 w t β v xs) {i : Nat} (hi : i < xs.length) : ∃ g cap, v = .slice (some ⟨g, 0, none⟩) xs.length cap ∧ g < w.heap.size ∧ w.cell? ⟨g, i, none⟩ = some xs[i].val := by
  cases β with
  | none => obtain ⟨-, h⟩ := h; subst h; simp at hi
  | some g =>
    obtain ⟨cap, rfl, hR⟩ := h
    have h2 := hR.cell sz_svc i 0 hi (by omega)
    rw [Nat.mul_one, Nat.add_zero] at h2
    exact ⟨g, cap, rfl, hR.lt, h2⟩
section
variable {w : World} {sx : Nat} {E W D U : List SV} {mk : Int} {vE vW vD vU : Value} {bE bW bD bU : Option Nat}
set_option maxRecDepth 100000 in
set_option maxHeartbeats 8000000 in
theorem untouched_any (hX : ShX w sx E W D U mk vE vW vD vU bE bW bD bU) (hE : PrS edc 6 w E W) (hD : PrS elc 3 w D U) (hEn : E.length ≤ 100) (hDn : D.length ≤ 100) :
    Calls Tryz.prog 15 #[.pointer (some ⟨sx, 0, none⟩)] w fun e w' => e = .returned (.bool true) ∧ Below w.heap.size w w' := by
  obtain ⟨nE, hlE⟩ : ∃ n, E.length = n := ⟨_, rfl⟩
  obtain ⟨nD, hlD⟩ : ∃ n, D.length = n := ⟨_, rfl⟩
  obtain ⟨aE, cE, hvE, -⟩ := hX.e.form
  obtain ⟨aW, cW, hvW, -⟩ := hX.we.form
  obtain ⟨aD, cD, hvD, -⟩ := hX.d.form
  obtain ⟨aU, cU, hvU, -⟩ := hX.wd.form
  rw [hlE] at hvE hEn
  rw [← hE.1, hlE] at hvW
  rw [hlD] at hvD hDn
  rw [← hD.1, hlD] at hvU
  subst hvE hvW hvD hvU
  have HX := hd hX
  have HE := hd hE
  have HD := hd hD
  have HLE := hd hlE
  have HLD := hd hlD
  have HSE := hd hEn
  have HSD := hd hDn
  clear hX hE hD hlE hlD hEn hDn
  go_enter Tryz.func15, Tryz.ntmps15
  go_upto_region 2 with fail
  go_loopw [3] (fun iv wr => ∃ i : Nat, i ≤ nE ∧ iv = .int .i64 (i : Int) ∧ Hid (Below w.heap.size w wr)) (fun iv _ => nE - (intOf iv).toNat)
  case atStart => exact ⟨0, Nat.zero_le _, rfl, Below.refl _ _⟩
  case round =>
    obtain ⟨i, hi, rfl, HB⟩ := hrel
    have hXr := HX.out.below HB.out
    have b0 := cell_row hXr.blk 0
    have b1 := cell_row hXr.blk 1
    simp at b0 b1
    have lsx := block_lt hXr.blk
    by_cases hin : i < nE
    · have hiE : i < E.length := by have := HLE.out; omega
      have hiW : i < W.length := by have := HE.out.1; omega
      obtain ⟨ys, hys, rd1, rd2⟩ := HE.out.2 i hiE hiW
      obtain ⟨g1, cap1, e1, l1, q1⟩ := svRow hXr.e hiE
      obtain ⟨g2, cap2, e2, l2, q2⟩ := svRow hXr.we hiW
      rw [HLE.out] at e1
      rw [← HE.out.1, HLE.out] at e2
      injection e1 with e1 _ _
      injection e2 with e2 _ _
      subst e1 e2
      have CE := hd (fun Wz (hU : Below wr.heap.size wr Wz) => (eqEdits_any E[i].val W[i].val ys Wz ((rd1.below HB.out).below hU) ((rd2.below HB.out).below hU) hys).mono (fun e w' h => And.intro h.1 ((HB.out.trans (hU.mono HB.out.size)).trans (h.2.mono (Nat.le_trans HB.out.size hU.size)))))
      obtain ⟨⟨pa, pn, pc⟩, hp⟩ : ∃ z, E[i] = z := ⟨_, rfl⟩
      obtain ⟨⟨ra, rn, rc⟩, hr⟩ : ∃ z, W[i] = z := ⟨_, rfl⟩
      rw [hp] at q1
      rw [hr] at q2
      rw [hp, hr] at CE
      simp only [SV.val] at q1 q2 CE
      have i1 := gq4 hin
      have w1 := wrn hin (by have := HSE.out; omega)
      have hme := gq3 hin
      clear hXr hp hr rd1 rd2 hys HB
      go_upto_region 4 with fail
      go_region_law (first | (go_simp; go_at_call 8; refine (CE.out _ (by repeat (first | exact Below.refl _ _ | refine Below.drew ?_ | refine below_drewN ?_ _))).mono ?_; rintro e4 u4 ⟨rfl, b4⟩; have B4 := hd b4; clear b4))
      all_goals go_wp2_with fail
      all_goals exact ⟨⟨i + 1, hin, by (try rw [w1]); go_num, B4⟩, by (try rw [w1]); exact meas hme⟩
    · obtain rfl : i = nE := by omega
      have i3 : ¬ ((i : Int) < (i : Int)) := by omega
      clear hXr
      go_upto_region 7 with fail
      clear b0 b1
      have HB0 := hd HB.out
      go_loopw [4] (fun iv wr => ∃ i : Nat, i ≤ nD ∧ iv = .int .i64 (i : Int) ∧ Hid (Below w.heap.size w wr)) (fun iv _ => nD - (intOf iv).toNat)
      case atStart => exact ⟨0, Nat.zero_le _, rfl, HB0⟩
      case round =>
        clear HB HB0 lsx i3 hi hin
        obtain ⟨i, hi, rfl, HB⟩ := hrel
        have hXr := HX.out.below HB.out
        have b2 := cell_row hXr.blk 2
        have b3 := cell_row hXr.blk 3
        simp at b2 b3
        have lsx := block_lt hXr.blk
        by_cases hin : i < nD
        · have hiE : i < D.length := by have := HLD.out; omega
          have hiW : i < U.length := by have := HD.out.1; omega
          obtain ⟨ys, hys, rd1, rd2⟩ := HD.out.2 i hiE hiW
          obtain ⟨g1, cap1, e1, l1, q1⟩ := svRow hXr.d hiE
          obtain ⟨g2, cap2, e2, l2, q2⟩ := svRow hXr.wd hiW
          rw [HLD.out] at e1
          rw [← HD.out.1, HLD.out] at e2
          injection e1 with e1 _ _
          injection e2 with e2 _ _
          subst e1 e2
          have CE := hd (fun Wz (hU : Below wr.heap.size wr Wz) => (eqElems_any D[i].val U[i].val ys Wz ((rd1.below HB.out).below hU) ((rd2.below HB.out).below hU) hys).mono (fun e w' h => And.intro h.1 ((HB.out.trans (hU.mono HB.out.size)).trans (h.2.mono (Nat.le_trans HB.out.size hU.size)))))
          obtain ⟨⟨pa, pn, pc⟩, hp⟩ : ∃ z, D[i] = z := ⟨_, rfl⟩
          obtain ⟨⟨ra, rn, rc⟩, hr⟩ : ∃ z, U[i] = z := ⟨_, rfl⟩
          rw [hp] at q1
          rw [hr] at q2
          rw [hp, hr] at CE
          simp only [SV.val] at q1 q2 CE
          have i1 := gq4 hin
          have w1 := wrn hin (by have := HSD.out; omega)
          have hme := gq3 hin
          clear hXr hp hr rd1 rd2 hys HB
          go_upto_region 9 with fail
          go_region_law (first | (go_simp; go_at_call 11; refine (CE.out _ (by repeat (first | exact Below.refl _ _ | refine Below.drew ?_ | refine below_drewN ?_ _))).mono ?_; rintro e4 u4 ⟨rfl, b4⟩; have B4 := hd b4; clear b4))
          all_goals go_wp2_with fail
          all_goals exact ⟨⟨i + 1, hin, by (try rw [w1]); go_num, B4⟩, by (try rw [w1]); exact meas hme⟩
        · obtain rfl : i = nD := by omega
          have i3 : ¬ ((i : Int) < (i : Int)) := by omega
          go_wp2_with fail
          go_ret
          exact ⟨rfl, HB.out⟩
end

end Go.Proofs.YtilidolbplglcaaGreatDoor
