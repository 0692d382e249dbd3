/-
  The law BookReplays (by wip/tools/gen/bklaw.py).
-/
import Derived.Test.YtilidolbplglcaaGreatDoorYf
namespace Go.Proofs.YtilidolbplglcaaGreatDoor
open Go.RowKit
set_option linter.unusedVariables false

set_option maxRecDepth 100000 in
set_option maxHeartbeats 16000000 in
theorem bookReplays_any (aE aO : Option Addr) (nE cE nO cO : Nat) (es os : List Ed) (w : World) (hE : IsL w aE nE es) (hO : IsL w aO nO os) (hcE : ∀ e ∈ es, OkOp e.o) (hcO : ∀ e ∈ os, OkOp e.o) (hT : Table w) (hH : Handle w) (bE : nE ≤ 2932031007402) (bO : nO ≤ 2932031007402) :
    Calls Tryz.prog 3 #[.slice aE nE cE, .slice aO nO cO] w fun e w' => e = .returned (.bool true) ∧ Below w.heap.size w w' := by
  have HE := hd hE
  have HO := hd hO
  have HCE := hd hcE
  have HCO := hd hcO
  have HT := hd hT
  have HH := hd hH
  have HBE := hd bE
  have HBO := hd bO
  have M0 : Hid (∃ F : Nat → Thg, MO w w NoK F) := ⟨_, MO.nil w⟩
  clear hE hO hcE hcO hT hH bE bO
  go_enter Tryz.func3, Tryz.ntmps3
  go_upto_region 3 with (go_at_call 4; refine (replayFixed_any w HT.out).mono ?_; rintro e1 w1 ⟨rfl, b1⟩)
  have B1 := hd b1
  have M1 : Hid (∃ F : Nat → Thg, MO w w1 NoK F) := by
    obtain ⟨F, hM⟩ := M0.out
    exact ⟨_, hM.below b1⟩
  clear b1 M0
  have C3 := hd (breplay_any aE nE cE es w1 (HE.out.below B1.out (Nat.le_refl _)))
  go_upto_region 4 with (go_at_call 5; refine C3.out.mono ?_; rintro e1 w2 ⟨rD, rT, cd, at1, rfl, hR⟩)
  obtain ⟨D, hrep, hD4, hT4, ⟨β11, k1, k2⟩, β12, k3, k4⟩ := hR.of
  have HREP := hd hrep
  have HD4 := hd (And.intro hD4 hT4)
  have B2 := hd (B1.out.trans (hR.bel.mono B1.out.size))
  have M2 : Hid (∃ F : Nat → Thg, MO w w2 NoK F ∧ F 11 = lsO opc 5 46 β11 rD D ∧ F 12 = lsO elc 3 50 β12 rT (runP [] D)) := by
    obtain ⟨F, hM⟩ := M1.out
    exact ⟨_, mo_two hM hR.bel 11 12 (by decide) k1 k2 k3 k4, (setO_other _ _ (by decide)).trans (setO_same _ _ _), setO_same _ _ _⟩
  clear C3 hR hrep hD4 hT4 k1 k2 k3 k4 M1
  have C4 := hd (breplay_any aO nO cO os w2 (HO.out.below B2.out (Nat.le_refl _)))
  go_upto_region 5 with (go_at_call 5; refine C4.out.mono ?_; rintro e1 w3 ⟨rD2, rT2, cd2, at2, rfl, hR⟩)
  obtain ⟨D2, hrep, hD4, hT4, ⟨β13, k1, k2⟩, β14, k3, k4⟩ := hR.of
  have HREP2 := hd hrep
  have HD42 := hd (And.intro hD4 hT4)
  have B3 := hd (B2.out.trans (hR.bel.mono B2.out.size))
  have M3 : Hid (∃ F : Nat → Thg, MO w w3 NoK F ∧ F 11 = lsO opc 5 46 β11 rD D ∧ F 12 = lsO elc 3 50 β12 rT (runP [] D) ∧ F 13 = lsO opc 5 46 β13 rD2 D2 ∧ F 14 = lsO elc 3 50 β14 rT2 (runP [] D2)) := by
    obtain ⟨F, hM, f11, f12⟩ := M2.out
    exact ⟨_, mo_two hM hR.bel 13 14 (by decide) k1 k2 k3 k4, (setO_other _ _ (by decide)).trans ((setO_other _ _ (by decide)).trans (f11)), (setO_other _ _ (by decide)).trans ((setO_other _ _ (by decide)).trans (f12)), (setO_other _ _ (by decide)).trans (setO_same _ _ _), setO_same _ _ _⟩
  clear C4 hR hrep hD4 hT4 k1 k2 k3 k4 M2 B1
  obtain ⟨aA, caA, w4, hap, ⟨βaA, hA, lA⟩, b4⟩ := run_cpEd w3 (.slice aE nE cE) es (IsL.rd (HE.out.below B3.out (Nat.le_refl _))) (by rw [HE.out.1]; exact HBE.out)
  have HAP := hd hap
  have B4 := hd (B3.out.trans (b4.mono B3.out.size))
  have M4 : Hid (∃ F : Nat → Thg, MO w w4 NoK F ∧ F 1 = lsO edc 6 48 βaA (.slice aA es.length caA) es ∧ F 11 = lsO opc 5 46 β11 rD D ∧ F 12 = lsO elc 3 50 β12 rT (runP [] D) ∧ F 13 = lsO opc 5 46 β13 rD2 D2 ∧ F 14 = lsO elc 3 50 β14 rT2 (runP [] D2)) := by
    obtain ⟨F, hM, f11, f12, f13, f14⟩ := M3.out
    exact ⟨_, hM.put 1 (frm_ls _ _ _ _ _ _) (S' := fun g => βaA = some g) ⟨hA, fun _ => Iff.rfl⟩ lA b4, setO_same _ _ _, (setO_other _ _ (by decide)).trans (f11), (setO_other _ _ (by decide)).trans (f12), (setO_other _ _ (by decide)).trans (f13), (setO_other _ _ (by decide)).trans (f14)⟩
  have HA := hd hA
  clear hap hA lA b4 M3
  go_upto_region 6 with (at_builtin; refine wpList_append_k _ rfl _ _ 22 22 rfl _ _ rfl rfl (HAP.out _) ?_)
  clear HAP
  obtain ⟨aB, caB, w5, hap, ⟨βaB, hA, lA⟩, b4⟩ := run_cpEd w4 (.slice aO nO cO) os (IsL.rd (HO.out.below B4.out (Nat.le_refl _))) (by rw [HO.out.1]; exact HBO.out)
  have HAP := hd hap
  have B5 := hd (B4.out.trans (b4.mono B4.out.size))
  have M5 : Hid (∃ F : Nat → Thg, MO w w5 NoK F ∧ F 1 = lsO edc 6 48 βaA (.slice aA es.length caA) es ∧ F 2 = lsO edc 6 48 βaB (.slice aB os.length caB) os ∧ F 11 = lsO opc 5 46 β11 rD D ∧ F 12 = lsO elc 3 50 β12 rT (runP [] D) ∧ F 13 = lsO opc 5 46 β13 rD2 D2 ∧ F 14 = lsO elc 3 50 β14 rT2 (runP [] D2)) := by
    obtain ⟨F, hM, f1, f11, f12, f13, f14⟩ := M4.out
    exact ⟨_, hM.put 2 (frm_ls _ _ _ _ _ _) (S' := fun g => βaB = some g) ⟨hA, fun _ => Iff.rfl⟩ lA b4, (setO_other _ _ (by decide)).trans (f1), setO_same _ _ _, (setO_other _ _ (by decide)).trans (f11), (setO_other _ _ (by decide)).trans (f12), (setO_other _ _ (by decide)).trans (f13), (setO_other _ _ (by decide)).trans (f14)⟩
  have HA5 := hd (HA.out.fr (Fr.of_below (S := fun _ => False) b4) (fun _ _ h => h))
  have HBB := hd hA
  clear hap hA lA b4 M4 HA
  go_upto_region 7 with (at_builtin; refine wpList_append_k _ rfl _ _ 22 22 rfl _ _ rfl rfl (HAP.out _) ?_)
  clear HAP
  have C7 := hd (preplay aA es.length caA es w5 (by obtain ⟨a9, c9, e9, h9⟩ := HA5.out.isL; injection e9 with e9 _ _; subst e9; exact h9) HCE.out (HT.out.below B5.out HT.out.1))
  go_upto_region 8 with (go_at_call 6; refine C7.out.mono ?_; rintro e1 w6 ⟨v3, v4, vErr, rfl, hP⟩)
  obtain ⟨⟨β3, k1, k2⟩, ⟨β4, k3, k4⟩, k5⟩ := hP.of HREP.out
  have B6 := hd (B5.out.trans (hP.bel.mono B5.out.size))
  have HER := hd k5
  have M6 : Hid (∃ F : Nat → Thg, MO w w6 NoK F ∧ F 1 = lsO edc 6 48 βaA (.slice aA es.length caA) es ∧ F 2 = lsO edc 6 48 βaB (.slice aB os.length caB) os ∧ F 3 = lsO opc 5 46 β3 v3 D ∧ F 4 = lsO elc 3 50 β4 v4 (runP [] D) ∧ F 11 = lsO opc 5 46 β11 rD D ∧ F 12 = lsO elc 3 50 β12 rT (runP [] D) ∧ F 13 = lsO opc 5 46 β13 rD2 D2 ∧ F 14 = lsO elc 3 50 β14 rT2 (runP [] D2)) := by
    obtain ⟨F, hM, f1, f2, f11, f12, f13, f14⟩ := M5.out
    exact ⟨_, mo_two hM hP.bel 3 4 (by decide) k1 k2 k3 k4, (setO_other _ _ (by decide)).trans ((setO_other _ _ (by decide)).trans (f1)), (setO_other _ _ (by decide)).trans ((setO_other _ _ (by decide)).trans (f2)), (setO_other _ _ (by decide)).trans (setO_same _ _ _), setO_same _ _ _, (setO_other _ _ (by decide)).trans ((setO_other _ _ (by decide)).trans (f11)), (setO_other _ _ (by decide)).trans ((setO_other _ _ (by decide)).trans (f12)), (setO_other _ _ (by decide)).trans ((setO_other _ _ (by decide)).trans (f13)), (setO_other _ _ (by decide)).trans ((setO_other _ _ (by decide)).trans (f14))⟩
  have HBB6 := hd (HBB.out.fr (Fr.of_below (S := fun _ => False) hP.bel) (fun _ _ h => h))
  clear C7 hP k1 k2 k3 k4 k5 M5 HA5 HBB
  have C8 := hd (preplay aB os.length caB os w6 (by obtain ⟨a9, c9, e9, h9⟩ := HBB6.out.isL; injection e9 with e9 _ _; subst e9; exact h9) HCO.out (HT.out.below B6.out HT.out.1))
  go_upto_region 9 with (go_at_call 6; refine C8.out.mono ?_; rintro e1 w7 ⟨v5, v6, vErr2, rfl, hP⟩)
  obtain ⟨⟨β5, k1, k2⟩, ⟨β6, k3, k4⟩, k5⟩ := hP.of HREP2.out
  have B7 := hd (B6.out.trans (hP.bel.mono B6.out.size))
  have HER2 := hd k5
  have HER7 : Hid ((cd = 0 ∧ at1 = -1 ∧ vErr = .nilIface) ∨ IsF w7 vErr at1 cd) := HER.out.imp id (fun h => h.below hP.bel)
  have M7 : Hid (∃ F : Nat → Thg, MO w w7 NoK F ∧ F 1 = lsO edc 6 48 βaA (.slice aA es.length caA) es ∧ F 2 = lsO edc 6 48 βaB (.slice aB os.length caB) os ∧ F 3 = lsO opc 5 46 β3 v3 D ∧ F 4 = lsO elc 3 50 β4 v4 (runP [] D) ∧ F 5 = lsO opc 5 46 β5 v5 D2 ∧ F 6 = lsO elc 3 50 β6 v6 (runP [] D2) ∧ F 11 = lsO opc 5 46 β11 rD D ∧ F 12 = lsO elc 3 50 β12 rT (runP [] D) ∧ F 13 = lsO opc 5 46 β13 rD2 D2 ∧ F 14 = lsO elc 3 50 β14 rT2 (runP [] D2)) := by
    obtain ⟨F, hM, f1, f2, f3, f4, f11, f12, f13, f14⟩ := M6.out
    exact ⟨_, mo_two hM hP.bel 5 6 (by decide) k1 k2 k3 k4, (setO_other _ _ (by decide)).trans ((setO_other _ _ (by decide)).trans (f1)), (setO_other _ _ (by decide)).trans ((setO_other _ _ (by decide)).trans (f2)), (setO_other _ _ (by decide)).trans ((setO_other _ _ (by decide)).trans (f3)), (setO_other _ _ (by decide)).trans ((setO_other _ _ (by decide)).trans (f4)), (setO_other _ _ (by decide)).trans (setO_same _ _ _), setO_same _ _ _, (setO_other _ _ (by decide)).trans ((setO_other _ _ (by decide)).trans (f11)), (setO_other _ _ (by decide)).trans ((setO_other _ _ (by decide)).trans (f12)), (setO_other _ _ (by decide)).trans ((setO_other _ _ (by decide)).trans (f13)), (setO_other _ _ (by decide)).trans ((setO_other _ _ (by decide)).trans (f14))⟩
  clear C8 hP k1 k2 k3 k4 k5 M6 HBB6 HER
  obtain ⟨aC, caC, w8, hap, ⟨βaC, hA, lA⟩, b4⟩ := run_cpEd w7 (.slice aE nE cE) es (IsL.rd (HE.out.below B7.out (Nat.le_refl _))) (by rw [HE.out.1]; exact HBE.out)
  have HAP := hd hap
  have B8 := hd (B7.out.trans (b4.mono B7.out.size))
  have HA := hd hA
  have C9 := hd (preplay aC es.length caC es w8 (by obtain ⟨a9, c9, e9, h9⟩ := HA.out.isL; injection e9 with e9 _ _; subst e9; exact h9) HCE.out (HT.out.below B8.out HT.out.1))
  have M8 : Hid (∃ F : Nat → Thg, MO w w8 NoK F ∧ F 1 = lsO edc 6 48 βaA (.slice aA es.length caA) es ∧ F 2 = lsO edc 6 48 βaB (.slice aB os.length caB) os ∧ F 3 = lsO opc 5 46 β3 v3 D ∧ F 4 = lsO elc 3 50 β4 v4 (runP [] D) ∧ F 5 = lsO opc 5 46 β5 v5 D2 ∧ F 6 = lsO elc 3 50 β6 v6 (runP [] D2) ∧ F 11 = lsO opc 5 46 β11 rD D ∧ F 12 = lsO elc 3 50 β12 rT (runP [] D) ∧ F 13 = lsO opc 5 46 β13 rD2 D2 ∧ F 14 = lsO elc 3 50 β14 rT2 (runP [] D2)) := by
    obtain ⟨F, hM, f1, f2, f3, f4, f5, f6, f11, f12, f13, f14⟩ := M7.out
    exact ⟨_, hM.below b4, f1, f2, f3, f4, f5, f6, f11, f12, f13, f14⟩
  have HER8 : Hid ((cd = 0 ∧ at1 = -1 ∧ vErr = .nilIface) ∨ IsF w8 vErr at1 cd) := HER7.out.imp id (fun h => h.below b4)
  have HER28 : Hid ((cd2 = 0 ∧ at2 = -1 ∧ vErr2 = .nilIface) ∨ IsF w8 vErr2 at2 cd2) := HER2.out.imp id (fun h => h.below b4)
  clear hap hA lA b4 M7 HER7 HER2
  go_upto_region 10 with (first | (at_builtin; refine wpList_append_k _ rfl _ _ 22 22 rfl _ _ rfl rfl (HAP.out _) ?_) | (go_at_call 6; refine C9.out.mono ?_; rintro e1 w9 ⟨v7, v8, vErr3, rfl, hP⟩))
  obtain ⟨⟨β7, k1, k2⟩, ⟨β8, k3, k4⟩, -⟩ := hP.of HREP.out
  have B9 := hd (B8.out.trans (hP.bel.mono B8.out.size))
  have HER9 : Hid ((cd = 0 ∧ at1 = -1 ∧ vErr = .nilIface) ∨ IsF w9 vErr at1 cd) := HER8.out.imp id (fun h => h.below hP.bel)
  have HER29 : Hid ((cd2 = 0 ∧ at2 = -1 ∧ vErr2 = .nilIface) ∨ IsF w9 vErr2 at2 cd2) := HER28.out.imp id (fun h => h.below hP.bel)
  have M9 : Hid (∃ F : Nat → Thg, MO w w9 NoK F ∧ F 1 = lsO edc 6 48 βaA (.slice aA es.length caA) es ∧ F 2 = lsO edc 6 48 βaB (.slice aB os.length caB) os ∧ F 3 = lsO opc 5 46 β3 v3 D ∧ F 4 = lsO elc 3 50 β4 v4 (runP [] D) ∧ F 5 = lsO opc 5 46 β5 v5 D2 ∧ F 6 = lsO elc 3 50 β6 v6 (runP [] D2) ∧ F 7 = lsO opc 5 46 β7 v7 D ∧ F 8 = lsO elc 3 50 β8 v8 (runP [] D) ∧ F 11 = lsO opc 5 46 β11 rD D ∧ F 12 = lsO elc 3 50 β12 rT (runP [] D) ∧ F 13 = lsO opc 5 46 β13 rD2 D2 ∧ F 14 = lsO elc 3 50 β14 rT2 (runP [] D2)) := by
    obtain ⟨F, hM, f1, f2, f3, f4, f5, f6, f11, f12, f13, f14⟩ := M8.out
    exact ⟨_, mo_two hM hP.bel 7 8 (by decide) k1 k2 k3 k4, (setO_other _ _ (by decide)).trans ((setO_other _ _ (by decide)).trans (f1)), (setO_other _ _ (by decide)).trans ((setO_other _ _ (by decide)).trans (f2)), (setO_other _ _ (by decide)).trans ((setO_other _ _ (by decide)).trans (f3)), (setO_other _ _ (by decide)).trans ((setO_other _ _ (by decide)).trans (f4)), (setO_other _ _ (by decide)).trans ((setO_other _ _ (by decide)).trans (f5)), (setO_other _ _ (by decide)).trans ((setO_other _ _ (by decide)).trans (f6)), (setO_other _ _ (by decide)).trans (setO_same _ _ _), setO_same _ _ _, (setO_other _ _ (by decide)).trans ((setO_other _ _ (by decide)).trans (f11)), (setO_other _ _ (by decide)).trans ((setO_other _ _ (by decide)).trans (f12)), (setO_other _ _ (by decide)).trans ((setO_other _ _ (by decide)).trans (f13)), (setO_other _ _ (by decide)).trans ((setO_other _ _ (by decide)).trans (f14))⟩
  clear C9 hP k1 k2 k3 k4 M8 HA HAP HER8 HER28
  have DD0 : Hid (∀ U, Below w9.heap.size w9 U → Calls Tryz.prog 7 #[vErr, .int .i64 cd, .int .i64 at1] U fun e w' => e = .returned (.bool true) ∧ Below w9.heap.size w9 w') := fun U hU => by
    obtain ⟨F, hM, f1, f2, f3, f4, f5, f6, f7, f8, f11, f12, f13, f14⟩ := M9.out
    exact (is_any (HER9.out.imp id (fun h => h.below hU)) (HH.out.below (B9.out.trans (hU.mono B9.out.size)) HH.out.pos)).mono (fun e w' h => ⟨h.1, hU.trans (h.2.mono hU.size)⟩)
  have DD1 : Hid (∀ U, Below w9.heap.size w9 U → Calls Tryz.prog 7 #[vErr2, .int .i64 cd2, .int .i64 at2] U fun e w' => e = .returned (.bool true) ∧ Below w9.heap.size w9 w') := fun U hU => by
    obtain ⟨F, hM, f1, f2, f3, f4, f5, f6, f7, f8, f11, f12, f13, f14⟩ := M9.out
    exact (is_any (HER29.out.imp id (fun h => h.below hU)) (HH.out.below (B9.out.trans (hU.mono B9.out.size)) HH.out.pos)).mono (fun e w' h => ⟨h.1, hU.trans (h.2.mono hU.size)⟩)
  have DD2 : Hid (∀ U, Below w9.heap.size w9 U → Calls Tryz.prog 8 #[(.slice aA es.length caA), (.slice aE nE cE)] U fun e w' => e = .returned (.bool true) ∧ Below w9.heap.size w9 w') := fun U hU => by
    obtain ⟨F, hM, f1, f2, f3, f4, f5, f6, f7, f8, f11, f12, f13, f14⟩ := M9.out
    exact (eqEdits_any (.slice aA es.length caA) (.slice aE nE cE) es U ((mo_rd hM 1 f1 szEd).below hU) (IsL.rd (HE.out.below (B9.out.trans (hU.mono B9.out.size)) (Nat.le_refl _))) (by rw [HE.out.1]; exact Nat.le_trans HBE.out (by decide))).mono (fun e w' h => ⟨h.1, hU.trans (h.2.mono hU.size)⟩)
  have DD3 : Hid (∀ U, Below w9.heap.size w9 U → Calls Tryz.prog 8 #[(.slice aB os.length caB), (.slice aO nO cO)] U fun e w' => e = .returned (.bool true) ∧ Below w9.heap.size w9 w') := fun U hU => by
    obtain ⟨F, hM, f1, f2, f3, f4, f5, f6, f7, f8, f11, f12, f13, f14⟩ := M9.out
    exact (eqEdits_any (.slice aB os.length caB) (.slice aO nO cO) os U ((mo_rd hM 2 f2 szEd).below hU) (IsL.rd (HO.out.below (B9.out.trans (hU.mono B9.out.size)) (Nat.le_refl _))) (by rw [HO.out.1]; exact Nat.le_trans HBO.out (by decide))).mono (fun e w' h => ⟨h.1, hU.trans (h.2.mono hU.size)⟩)
  have hb0 : Below w9.heap.size w9 w9 := Below.refl _ _
  go_wp2_with fail
  refine (DD0.out _ hb0).mono ?_
  rintro e1 y0_0 ⟨rfl, hb1⟩
  go_wp2_with fail
  refine (DD1.out _ hb1).mono ?_
  rintro e1 y0_1 ⟨rfl, hb2⟩
  go_wp2_with fail
  refine (DD2.out _ hb2).mono ?_
  rintro e1 y0_2 ⟨rfl, hb3⟩
  go_wp2_with fail
  refine (DD3.out _ hb3).mono ?_
  rintro e1 y0_3 ⟨rfl, hb4⟩
  go_upto_region 12 with fail
  have X0 := hd (B9.out.trans (hb4.mono B9.out.size))
  have N0 : Hid (∃ F : Nat → Thg, MO w y0_3 NoK F ∧ F 1 = lsO edc 6 48 βaA (.slice aA es.length caA) es ∧ F 2 = lsO edc 6 48 βaB (.slice aB os.length caB) os ∧ F 3 = lsO opc 5 46 β3 v3 D ∧ F 4 = lsO elc 3 50 β4 v4 (runP [] D) ∧ F 5 = lsO opc 5 46 β5 v5 D2 ∧ F 6 = lsO elc 3 50 β6 v6 (runP [] D2) ∧ F 7 = lsO opc 5 46 β7 v7 D ∧ F 8 = lsO elc 3 50 β8 v8 (runP [] D) ∧ F 11 = lsO opc 5 46 β11 rD D ∧ F 12 = lsO elc 3 50 β12 rT (runP [] D) ∧ F 13 = lsO opc 5 46 β13 rD2 D2 ∧ F 14 = lsO elc 3 50 β14 rT2 (runP [] D2)) := by
    obtain ⟨F, hM, f1, f2, f3, f4, f5, f6, f7, f8, f11, f12, f13, f14⟩ := M9.out
    exact ⟨_, hM.below hb4, f1, f2, f3, f4, f5, f6, f7, f8, f11, f12, f13, f14⟩
  clear DD0 DD1 DD2 DD3 hb0 hb1 hb2 hb3 hb4 M9
  clear HER9 HER29
  have HSH := hd (heap_alloc_new y0_3 (.cells #[.slice none 0 0, .slice none 0 0, .slice none 0 0, .slice none 0 0, .int .i64 0] 38))
  obtain ⟨sx, hsx⟩ : ∃ z, y0_3.heap.size = z := ⟨_, rfl⟩
  have N12 : Hid (∃ F : Nat → Thg, MO w (y0_3.alloc (.cells #[.slice none 0 0, .slice none 0 0, .slice none 0 0, .slice none 0 0, .int .i64 0] 38)) NoK F ∧ F 0 = shO sx [] [] [] [] (0) ∧ F 1 = lsO edc 6 48 βaA (.slice aA es.length caA) es ∧ F 2 = lsO edc 6 48 βaB (.slice aB os.length caB) os ∧ F 3 = lsO opc 5 46 β3 v3 D ∧ F 4 = lsO elc 3 50 β4 v4 (runP [] D) ∧ F 5 = lsO opc 5 46 β5 v5 D2 ∧ F 6 = lsO elc 3 50 β6 v6 (runP [] D2) ∧ F 7 = lsO opc 5 46 β7 v7 D ∧ F 8 = lsO elc 3 50 β8 v8 (runP [] D) ∧ F 11 = lsO opc 5 46 β11 rD D ∧ F 12 = lsO elc 3 50 β12 rT (runP [] D) ∧ F 13 = lsO opc 5 46 β13 rD2 D2 ∧ F 14 = lsO elc 3 50 β14 rT2 (runP [] D2)) := by
    obtain ⟨F, hM, f1, f2, f3, f4, f5, f6, f7, f8, f11, f12, f13, f14⟩ := N0.out
    exact ⟨_, by have h := mo_shelf hM; rw [hsx] at h; exact h, setO_same _ _ _, (setO_other _ _ (by decide)).trans (f1), (setO_other _ _ (by decide)).trans (f2), (setO_other _ _ (by decide)).trans (f3), (setO_other _ _ (by decide)).trans (f4), (setO_other _ _ (by decide)).trans (f5), (setO_other _ _ (by decide)).trans (f6), (setO_other _ _ (by decide)).trans (f7), (setO_other _ _ (by decide)).trans (f8), (setO_other _ _ (by decide)).trans (f11), (setO_other _ _ (by decide)).trans (f12), (setO_other _ _ (by decide)).trans (f13), (setO_other _ _ (by decide)).trans (f14)⟩
  have X12 := hd (X0.out.alloc X0.out.size (.cells #[.slice none 0 0, .slice none 0 0, .slice none 0 0, .slice none 0 0, .int .i64 0] 38))
  go_upto_region 13 with fail
  try rw [hsx]
  clear hsx HSH N0
  generalize (y0_3.alloc (.cells #[.slice none 0 0, .slice none 0 0, .slice none 0 0, .slice none 0 0, .int .i64 0] 38)) = w12 at *
  have CS : Hid (Calls Tryz.prog 9 #[.pointer (some ⟨sx, 0, none⟩), .slice aA es.length caA] w12 fun e w' => e = .returned (.tuple #[]) ∧ ∃ x1 g1 p1 q1 : SV, Value.slice aA es.length caA = x1.val ∧ (∃ F : Nat → Thg, MO w w' NoK F ∧ F 0 = shO sx ([] ++ [x1] ++ [g1]) ([] ++ [p1] ++ [q1]) [] [] ((0 + 1)) ∧ F 1 = mkO edc 6 (mkEd (0)) [(x1.val, es.length), (g1.val, es.length + 3), (p1.val, es.length), (q1.val, es.length + 3)] ∧ F 2 = lsO edc 6 48 βaB (.slice aB os.length caB) os ∧ F 3 = lsO opc 5 46 β3 v3 D ∧ F 4 = lsO elc 3 50 β4 v4 (runP [] D) ∧ F 5 = lsO opc 5 46 β5 v5 D2 ∧ F 6 = lsO elc 3 50 β6 v6 (runP [] D2) ∧ F 7 = lsO opc 5 46 β7 v7 D ∧ F 8 = lsO elc 3 50 β8 v8 (runP [] D) ∧ F 11 = lsO opc 5 46 β11 rD D ∧ F 12 = lsO elc 3 50 β12 rT (runP [] D) ∧ F 13 = lsO opc 5 46 β13 rD2 D2 ∧ F 14 = lsO elc 3 50 β14 rT2 (runP [] D2)) ∧ Below w.heap.size w w') := by
    obtain ⟨F, hM, f0, f1, f2, f3, f4, f5, f6, f7, f8, f11, f12, f13, f14⟩ := N12.out
    refine (mo_edits hM f0 1 (by decide) f1 (by simp) (by simp) (by omega) (by rw [HE.out.1]; exact HBE.out)).mono ?_
    rintro e w' ⟨rfl, x, g, u1, u2, hv, hM2, -⟩
    exact ⟨rfl, x, g, u1, u2, hv, ⟨_, hM2, (setO_other _ _ (by decide)).trans (setO_same _ _ _), setO_same _ _ _, (setO_other _ _ (by decide)).trans ((setO_other _ _ (by decide)).trans f2), (setO_other _ _ (by decide)).trans ((setO_other _ _ (by decide)).trans f3), (setO_other _ _ (by decide)).trans ((setO_other _ _ (by decide)).trans f4), (setO_other _ _ (by decide)).trans ((setO_other _ _ (by decide)).trans f5), (setO_other _ _ (by decide)).trans ((setO_other _ _ (by decide)).trans f6), (setO_other _ _ (by decide)).trans ((setO_other _ _ (by decide)).trans f7), (setO_other _ _ (by decide)).trans ((setO_other _ _ (by decide)).trans f8), (setO_other _ _ (by decide)).trans ((setO_other _ _ (by decide)).trans f11), (setO_other _ _ (by decide)).trans ((setO_other _ _ (by decide)).trans f12), (setO_other _ _ (by decide)).trans ((setO_other _ _ (by decide)).trans f13), (setO_other _ _ (by decide)).trans ((setO_other _ _ (by decide)).trans f14)⟩, hM2.base⟩
  go_upto_region 14 with (go_at_call 9; refine CS.out.mono ?_; rintro e1 z1 ⟨rfl, x1, g1, p1, q1, hv1, hm, hbb⟩)
  have HV1 := hd hv1
  clear hv1
  have N1 := hd hm
  have X1 := hd hbb
  clear hm hbb CS N12
  have CS : Hid (Calls Tryz.prog 9 #[.pointer (some ⟨sx, 0, none⟩), .slice aB os.length caB] z1 fun e w' => e = .returned (.tuple #[]) ∧ ∃ x2 g2 p2 q2 : SV, Value.slice aB os.length caB = x2.val ∧ (∃ F : Nat → Thg, MO w w' NoK F ∧ F 0 = shO sx (([] ++ [x1] ++ [g1]) ++ [x2] ++ [g2]) (([] ++ [p1] ++ [q1]) ++ [p2] ++ [q2]) [] [] (((0 + 1) + 1)) ∧ F 1 = mkO edc 6 (mkEd (0)) [(x1.val, es.length), (g1.val, es.length + 3), (p1.val, es.length), (q1.val, es.length + 3)] ∧ F 2 = mkO edc 6 (mkEd ((0 + 1))) [(x2.val, os.length), (g2.val, os.length + 3), (p2.val, os.length), (q2.val, os.length + 3)] ∧ F 3 = lsO opc 5 46 β3 v3 D ∧ F 4 = lsO elc 3 50 β4 v4 (runP [] D) ∧ F 5 = lsO opc 5 46 β5 v5 D2 ∧ F 6 = lsO elc 3 50 β6 v6 (runP [] D2) ∧ F 7 = lsO opc 5 46 β7 v7 D ∧ F 8 = lsO elc 3 50 β8 v8 (runP [] D) ∧ F 11 = lsO opc 5 46 β11 rD D ∧ F 12 = lsO elc 3 50 β12 rT (runP [] D) ∧ F 13 = lsO opc 5 46 β13 rD2 D2 ∧ F 14 = lsO elc 3 50 β14 rT2 (runP [] D2)) ∧ Below w.heap.size w w') := by
    obtain ⟨F, hM, f0, f1, f2, f3, f4, f5, f6, f7, f8, f11, f12, f13, f14⟩ := N1.out
    refine (mo_edits hM f0 2 (by decide) f2 (by simp) (by simp) (by omega) (by rw [HO.out.1]; exact HBO.out)).mono ?_
    rintro e w' ⟨rfl, x, g, u1, u2, hv, hM2, -⟩
    exact ⟨rfl, x, g, u1, u2, hv, ⟨_, hM2, (setO_other _ _ (by decide)).trans (setO_same _ _ _), (setO_other _ _ (by decide)).trans ((setO_other _ _ (by decide)).trans f1), setO_same _ _ _, (setO_other _ _ (by decide)).trans ((setO_other _ _ (by decide)).trans f3), (setO_other _ _ (by decide)).trans ((setO_other _ _ (by decide)).trans f4), (setO_other _ _ (by decide)).trans ((setO_other _ _ (by decide)).trans f5), (setO_other _ _ (by decide)).trans ((setO_other _ _ (by decide)).trans f6), (setO_other _ _ (by decide)).trans ((setO_other _ _ (by decide)).trans f7), (setO_other _ _ (by decide)).trans ((setO_other _ _ (by decide)).trans f8), (setO_other _ _ (by decide)).trans ((setO_other _ _ (by decide)).trans f11), (setO_other _ _ (by decide)).trans ((setO_other _ _ (by decide)).trans f12), (setO_other _ _ (by decide)).trans ((setO_other _ _ (by decide)).trans f13), (setO_other _ _ (by decide)).trans ((setO_other _ _ (by decide)).trans f14)⟩, hM2.base⟩
  go_upto_region 15 with (go_at_call 9; refine CS.out.mono ?_; rintro e1 z2 ⟨rfl, x2, g2, p2, q2, hv2, hm, hbb⟩)
  have HV2 := hd hv2
  clear hv2
  have N2 := hd hm
  have X2 := hd hbb
  clear hm hbb CS N1
  have DD0 : Hid (∀ U, Below z2.heap.size z2 U → Calls Tryz.prog 10 #[v3, rD] U fun e w' => e = .returned (.bool true) ∧ Below z2.heap.size z2 w') := fun U hU => by
    obtain ⟨F, hM, f0, f1, f2, f3, f4, f5, f6, f7, f8, f11, f12, f13, f14⟩ := N2.out
    exact (eqOps_any v3 rD D U ((mo_rd hM 3 f3 sz_opc).below hU) ((mo_rd hM 11 f11 sz_opc).below hU) (Nat.le_trans HD4.out.1 (by decide))).mono (fun e w' h => ⟨h.1, hU.trans (h.2.mono hU.size)⟩)
  have DD1 : Hid (∀ U, Below z2.heap.size z2 U → Calls Tryz.prog 10 #[v5, rD2] U fun e w' => e = .returned (.bool true) ∧ Below z2.heap.size z2 w') := fun U hU => by
    obtain ⟨F, hM, f0, f1, f2, f3, f4, f5, f6, f7, f8, f11, f12, f13, f14⟩ := N2.out
    exact (eqOps_any v5 rD2 D2 U ((mo_rd hM 5 f5 sz_opc).below hU) ((mo_rd hM 13 f13 sz_opc).below hU) (Nat.le_trans HD42.out.1 (by decide))).mono (fun e w' h => ⟨h.1, hU.trans (h.2.mono hU.size)⟩)
  have DD2 : Hid (∀ U, Below z2.heap.size z2 U → Calls Tryz.prog 11 #[v4, rT] U fun e w' => e = .returned (.bool true) ∧ Below z2.heap.size z2 w') := fun U hU => by
    obtain ⟨F, hM, f0, f1, f2, f3, f4, f5, f6, f7, f8, f11, f12, f13, f14⟩ := N2.out
    exact (eqElems_any v4 rT (runP [] D) U ((mo_rd hM 4 f4 szEl).below hU) ((mo_rd hM 12 f12 szEl).below hU) (Nat.le_trans HD4.out.2 (by decide))).mono (fun e w' h => ⟨h.1, hU.trans (h.2.mono hU.size)⟩)
  have DD3 : Hid (∀ U, Below z2.heap.size z2 U → Calls Tryz.prog 11 #[v6, rT2] U fun e w' => e = .returned (.bool true) ∧ Below z2.heap.size z2 w') := fun U hU => by
    obtain ⟨F, hM, f0, f1, f2, f3, f4, f5, f6, f7, f8, f11, f12, f13, f14⟩ := N2.out
    exact (eqElems_any v6 rT2 (runP [] D2) U ((mo_rd hM 6 f6 szEl).below hU) ((mo_rd hM 14 f14 szEl).below hU) (Nat.le_trans HD42.out.2 (by decide))).mono (fun e w' h => ⟨h.1, hU.trans (h.2.mono hU.size)⟩)
  have hb0 : Below z2.heap.size z2 z2 := Below.refl _ _
  go_wp2_with fail
  refine (DD0.out _ hb0).mono ?_
  rintro e1 y3_0 ⟨rfl, hb1⟩
  go_wp2_with fail
  refine (DD1.out _ hb1).mono ?_
  rintro e1 y3_1 ⟨rfl, hb2⟩
  go_wp2_with fail
  refine (DD2.out _ hb2).mono ?_
  rintro e1 y3_2 ⟨rfl, hb3⟩
  go_wp2_with fail
  refine (DD3.out _ hb3).mono ?_
  rintro e1 y3_3 ⟨rfl, hb4⟩
  go_upto_region 17 with fail
  have X3 := hd (X2.out.trans (hb4.mono X2.out.size))
  have N3 : Hid (∃ F : Nat → Thg, MO w y3_3 NoK F ∧ F 0 = shO sx (([] ++ [x1] ++ [g1]) ++ [x2] ++ [g2]) (([] ++ [p1] ++ [q1]) ++ [p2] ++ [q2]) [] [] (((0 + 1) + 1)) ∧ F 1 = mkO edc 6 (mkEd (0)) [(x1.val, es.length), (g1.val, es.length + 3), (p1.val, es.length), (q1.val, es.length + 3)] ∧ F 2 = mkO edc 6 (mkEd ((0 + 1))) [(x2.val, os.length), (g2.val, os.length + 3), (p2.val, os.length), (q2.val, os.length + 3)] ∧ F 3 = lsO opc 5 46 β3 v3 D ∧ F 4 = lsO elc 3 50 β4 v4 (runP [] D) ∧ F 5 = lsO opc 5 46 β5 v5 D2 ∧ F 6 = lsO elc 3 50 β6 v6 (runP [] D2) ∧ F 7 = lsO opc 5 46 β7 v7 D ∧ F 8 = lsO elc 3 50 β8 v8 (runP [] D) ∧ F 11 = lsO opc 5 46 β11 rD D ∧ F 12 = lsO elc 3 50 β12 rT (runP [] D) ∧ F 13 = lsO opc 5 46 β13 rD2 D2 ∧ F 14 = lsO elc 3 50 β14 rT2 (runP [] D2)) := by
    obtain ⟨F, hM, f0, f1, f2, f3, f4, f5, f6, f7, f8, f11, f12, f13, f14⟩ := N2.out
    exact ⟨_, hM.below hb4, f0, f1, f2, f3, f4, f5, f6, f7, f8, f11, f12, f13, f14⟩
  clear DD0 DD1 DD2 DD3 hb0 hb1 hb2 hb3 hb4 N2
  have CS : Hid (Calls Tryz.prog 12 #[.pointer (some ⟨sx, 0, none⟩), v4] y3_3 fun e w' => e = .returned (.tuple #[]) ∧ ∃ x4 g4 p4 q4 : SV, v4 = x4.val ∧ (∃ F : Nat → Thg, MO w w' NoK F ∧ F 0 = shO sx (([] ++ [x1] ++ [g1]) ++ [x2] ++ [g2]) (([] ++ [p1] ++ [q1]) ++ [p2] ++ [q2]) ([] ++ [x4] ++ [g4]) ([] ++ [p4] ++ [q4]) ((((0 + 1) + 1) + 1)) ∧ F 1 = mkO edc 6 (mkEd (0)) [(x1.val, es.length), (g1.val, es.length + 3), (p1.val, es.length), (q1.val, es.length + 3)] ∧ F 2 = mkO edc 6 (mkEd ((0 + 1))) [(x2.val, os.length), (g2.val, os.length + 3), (p2.val, os.length), (q2.val, os.length + 3)] ∧ F 3 = lsO opc 5 46 β3 v3 D ∧ F 4 = mkO elc 3 (mkEl (((0 + 1) + 1))) [(x4.val, (runP [] D).length), (g4.val, (runP [] D).length + 3), (p4.val, (runP [] D).length), (q4.val, (runP [] D).length + 3)] ∧ F 5 = lsO opc 5 46 β5 v5 D2 ∧ F 6 = lsO elc 3 50 β6 v6 (runP [] D2) ∧ F 7 = lsO opc 5 46 β7 v7 D ∧ F 8 = lsO elc 3 50 β8 v8 (runP [] D) ∧ F 11 = lsO opc 5 46 β11 rD D ∧ F 12 = lsO elc 3 50 β12 rT (runP [] D) ∧ F 13 = lsO opc 5 46 β13 rD2 D2 ∧ F 14 = lsO elc 3 50 β14 rT2 (runP [] D2)) ∧ Below w.heap.size w w') := by
    obtain ⟨F, hM, f0, f1, f2, f3, f4, f5, f6, f7, f8, f11, f12, f13, f14⟩ := N3.out
    refine (mo_elems hM f0 4 (by decide) f4 (by simp) (by simp) (by omega) (Nat.le_trans HD4.out.2 (by decide))).mono ?_
    rintro e w' ⟨rfl, x, g, u1, u2, hv, hM2, -⟩
    exact ⟨rfl, x, g, u1, u2, hv, ⟨_, hM2, (setO_other _ _ (by decide)).trans (setO_same _ _ _), (setO_other _ _ (by decide)).trans ((setO_other _ _ (by decide)).trans f1), (setO_other _ _ (by decide)).trans ((setO_other _ _ (by decide)).trans f2), (setO_other _ _ (by decide)).trans ((setO_other _ _ (by decide)).trans f3), setO_same _ _ _, (setO_other _ _ (by decide)).trans ((setO_other _ _ (by decide)).trans f5), (setO_other _ _ (by decide)).trans ((setO_other _ _ (by decide)).trans f6), (setO_other _ _ (by decide)).trans ((setO_other _ _ (by decide)).trans f7), (setO_other _ _ (by decide)).trans ((setO_other _ _ (by decide)).trans f8), (setO_other _ _ (by decide)).trans ((setO_other _ _ (by decide)).trans f11), (setO_other _ _ (by decide)).trans ((setO_other _ _ (by decide)).trans f12), (setO_other _ _ (by decide)).trans ((setO_other _ _ (by decide)).trans f13), (setO_other _ _ (by decide)).trans ((setO_other _ _ (by decide)).trans f14)⟩, hM2.base⟩
  go_upto_region 18 with (go_at_call 12; refine CS.out.mono ?_; rintro e1 z4 ⟨rfl, x4, g4, p4, q4, hv4, hm, hbb⟩)
  have HV4 := hd hv4
  clear hv4
  have N4 := hd hm
  have X4 := hd hbb
  clear hm hbb CS N3
  have CS : Hid (Calls Tryz.prog 13 #[v3, .int .i64 (-1)] z4 fun e w' => ∃ gm1 : Value, e = .returned gm1 ∧ (∃ F : Nat → Thg, MO w w' NoK F ∧ F 0 = shO sx (([] ++ [x1] ++ [g1]) ++ [x2] ++ [g2]) (([] ++ [p1] ++ [q1]) ++ [p2] ++ [q2]) ([] ++ [x4] ++ [g4]) ([] ++ [p4] ++ [q4]) ((((0 + 1) + 1) + 1)) ∧ F 1 = mkO edc 6 (mkEd (0)) [(x1.val, es.length), (g1.val, es.length + 3), (p1.val, es.length), (q1.val, es.length + 3)] ∧ F 2 = mkO edc 6 (mkEd ((0 + 1))) [(x2.val, os.length), (g2.val, os.length + 3), (p2.val, os.length), (q2.val, os.length + 3)] ∧ F 3 = mkO opc 5 (mkOp (-1)) [(v3, D.length), (gm1, D.length + 2)] ∧ F 4 = mkO elc 3 (mkEl (((0 + 1) + 1))) [(x4.val, (runP [] D).length), (g4.val, (runP [] D).length + 3), (p4.val, (runP [] D).length), (q4.val, (runP [] D).length + 3)] ∧ F 5 = lsO opc 5 46 β5 v5 D2 ∧ F 6 = lsO elc 3 50 β6 v6 (runP [] D2) ∧ F 7 = lsO opc 5 46 β7 v7 D ∧ F 8 = lsO elc 3 50 β8 v8 (runP [] D) ∧ F 11 = lsO opc 5 46 β11 rD D ∧ F 12 = lsO elc 3 50 β12 rT (runP [] D) ∧ F 13 = lsO opc 5 46 β13 rD2 D2 ∧ F 14 = lsO elc 3 50 β14 rT2 (runP [] D2)) ∧ Below w.heap.size w w') := by
    obtain ⟨F, hM, f0, f1, f2, f3, f4, f5, f6, f7, f8, f11, f12, f13, f14⟩ := N4.out
    refine (mo_marked hM 3 f3 (-1) (HD4.out.1)).mono ?_
    rintro e w' ⟨g, rfl, hM2, -⟩
    exact ⟨g, rfl, ⟨_, hM2, (setO_other _ _ (by decide)).trans f0, (setO_other _ _ (by decide)).trans f1, (setO_other _ _ (by decide)).trans f2, setO_same _ _ _, (setO_other _ _ (by decide)).trans f4, (setO_other _ _ (by decide)).trans f5, (setO_other _ _ (by decide)).trans f6, (setO_other _ _ (by decide)).trans f7, (setO_other _ _ (by decide)).trans f8, (setO_other _ _ (by decide)).trans f11, (setO_other _ _ (by decide)).trans f12, (setO_other _ _ (by decide)).trans f13, (setO_other _ _ (by decide)).trans f14⟩, hM2.base⟩
  go_upto_region 19 with (go_at_call 13; refine CS.out.mono ?_; rintro e1 z5 ⟨gm1, rfl, hm, hbb⟩)
  have N5 := hd hm
  have X5 := hd hbb
  clear hm hbb CS N4
  have DD0 : Hid (∀ U, Below z5.heap.size z5 U → Calls Tryz.prog 10 #[v7, rD] U fun e w' => e = .returned (.bool true) ∧ Below z5.heap.size z5 w') := fun U hU => by
    obtain ⟨F, hM, f0, f1, f2, f3, f4, f5, f6, f7, f8, f11, f12, f13, f14⟩ := N5.out
    exact (eqOps_any v7 rD D U ((mo_rd hM 7 f7 sz_opc).below hU) ((mo_rd hM 11 f11 sz_opc).below hU) (Nat.le_trans HD4.out.1 (by decide))).mono (fun e w' h => ⟨h.1, hU.trans (h.2.mono hU.size)⟩)
  have DD1 : Hid (∀ U, Below z5.heap.size z5 U → Calls Tryz.prog 11 #[v8, rT] U fun e w' => e = .returned (.bool true) ∧ Below z5.heap.size z5 w') := fun U hU => by
    obtain ⟨F, hM, f0, f1, f2, f3, f4, f5, f6, f7, f8, f11, f12, f13, f14⟩ := N5.out
    exact (eqElems_any v8 rT (runP [] D) U ((mo_rd hM 8 f8 szEl).below hU) ((mo_rd hM 12 f12 szEl).below hU) (Nat.le_trans HD4.out.2 (by decide))).mono (fun e w' h => ⟨h.1, hU.trans (h.2.mono hU.size)⟩)
  have DD2 : Hid (∀ U, Below z5.heap.size z5 U → Calls Tryz.prog 10 #[v5, rD2] U fun e w' => e = .returned (.bool true) ∧ Below z5.heap.size z5 w') := fun U hU => by
    obtain ⟨F, hM, f0, f1, f2, f3, f4, f5, f6, f7, f8, f11, f12, f13, f14⟩ := N5.out
    exact (eqOps_any v5 rD2 D2 U ((mo_rd hM 5 f5 sz_opc).below hU) ((mo_rd hM 13 f13 sz_opc).below hU) (Nat.le_trans HD42.out.1 (by decide))).mono (fun e w' h => ⟨h.1, hU.trans (h.2.mono hU.size)⟩)
  have DD3 : Hid (∀ U, Below z5.heap.size z5 U → Calls Tryz.prog 11 #[v6, rT2] U fun e w' => e = .returned (.bool true) ∧ Below z5.heap.size z5 w') := fun U hU => by
    obtain ⟨F, hM, f0, f1, f2, f3, f4, f5, f6, f7, f8, f11, f12, f13, f14⟩ := N5.out
    exact (eqElems_any v6 rT2 (runP [] D2) U ((mo_rd hM 6 f6 szEl).below hU) ((mo_rd hM 14 f14 szEl).below hU) (Nat.le_trans HD42.out.2 (by decide))).mono (fun e w' h => ⟨h.1, hU.trans (h.2.mono hU.size)⟩)
  have hb0 : Below z5.heap.size z5 z5 := Below.refl _ _
  go_wp2_with fail
  refine (DD0.out _ hb0).mono ?_
  rintro e1 y6_0 ⟨rfl, hb1⟩
  go_wp2_with fail
  refine (DD1.out _ hb1).mono ?_
  rintro e1 y6_1 ⟨rfl, hb2⟩
  go_wp2_with fail
  refine (DD2.out _ hb2).mono ?_
  rintro e1 y6_2 ⟨rfl, hb3⟩
  go_wp2_with fail
  refine (DD3.out _ hb3).mono ?_
  rintro e1 y6_3 ⟨rfl, hb4⟩
  go_upto_region 21 with fail
  have X6 := hd (X5.out.trans (hb4.mono X5.out.size))
  have N6 : Hid (∃ F : Nat → Thg, MO w y6_3 NoK F ∧ F 0 = shO sx (([] ++ [x1] ++ [g1]) ++ [x2] ++ [g2]) (([] ++ [p1] ++ [q1]) ++ [p2] ++ [q2]) ([] ++ [x4] ++ [g4]) ([] ++ [p4] ++ [q4]) ((((0 + 1) + 1) + 1)) ∧ F 1 = mkO edc 6 (mkEd (0)) [(x1.val, es.length), (g1.val, es.length + 3), (p1.val, es.length), (q1.val, es.length + 3)] ∧ F 2 = mkO edc 6 (mkEd ((0 + 1))) [(x2.val, os.length), (g2.val, os.length + 3), (p2.val, os.length), (q2.val, os.length + 3)] ∧ F 3 = mkO opc 5 (mkOp (-1)) [(v3, D.length), (gm1, D.length + 2)] ∧ F 4 = mkO elc 3 (mkEl (((0 + 1) + 1))) [(x4.val, (runP [] D).length), (g4.val, (runP [] D).length + 3), (p4.val, (runP [] D).length), (q4.val, (runP [] D).length + 3)] ∧ F 5 = lsO opc 5 46 β5 v5 D2 ∧ F 6 = lsO elc 3 50 β6 v6 (runP [] D2) ∧ F 7 = lsO opc 5 46 β7 v7 D ∧ F 8 = lsO elc 3 50 β8 v8 (runP [] D) ∧ F 11 = lsO opc 5 46 β11 rD D ∧ F 12 = lsO elc 3 50 β12 rT (runP [] D) ∧ F 13 = lsO opc 5 46 β13 rD2 D2 ∧ F 14 = lsO elc 3 50 β14 rT2 (runP [] D2)) := by
    obtain ⟨F, hM, f0, f1, f2, f3, f4, f5, f6, f7, f8, f11, f12, f13, f14⟩ := N5.out
    exact ⟨_, hM.below hb4, f0, f1, f2, f3, f4, f5, f6, f7, f8, f11, f12, f13, f14⟩
  clear DD0 DD1 DD2 DD3 hb0 hb1 hb2 hb3 hb4 N5
  have CS : Hid (Calls Tryz.prog 12 #[.pointer (some ⟨sx, 0, none⟩), v8] y6_3 fun e w' => e = .returned (.tuple #[]) ∧ ∃ x7 g7 p7 q7 : SV, v8 = x7.val ∧ (∃ F : Nat → Thg, MO w w' NoK F ∧ F 0 = shO sx (([] ++ [x1] ++ [g1]) ++ [x2] ++ [g2]) (([] ++ [p1] ++ [q1]) ++ [p2] ++ [q2]) (([] ++ [x4] ++ [g4]) ++ [x7] ++ [g7]) (([] ++ [p4] ++ [q4]) ++ [p7] ++ [q7]) (((((0 + 1) + 1) + 1) + 1)) ∧ F 1 = mkO edc 6 (mkEd (0)) [(x1.val, es.length), (g1.val, es.length + 3), (p1.val, es.length), (q1.val, es.length + 3)] ∧ F 2 = mkO edc 6 (mkEd ((0 + 1))) [(x2.val, os.length), (g2.val, os.length + 3), (p2.val, os.length), (q2.val, os.length + 3)] ∧ F 3 = mkO opc 5 (mkOp (-1)) [(v3, D.length), (gm1, D.length + 2)] ∧ F 4 = mkO elc 3 (mkEl (((0 + 1) + 1))) [(x4.val, (runP [] D).length), (g4.val, (runP [] D).length + 3), (p4.val, (runP [] D).length), (q4.val, (runP [] D).length + 3)] ∧ F 5 = lsO opc 5 46 β5 v5 D2 ∧ F 6 = lsO elc 3 50 β6 v6 (runP [] D2) ∧ F 7 = lsO opc 5 46 β7 v7 D ∧ F 8 = mkO elc 3 (mkEl ((((0 + 1) + 1) + 1))) [(x7.val, (runP [] D).length), (g7.val, (runP [] D).length + 3), (p7.val, (runP [] D).length), (q7.val, (runP [] D).length + 3)] ∧ F 11 = lsO opc 5 46 β11 rD D ∧ F 12 = lsO elc 3 50 β12 rT (runP [] D) ∧ F 13 = lsO opc 5 46 β13 rD2 D2 ∧ F 14 = lsO elc 3 50 β14 rT2 (runP [] D2)) ∧ Below w.heap.size w w') := by
    obtain ⟨F, hM, f0, f1, f2, f3, f4, f5, f6, f7, f8, f11, f12, f13, f14⟩ := N6.out
    refine (mo_elems hM f0 8 (by decide) f8 (by simp) (by simp) (by omega) (Nat.le_trans HD4.out.2 (by decide))).mono ?_
    rintro e w' ⟨rfl, x, g, u1, u2, hv, hM2, -⟩
    exact ⟨rfl, x, g, u1, u2, hv, ⟨_, hM2, (setO_other _ _ (by decide)).trans (setO_same _ _ _), (setO_other _ _ (by decide)).trans ((setO_other _ _ (by decide)).trans f1), (setO_other _ _ (by decide)).trans ((setO_other _ _ (by decide)).trans f2), (setO_other _ _ (by decide)).trans ((setO_other _ _ (by decide)).trans f3), (setO_other _ _ (by decide)).trans ((setO_other _ _ (by decide)).trans f4), (setO_other _ _ (by decide)).trans ((setO_other _ _ (by decide)).trans f5), (setO_other _ _ (by decide)).trans ((setO_other _ _ (by decide)).trans f6), (setO_other _ _ (by decide)).trans ((setO_other _ _ (by decide)).trans f7), setO_same _ _ _, (setO_other _ _ (by decide)).trans ((setO_other _ _ (by decide)).trans f11), (setO_other _ _ (by decide)).trans ((setO_other _ _ (by decide)).trans f12), (setO_other _ _ (by decide)).trans ((setO_other _ _ (by decide)).trans f13), (setO_other _ _ (by decide)).trans ((setO_other _ _ (by decide)).trans f14)⟩, hM2.base⟩
  go_upto_region 22 with (go_at_call 12; refine CS.out.mono ?_; rintro e1 z7 ⟨rfl, x7, g7, p7, q7, hv7, hm, hbb⟩)
  have HV7 := hd hv7
  clear hv7
  have N7 := hd hm
  have X7 := hd hbb
  clear hm hbb CS N6
  have CS : Hid (Calls Tryz.prog 13 #[v7, .int .i64 (-3)] z7 fun e w' => ∃ gm3 : Value, e = .returned gm3 ∧ (∃ F : Nat → Thg, MO w w' NoK F ∧ F 0 = shO sx (([] ++ [x1] ++ [g1]) ++ [x2] ++ [g2]) (([] ++ [p1] ++ [q1]) ++ [p2] ++ [q2]) (([] ++ [x4] ++ [g4]) ++ [x7] ++ [g7]) (([] ++ [p4] ++ [q4]) ++ [p7] ++ [q7]) (((((0 + 1) + 1) + 1) + 1)) ∧ F 1 = mkO edc 6 (mkEd (0)) [(x1.val, es.length), (g1.val, es.length + 3), (p1.val, es.length), (q1.val, es.length + 3)] ∧ F 2 = mkO edc 6 (mkEd ((0 + 1))) [(x2.val, os.length), (g2.val, os.length + 3), (p2.val, os.length), (q2.val, os.length + 3)] ∧ F 3 = mkO opc 5 (mkOp (-1)) [(v3, D.length), (gm1, D.length + 2)] ∧ F 4 = mkO elc 3 (mkEl (((0 + 1) + 1))) [(x4.val, (runP [] D).length), (g4.val, (runP [] D).length + 3), (p4.val, (runP [] D).length), (q4.val, (runP [] D).length + 3)] ∧ F 5 = lsO opc 5 46 β5 v5 D2 ∧ F 6 = lsO elc 3 50 β6 v6 (runP [] D2) ∧ F 7 = mkO opc 5 (mkOp (-3)) [(v7, D.length), (gm3, D.length + 2)] ∧ F 8 = mkO elc 3 (mkEl ((((0 + 1) + 1) + 1))) [(x7.val, (runP [] D).length), (g7.val, (runP [] D).length + 3), (p7.val, (runP [] D).length), (q7.val, (runP [] D).length + 3)] ∧ F 11 = lsO opc 5 46 β11 rD D ∧ F 12 = lsO elc 3 50 β12 rT (runP [] D) ∧ F 13 = lsO opc 5 46 β13 rD2 D2 ∧ F 14 = lsO elc 3 50 β14 rT2 (runP [] D2)) ∧ Below w.heap.size w w') := by
    obtain ⟨F, hM, f0, f1, f2, f3, f4, f5, f6, f7, f8, f11, f12, f13, f14⟩ := N7.out
    refine (mo_marked hM 7 f7 (-3) (HD4.out.1)).mono ?_
    rintro e w' ⟨g, rfl, hM2, -⟩
    exact ⟨g, rfl, ⟨_, hM2, (setO_other _ _ (by decide)).trans f0, (setO_other _ _ (by decide)).trans f1, (setO_other _ _ (by decide)).trans f2, (setO_other _ _ (by decide)).trans f3, (setO_other _ _ (by decide)).trans f4, (setO_other _ _ (by decide)).trans f5, (setO_other _ _ (by decide)).trans f6, setO_same _ _ _, (setO_other _ _ (by decide)).trans f8, (setO_other _ _ (by decide)).trans f11, (setO_other _ _ (by decide)).trans f12, (setO_other _ _ (by decide)).trans f13, (setO_other _ _ (by decide)).trans f14⟩, hM2.base⟩
  go_upto_region 23 with (go_at_call 13; refine CS.out.mono ?_; rintro e1 z8 ⟨gm3, rfl, hm, hbb⟩)
  have N8 := hd hm
  have X8 := hd hbb
  clear hm hbb CS N7
  have DD0 : Hid (∀ U, Below z8.heap.size z8 U → Calls Tryz.prog 10 #[v5, rD2] U fun e w' => e = .returned (.bool true) ∧ Below z8.heap.size z8 w') := fun U hU => by
    obtain ⟨F, hM, f0, f1, f2, f3, f4, f5, f6, f7, f8, f11, f12, f13, f14⟩ := N8.out
    exact (eqOps_any v5 rD2 D2 U ((mo_rd hM 5 f5 sz_opc).below hU) ((mo_rd hM 13 f13 sz_opc).below hU) (Nat.le_trans HD42.out.1 (by decide))).mono (fun e w' h => ⟨h.1, hU.trans (h.2.mono hU.size)⟩)
  have DD1 : Hid (∀ U, Below z8.heap.size z8 U → Calls Tryz.prog 11 #[v6, rT2] U fun e w' => e = .returned (.bool true) ∧ Below z8.heap.size z8 w') := fun U hU => by
    obtain ⟨F, hM, f0, f1, f2, f3, f4, f5, f6, f7, f8, f11, f12, f13, f14⟩ := N8.out
    exact (eqElems_any v6 rT2 (runP [] D2) U ((mo_rd hM 6 f6 szEl).below hU) ((mo_rd hM 14 f14 szEl).below hU) (Nat.le_trans HD42.out.2 (by decide))).mono (fun e w' h => ⟨h.1, hU.trans (h.2.mono hU.size)⟩)
  have DD2 : Hid (∀ U, Below z8.heap.size z8 U → Calls Tryz.prog 14 #[v7, .int .i64 (-3)] U fun e w' => e = .returned (.bool true) ∧ Below z8.heap.size z8 w') := fun U hU => by
    obtain ⟨F, hM, f0, f1, f2, f3, f4, f5, f6, f7, f8, f11, f12, f13, f14⟩ := N8.out
    exact (still_any v7 (D.length) (-3) U ((mo_mk hM 7 f7 (x := (v7, D.length)) (by simp)).below hU) (by have := HD4.out.1; omega)).mono (fun e w' h => ⟨h.1, hU.trans (h.2.mono hU.size)⟩)
  have DD3 : Hid (∀ U, Below z8.heap.size z8 U → Calls Tryz.prog 14 #[gm3, .int .i64 (-3)] U fun e w' => e = .returned (.bool true) ∧ Below z8.heap.size z8 w') := fun U hU => by
    obtain ⟨F, hM, f0, f1, f2, f3, f4, f5, f6, f7, f8, f11, f12, f13, f14⟩ := N8.out
    exact (still_any gm3 (D.length + 2) (-3) U ((mo_mk hM 7 f7 (x := (gm3, D.length + 2)) (by simp)).below hU) (by have := HD4.out.1; omega)).mono (fun e w' h => ⟨h.1, hU.trans (h.2.mono hU.size)⟩)
  have hb0 : Below z8.heap.size z8 z8 := Below.refl _ _
  go_wp2_with fail
  refine (DD0.out _ hb0).mono ?_
  rintro e1 y9_0 ⟨rfl, hb1⟩
  go_wp2_with fail
  refine (DD1.out _ hb1).mono ?_
  rintro e1 y9_1 ⟨rfl, hb2⟩
  go_wp2_with fail
  refine (DD2.out _ hb2).mono ?_
  rintro e1 y9_2 ⟨rfl, hb3⟩
  go_wp2_with fail
  refine (DD3.out _ hb3).mono ?_
  rintro e1 y9_3 ⟨rfl, hb4⟩
  go_upto_region 25 with fail
  have X9 := hd (X8.out.trans (hb4.mono X8.out.size))
  have N9 : Hid (∃ F : Nat → Thg, MO w y9_3 NoK F ∧ F 0 = shO sx (([] ++ [x1] ++ [g1]) ++ [x2] ++ [g2]) (([] ++ [p1] ++ [q1]) ++ [p2] ++ [q2]) (([] ++ [x4] ++ [g4]) ++ [x7] ++ [g7]) (([] ++ [p4] ++ [q4]) ++ [p7] ++ [q7]) (((((0 + 1) + 1) + 1) + 1)) ∧ F 1 = mkO edc 6 (mkEd (0)) [(x1.val, es.length), (g1.val, es.length + 3), (p1.val, es.length), (q1.val, es.length + 3)] ∧ F 2 = mkO edc 6 (mkEd ((0 + 1))) [(x2.val, os.length), (g2.val, os.length + 3), (p2.val, os.length), (q2.val, os.length + 3)] ∧ F 3 = mkO opc 5 (mkOp (-1)) [(v3, D.length), (gm1, D.length + 2)] ∧ F 4 = mkO elc 3 (mkEl (((0 + 1) + 1))) [(x4.val, (runP [] D).length), (g4.val, (runP [] D).length + 3), (p4.val, (runP [] D).length), (q4.val, (runP [] D).length + 3)] ∧ F 5 = lsO opc 5 46 β5 v5 D2 ∧ F 6 = lsO elc 3 50 β6 v6 (runP [] D2) ∧ F 7 = mkO opc 5 (mkOp (-3)) [(v7, D.length), (gm3, D.length + 2)] ∧ F 8 = mkO elc 3 (mkEl ((((0 + 1) + 1) + 1))) [(x7.val, (runP [] D).length), (g7.val, (runP [] D).length + 3), (p7.val, (runP [] D).length), (q7.val, (runP [] D).length + 3)] ∧ F 11 = lsO opc 5 46 β11 rD D ∧ F 12 = lsO elc 3 50 β12 rT (runP [] D) ∧ F 13 = lsO opc 5 46 β13 rD2 D2 ∧ F 14 = lsO elc 3 50 β14 rT2 (runP [] D2)) := by
    obtain ⟨F, hM, f0, f1, f2, f3, f4, f5, f6, f7, f8, f11, f12, f13, f14⟩ := N8.out
    exact ⟨_, hM.below hb4, f0, f1, f2, f3, f4, f5, f6, f7, f8, f11, f12, f13, f14⟩
  clear DD0 DD1 DD2 DD3 hb0 hb1 hb2 hb3 hb4 N8
  have CS : Hid (Calls Tryz.prog 12 #[.pointer (some ⟨sx, 0, none⟩), v6] y9_3 fun e w' => e = .returned (.tuple #[]) ∧ ∃ x10 g10 p10 q10 : SV, v6 = x10.val ∧ (∃ F : Nat → Thg, MO w w' NoK F ∧ F 0 = shO sx (([] ++ [x1] ++ [g1]) ++ [x2] ++ [g2]) (([] ++ [p1] ++ [q1]) ++ [p2] ++ [q2]) ((([] ++ [x4] ++ [g4]) ++ [x7] ++ [g7]) ++ [x10] ++ [g10]) ((([] ++ [p4] ++ [q4]) ++ [p7] ++ [q7]) ++ [p10] ++ [q10]) ((((((0 + 1) + 1) + 1) + 1) + 1)) ∧ F 1 = mkO edc 6 (mkEd (0)) [(x1.val, es.length), (g1.val, es.length + 3), (p1.val, es.length), (q1.val, es.length + 3)] ∧ F 2 = mkO edc 6 (mkEd ((0 + 1))) [(x2.val, os.length), (g2.val, os.length + 3), (p2.val, os.length), (q2.val, os.length + 3)] ∧ F 3 = mkO opc 5 (mkOp (-1)) [(v3, D.length), (gm1, D.length + 2)] ∧ F 4 = mkO elc 3 (mkEl (((0 + 1) + 1))) [(x4.val, (runP [] D).length), (g4.val, (runP [] D).length + 3), (p4.val, (runP [] D).length), (q4.val, (runP [] D).length + 3)] ∧ F 5 = lsO opc 5 46 β5 v5 D2 ∧ F 6 = mkO elc 3 (mkEl (((((0 + 1) + 1) + 1) + 1))) [(x10.val, (runP [] D2).length), (g10.val, (runP [] D2).length + 3), (p10.val, (runP [] D2).length), (q10.val, (runP [] D2).length + 3)] ∧ F 7 = mkO opc 5 (mkOp (-3)) [(v7, D.length), (gm3, D.length + 2)] ∧ F 8 = mkO elc 3 (mkEl ((((0 + 1) + 1) + 1))) [(x7.val, (runP [] D).length), (g7.val, (runP [] D).length + 3), (p7.val, (runP [] D).length), (q7.val, (runP [] D).length + 3)] ∧ F 11 = lsO opc 5 46 β11 rD D ∧ F 12 = lsO elc 3 50 β12 rT (runP [] D) ∧ F 13 = lsO opc 5 46 β13 rD2 D2 ∧ F 14 = lsO elc 3 50 β14 rT2 (runP [] D2)) ∧ Below w.heap.size w w') := by
    obtain ⟨F, hM, f0, f1, f2, f3, f4, f5, f6, f7, f8, f11, f12, f13, f14⟩ := N9.out
    refine (mo_elems hM f0 6 (by decide) f6 (by simp) (by simp) (by omega) (Nat.le_trans HD42.out.2 (by decide))).mono ?_
    rintro e w' ⟨rfl, x, g, u1, u2, hv, hM2, -⟩
    exact ⟨rfl, x, g, u1, u2, hv, ⟨_, hM2, (setO_other _ _ (by decide)).trans (setO_same _ _ _), (setO_other _ _ (by decide)).trans ((setO_other _ _ (by decide)).trans f1), (setO_other _ _ (by decide)).trans ((setO_other _ _ (by decide)).trans f2), (setO_other _ _ (by decide)).trans ((setO_other _ _ (by decide)).trans f3), (setO_other _ _ (by decide)).trans ((setO_other _ _ (by decide)).trans f4), (setO_other _ _ (by decide)).trans ((setO_other _ _ (by decide)).trans f5), setO_same _ _ _, (setO_other _ _ (by decide)).trans ((setO_other _ _ (by decide)).trans f7), (setO_other _ _ (by decide)).trans ((setO_other _ _ (by decide)).trans f8), (setO_other _ _ (by decide)).trans ((setO_other _ _ (by decide)).trans f11), (setO_other _ _ (by decide)).trans ((setO_other _ _ (by decide)).trans f12), (setO_other _ _ (by decide)).trans ((setO_other _ _ (by decide)).trans f13), (setO_other _ _ (by decide)).trans ((setO_other _ _ (by decide)).trans f14)⟩, hM2.base⟩
  go_upto_region 26 with (go_at_call 12; refine CS.out.mono ?_; rintro e1 z10 ⟨rfl, x10, g10, p10, q10, hv10, hm, hbb⟩)
  have HV10 := hd hv10
  clear hv10
  have N10 := hd hm
  have X10 := hd hbb
  clear hm hbb CS N9
  have CS : Hid (Calls Tryz.prog 13 #[v5, .int .i64 (-2)] z10 fun e w' => ∃ gm2 : Value, e = .returned gm2 ∧ (∃ F : Nat → Thg, MO w w' NoK F ∧ F 0 = shO sx (([] ++ [x1] ++ [g1]) ++ [x2] ++ [g2]) (([] ++ [p1] ++ [q1]) ++ [p2] ++ [q2]) ((([] ++ [x4] ++ [g4]) ++ [x7] ++ [g7]) ++ [x10] ++ [g10]) ((([] ++ [p4] ++ [q4]) ++ [p7] ++ [q7]) ++ [p10] ++ [q10]) ((((((0 + 1) + 1) + 1) + 1) + 1)) ∧ F 1 = mkO edc 6 (mkEd (0)) [(x1.val, es.length), (g1.val, es.length + 3), (p1.val, es.length), (q1.val, es.length + 3)] ∧ F 2 = mkO edc 6 (mkEd ((0 + 1))) [(x2.val, os.length), (g2.val, os.length + 3), (p2.val, os.length), (q2.val, os.length + 3)] ∧ F 3 = mkO opc 5 (mkOp (-1)) [(v3, D.length), (gm1, D.length + 2)] ∧ F 4 = mkO elc 3 (mkEl (((0 + 1) + 1))) [(x4.val, (runP [] D).length), (g4.val, (runP [] D).length + 3), (p4.val, (runP [] D).length), (q4.val, (runP [] D).length + 3)] ∧ F 5 = mkO opc 5 (mkOp (-2)) [(v5, D2.length), (gm2, D2.length + 2)] ∧ F 6 = mkO elc 3 (mkEl (((((0 + 1) + 1) + 1) + 1))) [(x10.val, (runP [] D2).length), (g10.val, (runP [] D2).length + 3), (p10.val, (runP [] D2).length), (q10.val, (runP [] D2).length + 3)] ∧ F 7 = mkO opc 5 (mkOp (-3)) [(v7, D.length), (gm3, D.length + 2)] ∧ F 8 = mkO elc 3 (mkEl ((((0 + 1) + 1) + 1))) [(x7.val, (runP [] D).length), (g7.val, (runP [] D).length + 3), (p7.val, (runP [] D).length), (q7.val, (runP [] D).length + 3)] ∧ F 11 = lsO opc 5 46 β11 rD D ∧ F 12 = lsO elc 3 50 β12 rT (runP [] D) ∧ F 13 = lsO opc 5 46 β13 rD2 D2 ∧ F 14 = lsO elc 3 50 β14 rT2 (runP [] D2)) ∧ Below w.heap.size w w') := by
    obtain ⟨F, hM, f0, f1, f2, f3, f4, f5, f6, f7, f8, f11, f12, f13, f14⟩ := N10.out
    refine (mo_marked hM 5 f5 (-2) (HD42.out.1)).mono ?_
    rintro e w' ⟨g, rfl, hM2, -⟩
    exact ⟨g, rfl, ⟨_, hM2, (setO_other _ _ (by decide)).trans f0, (setO_other _ _ (by decide)).trans f1, (setO_other _ _ (by decide)).trans f2, (setO_other _ _ (by decide)).trans f3, (setO_other _ _ (by decide)).trans f4, setO_same _ _ _, (setO_other _ _ (by decide)).trans f6, (setO_other _ _ (by decide)).trans f7, (setO_other _ _ (by decide)).trans f8, (setO_other _ _ (by decide)).trans f11, (setO_other _ _ (by decide)).trans f12, (setO_other _ _ (by decide)).trans f13, (setO_other _ _ (by decide)).trans f14⟩, hM2.base⟩
  go_upto_region 27 with (go_at_call 13; refine CS.out.mono ?_; rintro e1 z11 ⟨gm2, rfl, hm, hbb⟩)
  have N11 := hd hm
  have X11 := hd hbb
  clear hm hbb CS N10
  obtain ⟨aF, caF, w27, hap, ⟨βaF, hA, lA⟩, b4⟩ := run_cpEd z11 (.slice aE nE cE) es (IsL.rd (HE.out.below X11.out (Nat.le_refl _))) (by rw [HE.out.1]; exact HBE.out)
  have HAP := hd hap
  have B27 := hd (X11.out.trans (b4.mono X11.out.size))
  have HA := hd hA
  have C9 := hd (preplay aF es.length caF es w27 (by obtain ⟨a9, c9, e9, h9⟩ := HA.out.isL; injection e9 with e9 _ _; subst e9; exact h9) HCE.out (HT.out.below B27.out HT.out.1))
  have N27 : Hid (∃ F : Nat → Thg, MO w w27 NoK F ∧ F 0 = shO sx (([] ++ [x1] ++ [g1]) ++ [x2] ++ [g2]) (([] ++ [p1] ++ [q1]) ++ [p2] ++ [q2]) ((([] ++ [x4] ++ [g4]) ++ [x7] ++ [g7]) ++ [x10] ++ [g10]) ((([] ++ [p4] ++ [q4]) ++ [p7] ++ [q7]) ++ [p10] ++ [q10]) ((((((0 + 1) + 1) + 1) + 1) + 1)) ∧ F 1 = mkO edc 6 (mkEd (0)) [(x1.val, es.length), (g1.val, es.length + 3), (p1.val, es.length), (q1.val, es.length + 3)] ∧ F 2 = mkO edc 6 (mkEd ((0 + 1))) [(x2.val, os.length), (g2.val, os.length + 3), (p2.val, os.length), (q2.val, os.length + 3)] ∧ F 3 = mkO opc 5 (mkOp (-1)) [(v3, D.length), (gm1, D.length + 2)] ∧ F 4 = mkO elc 3 (mkEl (((0 + 1) + 1))) [(x4.val, (runP [] D).length), (g4.val, (runP [] D).length + 3), (p4.val, (runP [] D).length), (q4.val, (runP [] D).length + 3)] ∧ F 5 = mkO opc 5 (mkOp (-2)) [(v5, D2.length), (gm2, D2.length + 2)] ∧ F 6 = mkO elc 3 (mkEl (((((0 + 1) + 1) + 1) + 1))) [(x10.val, (runP [] D2).length), (g10.val, (runP [] D2).length + 3), (p10.val, (runP [] D2).length), (q10.val, (runP [] D2).length + 3)] ∧ F 7 = mkO opc 5 (mkOp (-3)) [(v7, D.length), (gm3, D.length + 2)] ∧ F 8 = mkO elc 3 (mkEl ((((0 + 1) + 1) + 1))) [(x7.val, (runP [] D).length), (g7.val, (runP [] D).length + 3), (p7.val, (runP [] D).length), (q7.val, (runP [] D).length + 3)] ∧ F 11 = lsO opc 5 46 β11 rD D ∧ F 12 = lsO elc 3 50 β12 rT (runP [] D) ∧ F 13 = lsO opc 5 46 β13 rD2 D2 ∧ F 14 = lsO elc 3 50 β14 rT2 (runP [] D2)) := by
    obtain ⟨F, hM, f0, f1, f2, f3, f4, f5, f6, f7, f8, f11, f12, f13, f14⟩ := N11.out
    exact ⟨_, hM.below b4, f0, f1, f2, f3, f4, f5, f6, f7, f8, f11, f12, f13, f14⟩
  clear hap hA lA b4 N11
  go_upto_region 28 with (first | (at_builtin; refine wpList_append_k _ rfl _ _ 22 22 rfl _ _ rfl rfl (HAP.out _) ?_) | (go_at_call 6; refine C9.out.mono ?_; rintro e1 w28 ⟨v9, v10, vErr4, rfl, hP⟩))
  obtain ⟨⟨β9, k1, k2⟩, ⟨β10, k3, k4⟩, k5⟩ := hP.of HREP.out
  have B28 := hd (B27.out.trans (hP.bel.mono B27.out.size))
  have HER4 := hd k5
  have N28 : Hid (∃ F : Nat → Thg, MO w w28 NoK F ∧ F 0 = shO sx (([] ++ [x1] ++ [g1]) ++ [x2] ++ [g2]) (([] ++ [p1] ++ [q1]) ++ [p2] ++ [q2]) ((([] ++ [x4] ++ [g4]) ++ [x7] ++ [g7]) ++ [x10] ++ [g10]) ((([] ++ [p4] ++ [q4]) ++ [p7] ++ [q7]) ++ [p10] ++ [q10]) ((((((0 + 1) + 1) + 1) + 1) + 1)) ∧ F 1 = mkO edc 6 (mkEd (0)) [(x1.val, es.length), (g1.val, es.length + 3), (p1.val, es.length), (q1.val, es.length + 3)] ∧ F 2 = mkO edc 6 (mkEd ((0 + 1))) [(x2.val, os.length), (g2.val, os.length + 3), (p2.val, os.length), (q2.val, os.length + 3)] ∧ F 3 = mkO opc 5 (mkOp (-1)) [(v3, D.length), (gm1, D.length + 2)] ∧ F 4 = mkO elc 3 (mkEl (((0 + 1) + 1))) [(x4.val, (runP [] D).length), (g4.val, (runP [] D).length + 3), (p4.val, (runP [] D).length), (q4.val, (runP [] D).length + 3)] ∧ F 5 = mkO opc 5 (mkOp (-2)) [(v5, D2.length), (gm2, D2.length + 2)] ∧ F 6 = mkO elc 3 (mkEl (((((0 + 1) + 1) + 1) + 1))) [(x10.val, (runP [] D2).length), (g10.val, (runP [] D2).length + 3), (p10.val, (runP [] D2).length), (q10.val, (runP [] D2).length + 3)] ∧ F 7 = mkO opc 5 (mkOp (-3)) [(v7, D.length), (gm3, D.length + 2)] ∧ F 8 = mkO elc 3 (mkEl ((((0 + 1) + 1) + 1))) [(x7.val, (runP [] D).length), (g7.val, (runP [] D).length + 3), (p7.val, (runP [] D).length), (q7.val, (runP [] D).length + 3)] ∧ F 9 = lsO opc 5 46 β9 v9 D ∧ F 10 = lsO elc 3 50 β10 v10 (runP [] D) ∧ F 11 = lsO opc 5 46 β11 rD D ∧ F 12 = lsO elc 3 50 β12 rT (runP [] D) ∧ F 13 = lsO opc 5 46 β13 rD2 D2 ∧ F 14 = lsO elc 3 50 β14 rT2 (runP [] D2)) := by
    obtain ⟨F, hM, f0, f1, f2, f3, f4, f5, f6, f7, f8, f11, f12, f13, f14⟩ := N27.out
    exact ⟨_, mo_two hM hP.bel 9 10 (by decide) k1 k2 k3 k4, (setO_other _ _ (by decide)).trans ((setO_other _ _ (by decide)).trans (f0)), (setO_other _ _ (by decide)).trans ((setO_other _ _ (by decide)).trans (f1)), (setO_other _ _ (by decide)).trans ((setO_other _ _ (by decide)).trans (f2)), (setO_other _ _ (by decide)).trans ((setO_other _ _ (by decide)).trans (f3)), (setO_other _ _ (by decide)).trans ((setO_other _ _ (by decide)).trans (f4)), (setO_other _ _ (by decide)).trans ((setO_other _ _ (by decide)).trans (f5)), (setO_other _ _ (by decide)).trans ((setO_other _ _ (by decide)).trans (f6)), (setO_other _ _ (by decide)).trans ((setO_other _ _ (by decide)).trans (f7)), (setO_other _ _ (by decide)).trans ((setO_other _ _ (by decide)).trans (f8)), (setO_other _ _ (by decide)).trans (setO_same _ _ _), setO_same _ _ _, (setO_other _ _ (by decide)).trans ((setO_other _ _ (by decide)).trans (f11)), (setO_other _ _ (by decide)).trans ((setO_other _ _ (by decide)).trans (f12)), (setO_other _ _ (by decide)).trans ((setO_other _ _ (by decide)).trans (f13)), (setO_other _ _ (by decide)).trans ((setO_other _ _ (by decide)).trans (f14))⟩
  clear C9 hP k1 k2 k3 k4 k5 N27 HA HAP
  have DD0 : Hid (∀ U, Below w28.heap.size w28 U → Calls Tryz.prog 10 #[v9, rD] U fun e w' => e = .returned (.bool true) ∧ Below w28.heap.size w28 w') := fun U hU => by
    obtain ⟨F, hM, f0, f1, f2, f3, f4, f5, f6, f7, f8, f9, f10, f11, f12, f13, f14⟩ := N28.out
    exact (eqOps_any v9 rD D U ((mo_rd hM 9 f9 sz_opc).below hU) ((mo_rd hM 11 f11 sz_opc).below hU) (Nat.le_trans HD4.out.1 (by decide))).mono (fun e w' h => ⟨h.1, hU.trans (h.2.mono hU.size)⟩)
  have DD1 : Hid (∀ U, Below w28.heap.size w28 U → Calls Tryz.prog 11 #[v10, rT] U fun e w' => e = .returned (.bool true) ∧ Below w28.heap.size w28 w') := fun U hU => by
    obtain ⟨F, hM, f0, f1, f2, f3, f4, f5, f6, f7, f8, f9, f10, f11, f12, f13, f14⟩ := N28.out
    exact (eqElems_any v10 rT (runP [] D) U ((mo_rd hM 10 f10 szEl).below hU) ((mo_rd hM 12 f12 szEl).below hU) (Nat.le_trans HD4.out.2 (by decide))).mono (fun e w' h => ⟨h.1, hU.trans (h.2.mono hU.size)⟩)
  have DD2 : Hid (∀ U, Below w28.heap.size w28 U → Calls Tryz.prog 7 #[vErr4, .int .i64 cd, .int .i64 at1] U fun e w' => e = .returned (.bool true) ∧ Below w28.heap.size w28 w') := fun U hU => by
    obtain ⟨F, hM, f0, f1, f2, f3, f4, f5, f6, f7, f8, f9, f10, f11, f12, f13, f14⟩ := N28.out
    exact (is_any (HER4.out.imp id (fun h => h.below hU)) (HH.out.below (B28.out.trans (hU.mono B28.out.size)) HH.out.pos)).mono (fun e w' h => ⟨h.1, hU.trans (h.2.mono hU.size)⟩)
  have hb0 : Below w28.heap.size w28 w28 := Below.refl _ _
  go_wp2_with fail
  refine (DD0.out _ hb0).mono ?_
  rintro e1 y12_0 ⟨rfl, hb1⟩
  go_wp2_with fail
  refine (DD1.out _ hb1).mono ?_
  rintro e1 y12_1 ⟨rfl, hb2⟩
  go_wp2_with fail
  refine (DD2.out _ hb2).mono ?_
  rintro e1 y12_2 ⟨rfl, hb3⟩
  go_upto_region 30 with fail
  have X12 := hd (B28.out.trans (hb3.mono B28.out.size))
  have N12 : Hid (∃ F : Nat → Thg, MO w y12_2 NoK F ∧ F 0 = shO sx (([] ++ [x1] ++ [g1]) ++ [x2] ++ [g2]) (([] ++ [p1] ++ [q1]) ++ [p2] ++ [q2]) ((([] ++ [x4] ++ [g4]) ++ [x7] ++ [g7]) ++ [x10] ++ [g10]) ((([] ++ [p4] ++ [q4]) ++ [p7] ++ [q7]) ++ [p10] ++ [q10]) ((((((0 + 1) + 1) + 1) + 1) + 1)) ∧ F 1 = mkO edc 6 (mkEd (0)) [(x1.val, es.length), (g1.val, es.length + 3), (p1.val, es.length), (q1.val, es.length + 3)] ∧ F 2 = mkO edc 6 (mkEd ((0 + 1))) [(x2.val, os.length), (g2.val, os.length + 3), (p2.val, os.length), (q2.val, os.length + 3)] ∧ F 3 = mkO opc 5 (mkOp (-1)) [(v3, D.length), (gm1, D.length + 2)] ∧ F 4 = mkO elc 3 (mkEl (((0 + 1) + 1))) [(x4.val, (runP [] D).length), (g4.val, (runP [] D).length + 3), (p4.val, (runP [] D).length), (q4.val, (runP [] D).length + 3)] ∧ F 5 = mkO opc 5 (mkOp (-2)) [(v5, D2.length), (gm2, D2.length + 2)] ∧ F 6 = mkO elc 3 (mkEl (((((0 + 1) + 1) + 1) + 1))) [(x10.val, (runP [] D2).length), (g10.val, (runP [] D2).length + 3), (p10.val, (runP [] D2).length), (q10.val, (runP [] D2).length + 3)] ∧ F 7 = mkO opc 5 (mkOp (-3)) [(v7, D.length), (gm3, D.length + 2)] ∧ F 8 = mkO elc 3 (mkEl ((((0 + 1) + 1) + 1))) [(x7.val, (runP [] D).length), (g7.val, (runP [] D).length + 3), (p7.val, (runP [] D).length), (q7.val, (runP [] D).length + 3)] ∧ F 9 = lsO opc 5 46 β9 v9 D ∧ F 10 = lsO elc 3 50 β10 v10 (runP [] D) ∧ F 11 = lsO opc 5 46 β11 rD D ∧ F 12 = lsO elc 3 50 β12 rT (runP [] D) ∧ F 13 = lsO opc 5 46 β13 rD2 D2 ∧ F 14 = lsO elc 3 50 β14 rT2 (runP [] D2)) := by
    obtain ⟨F, hM, f0, f1, f2, f3, f4, f5, f6, f7, f8, f9, f10, f11, f12, f13, f14⟩ := N28.out
    exact ⟨_, hM.below hb3, f0, f1, f2, f3, f4, f5, f6, f7, f8, f9, f10, f11, f12, f13, f14⟩
  clear DD0 DD1 DD2 hb0 hb1 hb2 hb3 N28
  have DD0 : Hid (∀ U, Below y12_2.heap.size y12_2 U → Calls Tryz.prog 15 #[.pointer (some ⟨sx, 0, none⟩)] U fun e w' => e = .returned (.bool true) ∧ Below y12_2.heap.size y12_2 w') := fun U hU => by
    obtain ⟨F, hM, f0, f1, f2, f3, f4, f5, f6, f7, f8, f9, f10, f11, f12, f13, f14⟩ := N12.out
    exact ((show Calls Tryz.prog 15 #[.pointer (some ⟨sx, 0, none⟩)] U fun e w' => e = .returned (.bool true) ∧ Below U.heap.size U w' from by
      obtain ⟨S0, hs0, -⟩ := hM.now 0
      rw [f0] at hs0
      obtain ⟨vE, vW, vD, vU, bE, bW, bD, bU, hX, -⟩ := hs0
      exact untouched_any (hX.below hU) (((PrS.nil edc 6 U).add (n := es.length) (m := es.length + 3) (x := x1) (g := g1) (u1 := p1) (u2 := q1) (by have := HE.out.1; have := HBE.out; omega) (by have := HE.out.1; have := HBE.out; omega) ((mo_mk hM 1 f1 (x := (x1.val, es.length)) (by simp)).below hU) ((mo_mk hM 1 f1 (x := (g1.val, es.length + 3)) (by simp)).below hU) ((mo_mk hM 1 f1 (x := (p1.val, es.length)) (by simp)).below hU) ((mo_mk hM 1 f1 (x := (q1.val, es.length + 3)) (by simp)).below hU)).add (n := os.length) (m := os.length + 3) (x := x2) (g := g2) (u1 := p2) (u2 := q2) (by have := HO.out.1; have := HBO.out; omega) (by have := HO.out.1; have := HBO.out; omega) ((mo_mk hM 2 f2 (x := (x2.val, os.length)) (by simp)).below hU) ((mo_mk hM 2 f2 (x := (g2.val, os.length + 3)) (by simp)).below hU) ((mo_mk hM 2 f2 (x := (p2.val, os.length)) (by simp)).below hU) ((mo_mk hM 2 f2 (x := (q2.val, os.length + 3)) (by simp)).below hU)) ((((PrS.nil elc 3 U).add (n := (runP [] D).length) (m := (runP [] D).length + 3) (x := x4) (g := g4) (u1 := p4) (u2 := q4) (by have := HD4.out.2; omega) (by have := HD4.out.2; omega) ((mo_mk hM 4 f4 (x := (x4.val, (runP [] D).length)) (by simp)).below hU) ((mo_mk hM 4 f4 (x := (g4.val, (runP [] D).length + 3)) (by simp)).below hU) ((mo_mk hM 4 f4 (x := (p4.val, (runP [] D).length)) (by simp)).below hU) ((mo_mk hM 4 f4 (x := (q4.val, (runP [] D).length + 3)) (by simp)).below hU)).add (n := (runP [] D).length) (m := (runP [] D).length + 3) (x := x7) (g := g7) (u1 := p7) (u2 := q7) (by have := HD4.out.2; omega) (by have := HD4.out.2; omega) ((mo_mk hM 8 f8 (x := (x7.val, (runP [] D).length)) (by simp)).below hU) ((mo_mk hM 8 f8 (x := (g7.val, (runP [] D).length + 3)) (by simp)).below hU) ((mo_mk hM 8 f8 (x := (p7.val, (runP [] D).length)) (by simp)).below hU) ((mo_mk hM 8 f8 (x := (q7.val, (runP [] D).length + 3)) (by simp)).below hU)).add (n := (runP [] D2).length) (m := (runP [] D2).length + 3) (x := x10) (g := g10) (u1 := p10) (u2 := q10) (by have := HD42.out.2; omega) (by have := HD42.out.2; omega) ((mo_mk hM 6 f6 (x := (x10.val, (runP [] D2).length)) (by simp)).below hU) ((mo_mk hM 6 f6 (x := (g10.val, (runP [] D2).length + 3)) (by simp)).below hU) ((mo_mk hM 6 f6 (x := (p10.val, (runP [] D2).length)) (by simp)).below hU) ((mo_mk hM 6 f6 (x := (q10.val, (runP [] D2).length + 3)) (by simp)).below hU)) (by simp) (by simp))).mono (fun e w' h => ⟨h.1, hU.trans (h.2.mono hU.size)⟩)
  have DD1 : Hid (∀ U, Below y12_2.heap.size y12_2 U → Calls Tryz.prog 14 #[v3, .int .i64 (-1)] U fun e w' => e = .returned (.bool true) ∧ Below y12_2.heap.size y12_2 w') := fun U hU => by
    obtain ⟨F, hM, f0, f1, f2, f3, f4, f5, f6, f7, f8, f9, f10, f11, f12, f13, f14⟩ := N12.out
    exact (still_any v3 (D.length) (-1) U ((mo_mk hM 3 f3 (x := (v3, D.length)) (by simp)).below hU) (by have := HD4.out.1; omega)).mono (fun e w' h => ⟨h.1, hU.trans (h.2.mono hU.size)⟩)
  have DD2 : Hid (∀ U, Below y12_2.heap.size y12_2 U → Calls Tryz.prog 14 #[v5, .int .i64 (-2)] U fun e w' => e = .returned (.bool true) ∧ Below y12_2.heap.size y12_2 w') := fun U hU => by
    obtain ⟨F, hM, f0, f1, f2, f3, f4, f5, f6, f7, f8, f9, f10, f11, f12, f13, f14⟩ := N12.out
    exact (still_any v5 (D2.length) (-2) U ((mo_mk hM 5 f5 (x := (v5, D2.length)) (by simp)).below hU) (by have := HD42.out.1; omega)).mono (fun e w' h => ⟨h.1, hU.trans (h.2.mono hU.size)⟩)
  have DD3 : Hid (∀ U, Below y12_2.heap.size y12_2 U → Calls Tryz.prog 14 #[gm1, .int .i64 (-1)] U fun e w' => e = .returned (.bool true) ∧ Below y12_2.heap.size y12_2 w') := fun U hU => by
    obtain ⟨F, hM, f0, f1, f2, f3, f4, f5, f6, f7, f8, f9, f10, f11, f12, f13, f14⟩ := N12.out
    exact (still_any gm1 (D.length + 2) (-1) U ((mo_mk hM 3 f3 (x := (gm1, D.length + 2)) (by simp)).below hU) (by have := HD4.out.1; omega)).mono (fun e w' h => ⟨h.1, hU.trans (h.2.mono hU.size)⟩)
  have DD4 : Hid (∀ U, Below y12_2.heap.size y12_2 U → Calls Tryz.prog 14 #[gm2, .int .i64 (-2)] U fun e w' => e = .returned (.bool true) ∧ Below y12_2.heap.size y12_2 w') := fun U hU => by
    obtain ⟨F, hM, f0, f1, f2, f3, f4, f5, f6, f7, f8, f9, f10, f11, f12, f13, f14⟩ := N12.out
    exact (still_any gm2 (D2.length + 2) (-2) U ((mo_mk hM 5 f5 (x := (gm2, D2.length + 2)) (by simp)).below hU) (by have := HD42.out.1; omega)).mono (fun e w' h => ⟨h.1, hU.trans (h.2.mono hU.size)⟩)
  have DD5 : Hid (∀ U, Below y12_2.heap.size y12_2 U → Calls Tryz.prog 14 #[v7, .int .i64 (-3)] U fun e w' => e = .returned (.bool true) ∧ Below y12_2.heap.size y12_2 w') := fun U hU => by
    obtain ⟨F, hM, f0, f1, f2, f3, f4, f5, f6, f7, f8, f9, f10, f11, f12, f13, f14⟩ := N12.out
    exact (still_any v7 (D.length) (-3) U ((mo_mk hM 7 f7 (x := (v7, D.length)) (by simp)).below hU) (by have := HD4.out.1; omega)).mono (fun e w' h => ⟨h.1, hU.trans (h.2.mono hU.size)⟩)
  have DD6 : Hid (∀ U, Below y12_2.heap.size y12_2 U → Calls Tryz.prog 14 #[gm3, .int .i64 (-3)] U fun e w' => e = .returned (.bool true) ∧ Below y12_2.heap.size y12_2 w') := fun U hU => by
    obtain ⟨F, hM, f0, f1, f2, f3, f4, f5, f6, f7, f8, f9, f10, f11, f12, f13, f14⟩ := N12.out
    exact (still_any gm3 (D.length + 2) (-3) U ((mo_mk hM 7 f7 (x := (gm3, D.length + 2)) (by simp)).below hU) (by have := HD4.out.1; omega)).mono (fun e w' h => ⟨h.1, hU.trans (h.2.mono hU.size)⟩)
  have hb0 : Below y12_2.heap.size y12_2 y12_2 := Below.refl _ _
  go_wp2_with fail
  refine (DD0.out _ hb0).mono ?_
  rintro e1 y13_0 ⟨rfl, hb1⟩
  go_wp2_with fail
  refine (DD1.out _ hb1).mono ?_
  rintro e1 y13_1 ⟨rfl, hb2⟩
  go_wp2_with fail
  refine (DD2.out _ hb2).mono ?_
  rintro e1 y13_2 ⟨rfl, hb3⟩
  go_wp2_with fail
  refine (DD3.out _ hb3).mono ?_
  rintro e1 y13_3 ⟨rfl, hb4⟩
  go_wp2_with fail
  refine (DD4.out _ hb4).mono ?_
  rintro e1 y13_4 ⟨rfl, hb5⟩
  go_wp2_with fail
  refine (DD5.out _ hb5).mono ?_
  rintro e1 y13_5 ⟨rfl, hb6⟩
  go_wp2_with fail
  refine (DD6.out _ hb6).mono ?_
  rintro e1 y13_6 ⟨rfl, hb7⟩
  go_wp2_with fail
  have X13 := hd (X12.out.trans (hb7.mono X12.out.size))
  have N13 : Hid (∃ F : Nat → Thg, MO w y13_6 NoK F ∧ F 0 = shO sx (([] ++ [x1] ++ [g1]) ++ [x2] ++ [g2]) (([] ++ [p1] ++ [q1]) ++ [p2] ++ [q2]) ((([] ++ [x4] ++ [g4]) ++ [x7] ++ [g7]) ++ [x10] ++ [g10]) ((([] ++ [p4] ++ [q4]) ++ [p7] ++ [q7]) ++ [p10] ++ [q10]) ((((((0 + 1) + 1) + 1) + 1) + 1)) ∧ F 1 = mkO edc 6 (mkEd (0)) [(x1.val, es.length), (g1.val, es.length + 3), (p1.val, es.length), (q1.val, es.length + 3)] ∧ F 2 = mkO edc 6 (mkEd ((0 + 1))) [(x2.val, os.length), (g2.val, os.length + 3), (p2.val, os.length), (q2.val, os.length + 3)] ∧ F 3 = mkO opc 5 (mkOp (-1)) [(v3, D.length), (gm1, D.length + 2)] ∧ F 4 = mkO elc 3 (mkEl (((0 + 1) + 1))) [(x4.val, (runP [] D).length), (g4.val, (runP [] D).length + 3), (p4.val, (runP [] D).length), (q4.val, (runP [] D).length + 3)] ∧ F 5 = mkO opc 5 (mkOp (-2)) [(v5, D2.length), (gm2, D2.length + 2)] ∧ F 6 = mkO elc 3 (mkEl (((((0 + 1) + 1) + 1) + 1))) [(x10.val, (runP [] D2).length), (g10.val, (runP [] D2).length + 3), (p10.val, (runP [] D2).length), (q10.val, (runP [] D2).length + 3)] ∧ F 7 = mkO opc 5 (mkOp (-3)) [(v7, D.length), (gm3, D.length + 2)] ∧ F 8 = mkO elc 3 (mkEl ((((0 + 1) + 1) + 1))) [(x7.val, (runP [] D).length), (g7.val, (runP [] D).length + 3), (p7.val, (runP [] D).length), (q7.val, (runP [] D).length + 3)] ∧ F 9 = lsO opc 5 46 β9 v9 D ∧ F 10 = lsO elc 3 50 β10 v10 (runP [] D) ∧ F 11 = lsO opc 5 46 β11 rD D ∧ F 12 = lsO elc 3 50 β12 rT (runP [] D) ∧ F 13 = lsO opc 5 46 β13 rD2 D2 ∧ F 14 = lsO elc 3 50 β14 rT2 (runP [] D2)) := by
    obtain ⟨F, hM, f0, f1, f2, f3, f4, f5, f6, f7, f8, f9, f10, f11, f12, f13, f14⟩ := N12.out
    exact ⟨_, hM.below hb7, f0, f1, f2, f3, f4, f5, f6, f7, f8, f9, f10, f11, f12, f13, f14⟩
  clear DD0 DD1 DD2 DD3 DD4 DD5 DD6 hb0 hb1 hb2 hb3 hb4 hb5 hb6 hb7 N12
  go_ret
  exact ⟨rfl, X13.out⟩

end Go.Proofs.YtilidolbplglcaaGreatDoor
