/-
  The net of the document: Flip.
-/
import Derived.Test.YtnglcnilckolkaaRd
namespace Go.Proofs.Ytnglcnilckolkaa
open Go.RowKit Go.Lib
set_option linter.unusedVariables false

/-- An item that was flipped. -/
def flipI (x : It) (j : Nat) (y : Int) : It := ⟨⟨x.d.f, x.d.t, x.d.b.set j y, true⟩, x.a, x.c, x.γ⟩

theorem cO_flip (L : List It) (i j : Nat) (y : Int) (hi : i < L.length) : cO (L.set i (flipI L[i] j y)) = (cO L).set (i * 4 + 3) (.bool true) := by
  have h : L = L.take i ++ L[i] :: L.drop (i + 1) := by rw [← List.drop_eq_getElem_cons hi, List.take_append_drop]
  have hl : (L.take i).length = i := by simp; omega
  have hcl : (cO (L.take i)).length = i * 4 := by rw [cO_len, hl]
  have e1 : L.set i (flipI L[i] j y) = L.take i ++ flipI L[i] j y :: L.drop (i + 1) := by
    rw [List.set_eq_take_append_cons_drop, if_pos hi]
  rw [e1, cO_app, cO_cons]
  conv => rhs; rw [h, cO_app, cO_cons, List.set_append_right _ _ (by omega), hcl, show i * 4 + 3 - i * 4 = 3 by omega]
  simp [opc, flipI]

theorem RowO.flip {w : World} {g N cap : Nat} {L : List It} (h : RowO w g N cap L) (i j : Nat) (y : Int) (hi : i < L.length) : RowO (w.setCell ⟨g, i * 4 + 3, none⟩ (.bool true)) g N cap (L.set i (flipI L[i] j y)) := by
  obtain ⟨cur, hh, ht, hl, h1, h2, h3⟩ := h
  refine ⟨cur.set (i * 4 + 3) (.bool true), ?_, ?_, by simpa using hl, h1, h2, by simpa using h3⟩
  · have := set_row hh (i * 4 + 3) (.bool true)
    rw [this]
    simp
  · rw [cO_flip L i j y hi, List.take_set, ht]

theorem rflip_end {w : World} {y : Nat} {cl : Int} {L : List It} {S : Nat → Prop} {v : Value} {g0 : Nat} (N : RK w y cl L S v (some g0)) (i j : Nat) (x : Int) (hi : i < L.length) (g : Nat) (hg : L[i].γ = some g) (hj : j < L[i].d.b.length) :
    RB ((w.setCell ⟨g, j, none⟩ (.int .u8 x)).setCell ⟨g0, i * 4 + 3, none⟩ (.bool true)) y cl ((L.map It.d).set i ⟨L[i].d.f, L[i].d.t, L[i].d.b.set j x, true⟩) S ∧ Fr S w ((w.setCell ⟨g, j, none⟩ (.int .u8 x)).setCell ⟨g0, i * 4 + 3, none⟩ (.bool true)) := by
  have hme := List.getElem_mem hi
  have hgy := N.e_y (N.rows _ hme) hg
  have hg0y := N.b_y (g := g0) rfl
  have hgg : g ≠ g0 := fun h => hgy.2 (by rw [h])
  have F1 : Fr (· = g) w (w.setCell ⟨g, j, none⟩ (.int .u8 x)) := Fr.setCell _ ⟨g, j, none⟩ _ rfl
  have F2 : Fr (· = g0) (w.setCell ⟨g, j, none⟩ (.int .u8 x)) ((w.setCell ⟨g, j, none⟩ (.int .u8 x)).setCell ⟨g0, i * 4 + 3, none⟩ (.bool true)) := Fr.setCell _ ⟨g0, i * 4 + 3, none⟩ _ rfl
  have Fall : Fr (fun k => k = g ∨ k = g0) w ((w.setCell ⟨g, j, none⟩ (.int .u8 x)).setCell ⟨g0, i * 4 + 3, none⟩ (.bool true)) := (F1.mono (fun _ _ h => .inl h)).trans (F2.mono (fun _ _ h => .inr h))
  have hne : ∀ k (hk : k < L.length), k ≠ i → L[k].γ ≠ some g := by
    intro k hk hki hkg
    have hp := N.sep
    rw [List.pairwise_iff_getElem] at hp
    rcases Nat.lt_or_gt_of_ne hki with h | h
    · exact hp k i hk hi h g hkg hg
    · exact hp i k hi hk h g hg hkg
  refine ⟨⟨L.set i (flipI L[i] j x), v, some g0, ⟨Fall.keeps N.net ?_, ?_, ?_, ?_, ?_, by simpa using N.few, ⟨N.own.1, N.own.2.1, ?_⟩, fun k hk => Nat.lt_of_lt_of_le (N.old k hk) Fall.size⟩, ?_⟩, ?_⟩
  · rintro (h | h)
    · exact hgy.1 h.symm
    · exact hg0y h.symm
  · obtain ⟨cap, hv, hR⟩ := N.so
    refine ⟨cap, by rw [hv]; simp, ?_⟩
    have := (hR.fr F1 (fun h => hgg h.symm)).flip i j x hi
    simpa using this
  · intro it hit
    obtain ⟨k, hk, rfl⟩ := List.mem_iff_getElem.1 hit
    have hk' : k < L.length := by simpa using hk
    rw [List.getElem_set]
    by_cases hki : i = k
    · subst hki
      rw [if_pos rfl]
      have h0 := N.rows _ hme
      rw [hg] at h0
      have h1 := SRow.fr (h0.set hj x) F2 (fun q hq h => by injection hq with hq; omega)
      unfold flipI It.sv
      simp only
      rw [hg, List.length_set]
      exact h1
    · rw [if_neg hki]
      have h0 := N.rows _ (List.getElem_mem hk')
      exact SRow.fr h0 Fall (fun q hq h => by
        have h1 := N.e_y h0 hq
        rcases h with rfl | rfl
        · exact hne k hk' (fun e => hki e.symm) hq
        · exact h1.2 rfl)
  · intro it hit
    obtain ⟨k, hk, rfl⟩ := List.mem_iff_getElem.1 hit
    have hk' : k < L.length := by simpa using hk
    rw [List.getElem_set]
    by_cases hki : i = k
    · rw [if_pos hki]
      have := N.short _ hme
      simpa [flipI] using this
    · rw [if_neg hki]
      exact N.short _ (List.getElem_mem hk')
  · rw [List.pairwise_iff_getElem]
    intro p q hp hq hpq
    have hp' : p < L.length := by simpa using hp
    have hq' : q < L.length := by simpa using hq
    have h0 := (List.pairwise_iff_getElem.1 N.sep) p q hp' hq' hpq
    have gp : (L.set i (flipI L[i] j x))[p].γ = L[p].γ := by
      rw [List.getElem_set]
      split
      · subst_vars; rfl
      · rfl
    have gq : (L.set i (flipI L[i] j x))[q].γ = L[q].γ := by
      rw [List.getElem_set]
      split
      · subst_vars; rfl
      · rfl
    rw [gp, gq]
    exact h0
  · intro it hit q hq
    obtain ⟨k, hk, rfl⟩ := List.mem_iff_getElem.1 hit
    have hk' : k < L.length := by simpa using hk
    have gk : (L.set i (flipI L[i] j x))[k].γ = L[k].γ := by
      rw [List.getElem_set]
      split
      · subst_vars; rfl
      · rfl
    rw [gk] at hq
    exact N.own.2.2 _ (List.getElem_mem hk') q hq
  · rw [List.map_set]
    rfl
  · refine Fall.mono ?_
    rintro k - (rfl | rfl)
    · exact N.own.2.2 _ hme _ hg
    · exact N.own.2.1 _ rfl

set_option maxRecDepth 100000 in
set_option maxHeartbeats 8000000 in
theorem rflip_any (y : Nat) (cl : Int) (G : List DG) (S : Nat → Prop) (w : World) (h : RB w y cl G S) (i at_ mask : Int) :
    Calls Try.prog 44 #[.pointer (some ⟨y, 0, none⟩), .int .i64 i, .int .i64 at_, .int .i64 mask] w fun e w' => e = .returned (.int .i64 (flipE G i at_ mask)) ∧ RB w' y cl (flipG G i at_ mask) S ∧ Fr S w w' := by
  have H := hd h
  obtain ⟨L, v, β, hK, hG⟩ := h
  have hl : G.length = L.length := by rw [← hG]; simp
  have HK := hd hK
  have no : ∀ v, flipE G i at_ mask = v → v ≠ 0 → RB w y cl (flipG G i at_ mask) S ∧ Fr S w w := fun v h1 h2 => by
    rw [flipG_no (by rw [h1]; exact h2)]
    exact ⟨H.out, Fr.refl _ _⟩
  have NO := hd no
  clear no
  by_cases hi : isAt L.length i
  · have hb : decide (¬ isAt L.length i) = false := decide_eq_false (by simpa using hi)
    have hiG : isAt G.length i := by rw [hl]; exact hi
    obtain ⟨k, rfl⟩ : ∃ k : Nat, i = k := ⟨i.toNat, by have := hi.1; omega⟩
    have hk : k < L.length := by have := hi.2; omega
    obtain ⟨g0, cap, rfl, rfl, hc1, hc2, hgl0, x0, x1, x2, x3, hIB⟩ := hK.at k hk
    have cc1 := cell_row hK.net 1
    simp at cc1
    have hgd : G.getD (k : Int).toNat zDG = L[k].d := by
      rw [← hG, Int.toNat_natCast]
      simp [List.getD, List.getElem?_eq_getElem hk]
    have i3 : (k : Int) < (L.length : Int) := by omega
    have HE75 : Hid (mask < 1 ∨ 255 < mask ∨ at_ < 0 ∨ (L[k].d.b.length : Int) ≤ at_ → flipE G k at_ mask = 75) := fun hx => flipE_bad hiG hgd hx
    have HE76 : Hid (¬ (mask < 1 ∨ 255 < mask ∨ at_ < 0 ∨ (L[k].d.b.length : Int) ≤ at_) → L[k].d.s = true → flipE G k at_ mask = 76) := fun hx hs => flipE_spoilt hiG hgd (by omega) hs
    have HE0 : Hid (¬ (mask < 1 ∨ 255 < mask ∨ at_ < 0 ∨ (L[k].d.b.length : Int) ≤ at_) → L[k].d.s = false → flipE G k at_ mask = 0) := fun hx hs => flipE_ok hiG hgd (by omega) hs
    have HG0 : Hid (flipE G k at_ mask = 0 → flipG G k at_ mask = (L.map It.d).set k (flipD L[k].d at_.toNat mask)) := fun h0 => by
      rw [flipG_yes h0, hgd, Int.toNat_natCast, hG]
    have HIB := hd hIB
    have hIc : L[k].d.b.length ≤ L[k].c ∧ L[k].c ≤ 9223372036854775807 := ⟨hIB.2.1, hIB.2.2.1⟩
    have rw0 := hK.rows _ (List.getElem_mem hk)
    have HRW := hd rw0
    have hno : ∀ j x g, L[k].γ = some g → j < L[k].d.b.length → RB ((w.setCell ⟨g, j, none⟩ (.int .u8 x)).setCell ⟨g0, k * 4 + 3, none⟩ (.bool true)) y cl ((L.map It.d).set k ⟨L[k].d.f, L[k].d.t, L[k].d.b.set j x, true⟩) S ∧ Fr S w ((w.setCell ⟨g, j, none⟩ (.int .u8 x)).setCell ⟨g0, k * 4 + 3, none⟩ (.bool true)) :=
      fun j x g hg hj => rflip_end hK k j x hk g hg hj
    have HEND := hd hno
    have hy0 : g0 ≠ y := hK.b_y rfl
    have hγy : ∀ g, L[k].γ = some g → g ≠ y ∧ g ≠ g0 := fun g hg => ⟨(hK.e_y rw0 hg).1, fun h => (hK.e_y rw0 hg).2 (by rw [h])⟩
    have HGY := hd hγy
    have HFZ : Hid (w.frozen? ⟨g0, k * 4 + 3, none⟩ = false) := by
      obtain ⟨cur, hcur⟩ := SO.blk hK.so
      exact frozen_row hcur _
    clear hK hG hl hi hiG hgd hIB rw0 hno hγy
    obtain ⟨N0, hN0⟩ : ∃ N0, L.length = N0 := ⟨_, rfl⟩
    rw [hN0] at cc1 i3 hc1
    have HYtnglcnilckolkaa := hd hN0
    clear hN0
    generalize L[k] = it at *
    obtain ⟨⟨df, dt, db, ds⟩, ia, ic, ig⟩ := it
    simp only at x0 x1 x2 x3 HIB HE75 HE76 HE0 HG0 HRW HEND HGY hIc
    go_enter Try.func44, Try.ntmps44
    go_wp2_with fail
    refine (rnone_rk y cl L S _ _ w HK.out k).mono ?_
    rintro e w1 ⟨rfl, rfl⟩
    rw [hb]
    clear hb
    by_cases h1 : mask < 1
    · have R := hd (HE75.out (.inl h1))
      go_wp2
      go_ret
      exact ⟨by rw [R.out]; rfl, NO.out _ R.out (by decide)⟩
    by_cases h2 : 255 < mask
    · have R := hd (HE75.out (.inr (.inl h2)))
      go_wp2
      go_ret
      exact ⟨by rw [R.out]; rfl, NO.out _ R.out (by decide)⟩
    by_cases h3 : at_ < 0
    · have R := hd (HE75.out (.inr (.inr (.inl h3))))
      go_wp2
      go_ret
      exact ⟨by rw [R.out]; rfl, NO.out _ R.out (by decide)⟩
    by_cases h4 : (db.length : Int) ≤ at_
    · have R := hd (HE75.out (.inr (.inr (.inr h4))))
      go_wp2
      go_ret
      exact ⟨by rw [R.out]; rfl, NO.out _ R.out (by decide)⟩
    cases ds
    · have R := hd (HE0.out (by omega) rfl)
      obtain ⟨j, rfl⟩ : ∃ j : Nat, at_ = j := ⟨at_.toNat, by omega⟩
      have hj : j < db.length := by omega
      obtain ⟨g, rfl⟩ : ∃ g, ig = some g := by
        cases ig with
        | none =>
          have := HRW.out.2
          simp [ints] at this
          rw [this] at hj
          simp at hj
        | some g => exact ⟨g, rfl⟩
      obtain ⟨cap2, hv2, hR⟩ := HRW.out
      unfold It.sv at hv2
      simp only [ints_len] at hv2 hR
      injection hv2 with q1 q2 q3
      subst q1
      subst q3
      obtain ⟨z, hz⟩ : ∃ z, db.getD j 0 = z := ⟨_, rfl⟩
      have y0 : w1.cell? ⟨g, j, none⟩ = some (.int .u8 z) := by rw [hR.cell j hj, ints_get _ _ hj, hz]
      obtain ⟨cur, hcur, -⟩ := hR
      have f0 := frozen_row hcur j
      have f3 := HFZ.out
      have hmk : mask % 256 = mask := by omega
      obtain ⟨gy1, gy2⟩ := HGY.out g rfl
      have E := hd (HEND.out j (bits BinOp.xor IntKind.u8 z mask) g rfl hj)
      have R2 : Hid (flipG G k j mask = (L.map It.d).set k ⟨df, dt, db.set j (bits BinOp.xor IntKind.u8 z mask), true⟩) := by
        show _ = _
        rw [HG0.out R.out, Int.toNat_natCast]
        unfold flipD xorB
        rw [hz]
      have gy3 : ¬ y = g := fun h => gy1 h.symm
      have gy4 : ¬ y = g0 := fun h => hy0 h.symm
      have gy5 : ¬ g0 = g := fun h => gy2 h.symm
      clear hcur hz HE75 HE76 HE0 HG0 HEND HGY HFZ HRW HIB
      go_wp2_with fail
      go_region_law fail
      all_goals
        go_wp2
        go_ret
        refine ⟨by rw [R.out]; rfl, ?_⟩
        rw [R2.out]
        exact ⟨E.out.1.fr (T := fun _ => False) (Fr.drew _ _) (fun _ _ h => h), E.out.2.trans (Fr.drew _ _)⟩
    · have R := hd (HE76.out (by omega) rfl)
      go_wp2
      go_ret
      exact ⟨by rw [R.out]; rfl, NO.out _ R.out (by decide)⟩
  · have hb : decide (¬ isAt L.length i) = true := decide_eq_true hi
    have R : Hid (flipE G i at_ mask = 74) := by show _ = _; unfold flipE; rw [hl, if_neg hi]
    clear hK hG hl hi
    go_enter Try.func44, Try.ntmps44
    go_wp2_with fail
    refine (rnone_rk y cl L S _ _ w HK.out i).mono ?_
    rintro e w1 ⟨rfl, rfl⟩
    rw [hb]
    go_wp2
    go_ret
    exact ⟨by rw [R.out]; rfl, NO.out _ R.out (by decide)⟩

end Go.Proofs.Ytnglcnilckolkaa
