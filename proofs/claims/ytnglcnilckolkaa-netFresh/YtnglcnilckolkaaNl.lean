/-
  Flip, of one that is there.
-/
import Derived.Test.YtnglcnilckolkaaNk
namespace Go.Proofs.Ytnglcnilckolkaa
open Go.RowKit Go.Maps
set_option linter.unusedVariables false

theorem convert_u8 (m : Int) (h : 0 ≤ m ∧ m ≤ 255) : IntKind.u8.wrap m = m := by
  simp [IntKind.wrap_u8]
  omega

set_option maxRecDepth 100000 in
set_option maxHeartbeats 8000000 in
theorem flip_at (x : Nat) (cl : Int) (G : List DG) (B : Nat) (S : Nat → Prop) (w : World) (h : NB w x cl G B S) (i : Nat) (at_ mask : Int) (hi : i < G.length) :
    Calls Try.prog 19 #[.pointer (some ⟨x, 0, none⟩), .int .i64 i, .int .i64 at_, .int .i64 mask] w fun e w' => e = .returned (.int .i64 (flipE G i at_ mask)) ∧ NB w' x cl (flipG G i at_ mask) B S ∧ Fr S w w' := by
  have H := hd h
  have hat : isAt G.length i := ⟨by omega, by omega⟩
  obtain ⟨nx, hnx, E, bm, va, β, hN, hG⟩ := h
  have hl : G.length = E.length := by rw [← hG]; simp
  rw [hl] at hi
  have hb : decide (0 ≤ (i : Int) ∧ (i : Int) < E.length) = true := decide_eq_true (by omega)
  obtain ⟨E1, e, E2, rfl, rfl⟩ := split_at E i hi
  have hg : G.getD E1.length zDG = e.d := by
    rw [← hG, List.map_append, List.map_cons]
    simp [List.getD]
  obtain ⟨g, cap, rfl, rfl, ca, hc1, hc2, hc3⟩ := hN.at
  have hme : e ∈ E1 ++ e :: E2 := by simp
  obtain ⟨a, c, hv, hIB⟩ := (hN.rows e hme).isB
  have hs := hN.short e hme
  have hin : (e.age, Value.agg #[.int .i64 e.d.f, .int .i64 e.d.t, .slice a e.d.b.length c, .bool e.d.s]) ∈ (E1 ++ e :: E2).map fun e => (e.age, e.val) := by
    refine List.mem_map.2 ⟨e, hme, ?_⟩
    simp [En.val, dgv, hv]
  have HE : Hid (flipE G E1.length at_ mask = (if mask < 1 ∨ 255 < mask ∨ at_ < 0 ∨ e.d.b.length ≤ at_ then 75 else if e.d.s = true then 76 else 0)) := by
    show _ = _
    unfold flipE
    rw [if_pos hat, Int.toNat_natCast, hg]
  have HG : Hid (flipE G E1.length at_ mask = 0 → flipG G E1.length at_ mask = E1.map En.d ++ flipD e.d at_.toNat mask :: E2.map En.d) := by
    intro h0
    rw [flipG_yes h0, Int.toNat_natCast, hg, ← hG, List.map_append, List.map_cons]
    have : (E1.map En.d).length = E1.length := by simp
    rw [← this, List.set_append_right _ _ (Nat.le_refl _)]
    simp
  have HN := hd hN
  have lk1 := (hN.mp.fr (S := fun _ => False) (Fr.drew _ w) (fun h => h)).look hin
  have lk2 := fun m => (hN.mp.fr (S := fun _ => False) (Fr.drewN _ w m) (fun h => h)).look hin
  have lk3 := fun o => (hN.mp.fr (S := fun _ => False) ((Fr.alloc _ w o).trans (Fr.drew _ _)) (fun h => h)).look hin
  have lk4 := fun o m => (hN.mp.fr (S := fun _ => False) ((Fr.alloc _ w o).trans (Fr.drewN _ _ m)) (fun h => h)).look hin
  have lk5 := fun o => (hN.mp.fr (S := fun _ => False) ((Fr.drew _ w).trans (Fr.alloc _ _ o)) (fun h => h)).look hin
  have c1 := cell_row hN.net 1
  have c2 := cell_row hN.net 2
  simp at c1 c2
  have hxl : x < w.heap.size := block_lt hN.net
  have hgl : g < w.heap.size := by
    obtain ⟨cur, hh⟩ := SRow.blk hN.ages
    exact block_lt hh
  have HO := hd hN.old
  have HV := hd hv
  have HX := hd hnx
  have HS := hd hs
  obtain ⟨i0, hi0⟩ : ∃ i0, E1.length = i0 := ⟨_, rfl⟩
  obtain ⟨m0, hm0⟩ : ∃ m0, E1.length + E2.length = m0 := ⟨_, rfl⟩
  rw [hm0] at c2 hc2 hc3
  rw [hi0] at ca hb HE HG ⊢
  have HI := hd (And.intro hi0 hm0)
  have hlt : (i0 : Int) < (m0 : Int) + 1 := by omega
  have hi1 : i0 < m0 + 1 := by omega
  obtain ⟨hIc, hI63⟩ : e.d.b.length ≤ c ∧ c ≤ 9223372036854775807 := ⟨hIB.2.1, hIB.2.2.1⟩
  clear hN hG hl hnx hi hg hv hIB hs hme hi0 hm0 hin hat
  go_enter Try.func19, Try.ntmps19
  go_wp2_with fail
  refine (has_nk x cl _ nx S bm _ _ w HN.out i0).mono ?_
  rintro ex w1 ⟨rfl, rfl⟩
  rw [hb]
  clear hb
  go_wp2_with fail
  go_cut [9] (fun x9 wx => x9 = .pointer (some ⟨w1.heap.size, 0, none⟩) ∧ Hid (wx.heap[w1.heap.size]? = some (.cells #[.int .i64 e.d.f, .int .i64 e.d.t, .slice a e.d.b.length c, .bool e.d.s] 37 (0, 0)) ∧ Below w1.heap.size w1 wx))
  case first =>
    go_region_law fail
    all_goals
      go_wp2_with fail
      go_meet
      refine ⟨rfl, ?_, ?_⟩
      · first | exact heap_alloc_new _ _ | exact set_row (set_row (set_row (set_row (heap_alloc_new _ _) 0 _) 1 _) 2 _) 3 _
      · repeat (first | exact Below.refl _ _ | refine Below.setCell ?_ (by simp) _ | refine Below.drew ?_ | refine below_drewN ?_ _ | refine Below.alloc ?_ (by simp) _)
  case rest =>
    obtain ⟨rfl, HC⟩ := hcut
    obtain ⟨k0, k1, k2, k3⟩ := cells4 HC.out.1
    clear lk1 lk2 lk3 lk4 lk5
    have bad : ∀ v, flipE G i0 at_ mask = v → v ≠ 0 → NB wc x cl (flipG G i0 at_ mask) B S ∧ Fr S w1 wc := fun v h1 h2 =>
      ⟨by rw [flipG_no (by rw [h1]; exact h2)]; exact H.out.below HC.out.2, Fr.of_below HC.out.2⟩
    have BAD := hd bad
    clear bad
    by_cases h1 : mask < 1
    · have he := HE.out
      rw [if_pos (.inl h1)] at he
      have R := hd he
      clear he
      go_wp2
      go_ret
      exact ⟨by rw [R.out]; rfl, BAD.out 75 R.out (by decide)⟩
    by_cases h2 : 255 < mask
    · have he := HE.out
      rw [if_pos (.inr (.inl h2))] at he
      have R := hd he
      clear he
      go_wp2
      go_ret
      exact ⟨by rw [R.out]; rfl, BAD.out 75 R.out (by decide)⟩
    by_cases h3 : at_ < 0
    · have he := HE.out
      rw [if_pos (.inr (.inr (.inl h3)))] at he
      have R := hd he
      clear he
      go_wp2
      go_ret
      exact ⟨by rw [R.out]; rfl, BAD.out 75 R.out (by decide)⟩
    by_cases h4 : (e.d.b.length : Int) ≤ at_
    · have he := HE.out
      rw [if_pos (.inr (.inr (.inr h4)))] at he
      have R := hd he
      clear he
      go_wp2
      go_ret
      exact ⟨by rw [R.out]; rfl, BAD.out 75 R.out (by decide)⟩
    have he := HE.out
    rw [if_neg (by omega)] at he
    have HF := hd he
    clear he
    cases hsp : e.d.s
    · have he := HF.out
      rw [hsp, if_neg (by decide)] at he
      have R := hd he
      rw [hsp] at k3
      obtain ⟨j, rfl⟩ : ∃ j : Nat, at_ = j := ⟨at_.toNat, by omega⟩
      have hj : j < e.d.b.length := by omega
      have N1 := HN.out.below HC.out.2
      have hme : e ∈ E1 ++ e :: E2 := by simp
      have hr := N1.rows e hme
      obtain ⟨g2, hγ⟩ : ∃ g2, e.γ = some g2 := by
        cases hq : e.γ with
        | none =>
          rw [hq] at hr
          have := hr.2
          simp [ints] at this
          rw [this] at hj
          simp at hj
        | some g2 => exact ⟨g2, rfl⟩
      rw [hγ] at hr
      have hx2 := N1.e_x (hγ ▸ hr : SB wc e.γ e.v e.d.b) hγ
      obtain ⟨cap2, hv2, hR⟩ := hr
      rw [ints_len] at hv2 hR
      obtain ⟨rfl, rfl⟩ : a = some ⟨g2, 0, none⟩ ∧ c = cap2 := by
        have := HV.out.symm.trans hv2
        injection this with q1 q2 q3
        exact ⟨q1, q3⟩
      obtain ⟨y, hy⟩ : ∃ y, e.d.b.getD j 0 = y := ⟨_, rfl⟩
      have y0 : wc.cell? ⟨g2, j, none⟩ = some (.int .u8 y) := by rw [hR.cell j hj, ints_get _ _ hj, hy]
      have HY := hd hy
      clear hy
      obtain ⟨cur, hcur, -⟩ := hR
      have f0 := frozen_row hcur j
      have hg2l : g2 < w1.heap.size := HO.out g2 (HN.out.own.2.2.2 e hme g2 hγ)
      have f3 := frozen_row HC.out.1 3
      have hmk : mask % 256 = mask := by omega
      have hmk2 : IntKind.u8.wrap mask = mask := by rw [IntKind.wrap_u8]; omega
      obtain ⟨w5, hw5⟩ : ∃ w5, w5 = (wc.setCell ⟨g2, j, none⟩ (.int .u8 (bits BinOp.xor IntKind.u8 y mask))).setCell ⟨w1.heap.size, 3, none⟩ (.bool true) := ⟨_, rfl⟩
      have F5 : Fr (· = w1.heap.size) (wc.setCell ⟨g2, j, none⟩ (.int .u8 (bits BinOp.xor IntKind.u8 y mask))) w5 := by rw [hw5]; exact Fr.setCell _ ⟨w1.heap.size, 3, none⟩ _ rfl
      have F4 : Fr (· = g2) wc (wc.setCell ⟨g2, j, none⟩ (.int .u8 (bits BinOp.xor IntKind.u8 y mask))) := Fr.setCell _ ⟨g2, j, none⟩ _ rfl
      have nS : ∀ k, S k → k ≠ w1.heap.size := fun k hk h => by have := HO.out k hk; omega
      have b4 := F4.keeps HC.out.1 (by omega)
      have b5 : w5.heap[w1.heap.size]? = some (.cells #[.int .i64 e.d.f, .int .i64 e.d.t, .slice (some ⟨g2, 0, none⟩) e.d.b.length c, .bool true] 37 (0, 0)) := by rw [hw5]; exact set_row b4 3 _
      have n5 := F5.keeps (F4.keeps N1.net (fun h => hx2.1 h.symm)) (fun h => nS x N1.own.1 h)
      have m5 := (N1.mp.fr F4 (fun h => hx2.2.1 h.symm)).fr F5 (fun h => nS bm N1.own.2.1 h)
      simp only [List.map_append, List.map_cons] at m5
      obtain ⟨ga, capa, ea1, ea2, ca1, -⟩ := N1.at
      obtain rfl : g = ga := by injection ea1
      rw [HI.out.1] at ca1
      have ca5 : w5.cell? ⟨g, i0, none⟩ = some (.int .i64 e.age) := by
        rw [F5.cell (p := ⟨g, i0, none⟩) (by have := HC.out.2.size; simp; omega) (by simp; omega), F4.cell (p := ⟨g, i0, none⟩) (by have := HC.out.2.size; simp; omega) (fun h => hx2.2.2 (by simp only at h; rw [h]))]
        exact ca1
      obtain ⟨l0, l1, l2, l3⟩ := cells4 b5
      have x1 := cell_row n5 1
      have x2 := cell_row n5 2
      rw [HI.out.2] at x2
      simp at x1 x2
      have HM5 := hd m5
      have HAP := hd HN.out.apart
      have ST := hd (And.intro hγ (And.intro hj (And.intro N1 F5)))
      clear he hx2 hv2 hcur N1 F5 F4 b4 b5 n5 m5 ea1 ea2 ca1 hme HE HF nS hγ
      go_wp2_with fail
      rw [← hw5]
      clear hw5 y0 f0 f3 k0 k1 k2 k3 c1 c2 ca
      obtain ⟨w6, hup, hM6, hF6⟩ := MP.put (v := .agg #[.int .i64 e.d.f, .int .i64 e.d.t, .slice (some ⟨g2, 0, none⟩) e.d.b.length c, .bool true]) (HM5.out.fr (S := fun _ => False) (Fr.drew _ w5) (fun h => h)) (by simp; have := HI.out; omega) HAP.out
      have MM := hd hM6
      have FF := hd (Fr.trans (Fr.drew _ w5) hF6)
      clear hM6 hF6
      go_region_law fail
      all_goals
        go_wp2
        go_ret
        refine ⟨by rw [R.out]; rfl, ?_⟩
        rw [HG.out R.out, Int.toNat_natCast]
        obtain ⟨hγ, hj, N1, F5⟩ := ST.out
        unfold flipD xorB
        rw [HY.out]
        have Z := flip_end (y := bits BinOp.xor IntKind.u8 y mask) N1 HO.out HC.out.2 hγ hj F5 FF.out (by
          have := MM.out
          rw [← HV.out] at this
          exact this)
        exact ⟨⟨nx, HX.out, Z.1⟩, Z.2⟩
    · have he := HF.out
      rw [hsp, if_pos rfl] at he
      have R := hd he
      rw [hsp] at k3
      clear he
      go_wp2
      go_ret
      exact ⟨by rw [R.out]; rfl, BAD.out 76 R.out (by decide)⟩

end Go.Proofs.Ytnglcnilckolkaa
