/-
  OutboxOwn.
-/
import Derived.Test.YtocpfioifamkmaaOf
import Derived.Test.YtocpfioifamkmaaAcks
import Derived.Deep.RegionHeld3
namespace Go.Proofs.Ytocpfioifamkmaa
open Go.RowKit
set_option linter.unusedVariables false

set_option maxRecDepth 100000 in
set_option maxHeartbeats 64000000 in
theorem outboxOwn_any (a0 : Option Addr) (n0 c0 : Nat) (X : Nat → Int) (a1 : Option Addr) (n1 c1 : Nat) (O : Nat → OpV) (w : World) (hI : IsI w a0 n0 c0 X) (hS : IsS w a1 n1 c1 O) (hsum : n0 + n1 ≤ 1048576) :
    Calls Try.prog 5 #[.slice a0 n0 c0, .slice a1 n1 c1] w fun e w' => e = .returned (.bool true) ∧ Below w.heap.size w w' := by
  have HI := hd hI
  have HS := hd hS
  have n0c := hI.1
  have n0m := hI.2.1
  have n1c := hS.1
  have n1m := hS.2.1
  clear hI hS
  go_enter Try.func5, Try.ntmps5
  go_wp2_with fail
  refine (new_good 5 w (by omega) (by omega)).mono ?_
  rintro e w1 ⟨x, rfl, S1, h1, h2, h3⟩
  have M1 := hd ((MO.nil w).put 0 (frm_box x ⟨5, 0, 0, []⟩) h1 h2 h3)
  clear h1 h2 h3
  go_wp2_with fail
  refine (new_good 5 w1 (by omega) (by omega)).mono ?_
  rintro e w2 ⟨y, rfl, S2, h1, h2, h3⟩
  have M2 := hd (M1.out.put 1 (frm_box y ⟨5, 0, 0, []⟩) h1 h2 h3)
  clear h1 h2 h3 M1
  go_wp2_with fail
  refine (num_any 0 w2).mono ?_
  rintro e w3 ⟨rfl, hw3⟩
  subst hw3
  go_wp2_with fail
  refine (num_any 0 w3).mono ?_
  rintro e w4 ⟨rfl, hw4⟩
  subst hw4
  obtain ⟨kb, hkb⟩ : ∃ kb, w4.heap.size = kb := ⟨_, rfl⟩
  have S0 : Hid (∃ p m, MO w (w4.alloc (.cells #[.slice none 0 0, .slice none 0 0] 45)) NoK (FO x y kb p p m) ∧ m ≤ 4 * 0 ∧ (0 ≤ n0 → p.last = min 0 4096)) := by
    refine ⟨_, 0, M2.out.put 2 (S' := (· = kb)) (frm_kept kb 0) ⟨.slice none 0 0, none, [], .slice none 0 0, none, [], [], ?_⟩ (fun k hk => by omega) ((Below.refl _ _).alloc (Nat.le_refl _) _), by omega, fun _ => rfl⟩
    refine ⟨by rw [← hkb]; exact heap_alloc_new _ _, ⟨rfl, rfl⟩, ⟨rfl, rfl⟩, ⟨rfl, rfl, fun j sl sw e h => by simp at h⟩, rfl, (fun g hg => by cases hg), rfl, (fun g hg => by cases hg), (fun g hg => by cases hg), fun k hk => by rw [hk, ← hkb]; simp⟩
  clear M2
  go_wp2_with fail
  clear hkb
  go_loopw [10] (fun vi wr => ∃ i : Nat, i ≤ n0 + n1 ∧ vi = .int .i64 i ∧ Hid (∃ p m, MO w wr NoK (FO x y kb p p m) ∧ m ≤ 4 * i ∧ (i ≤ n0 → p.last = min i 4096))) (fun vi _ => n0 + n1 - (intOf vi).toNat)
  case atStart => exact ⟨0, Nat.zero_le _, rfl, S0⟩
  case round =>
    obtain ⟨i, hi, rfl, HT⟩ := hrel
    clear S0
    obtain ⟨p, m, hM, hm, hl⟩ := HT.out
    have HP := hd hM
    have HL := hd hl
    have ws : IntKind.i64.wrap ((n0 : Int) + n1) = (n0 : Int) + n1 := by rw [IntKind.wrap_i64]; omega
    have al : ∀ o, Below wr.heap.size wr (wr.alloc o) := fun o => (Below.refl _ _).alloc (Nat.le_refl _) o
    by_cases hlt : i < n0 + n1
    · have i1 : (i : Int) < (n0 : Int) + n1 := by omega
      by_cases hfi : i < n0
      · have i2 : (i : Int) < (n0 : Int) := by omega
        obtain ⟨b, off, rfl, hbl, hc⟩ := (HI.out.below hM.base (Nat.le_refl _)).2.2 (by omega)
        have k0 := fun o => ((al o).cell (p := ⟨b, off + i, none⟩) hbl).trans (hc i hfi)
        generalize X i = yy at k0
        clear hM hl hc HT al hbl
        go_upto_region 14 with fail
        have BB : Hid (∃ U, U = (wr.alloc (.cells #[.int .i64 1, .int .i64 0, .int .i64 yy] 32)) ∧ MO w U (· = wr.heap.size) (FO x y kb p p m) ∧ U.heap[wr.heap.size]? = some (.cells #[.int .i64 1, .int .i64 0, .int .i64 yy] 32 (0, 0))) := by
          refine ⟨_, rfl, HP.out.adds ?_ (fun k hk => .inr (by omega)) (fun k hk => by rw [hk]; simp), ?_⟩
          · repeat (first | exact Below.refl _ _ | refine Below.setCell ?_ (by simp) _ | refine Below.alloc ?_ (by simp) _)
          · exact heap_alloc_new _ _
        obtain ⟨U, hU, hM1, hR1⟩ := BB.out
        rw [← hU]
        obtain ⟨q0, q1, q2⟩ := opcells hR1
        have O1 : Hid (∀ V, Below U.heap.size U V → Calls Try.prog 18 #[.pointer (some ⟨x, 0, none⟩), .agg #[.int .i64 1, .int .i64 0, .int .i64 yy]] V fun e w' => e = .returned (.int .i64 (actE p 1 yy)) ∧ MO w w' (· = wr.heap.size) (FO x y kb (actS p 1 yy) p m) ∧ w'.heap[wr.heap.size]? = some (.cells #[.int .i64 1, .int .i64 0, .int .i64 yy] 32 (0, 0))) := by
          intro V hV
          refine (od_actX (hM1.below hV) 1 0 yy).mono ?_
          rintro e w' ⟨rfl, h3, h4⟩
          exact ⟨rfl, h3, (h4 _ rfl).trans ((hV.block _ (block_lt hR1)).trans hR1)⟩
        have O2 : Hid (∀ w3 V, (MO w w3 (· = wr.heap.size) (FO x y kb (actS p 1 yy) p m) ∧ w3.heap[wr.heap.size]? = some (.cells #[.int .i64 1, .int .i64 0, .int .i64 yy] 32 (0, 0))) → Below w3.heap.size w3 V → Calls Try.prog 18 #[.pointer (some ⟨y, 0, none⟩), .agg #[.int .i64 1, .int .i64 0, .int .i64 yy]] V fun e w' => e = .returned (.int .i64 (actE p 1 yy)) ∧ MO w w' (· = wr.heap.size) (FO x y kb (actS p 1 yy) (actS p 1 yy) m) ∧ w'.heap[wr.heap.size]? = some (.cells #[.int .i64 1, .int .i64 0, .int .i64 yy] 32 (0, 0))) := by
          intro w3 V hT hV
          refine (od_actY (hT.1.below hV) 1 0 yy).mono ?_
          rintro e w' ⟨rfl, h3, h4⟩
          exact ⟨rfl, h3, (h4 _ rfl).trans ((hV.block _ (block_lt hT.2)).trans hT.2)⟩
        generalize actE p 1 yy = ve at O1 O2
        clear hM1 hR1 BB hU k0
        go_region_held3 (fun V => V.cell? ⟨wr.heap.size, 0, none⟩ = some (.int .i64 1) ∧ V.cell? ⟨wr.heap.size, 1, none⟩ = some (.int .i64 0) ∧ V.cell? ⟨wr.heap.size, 2, none⟩ = some (.int .i64 yy)) (first | (with_reducible exact ⟨by assumption, by assumption, by assumption⟩) | (go_keep; done)) (first | (go_at_call 18; revert HX1; intro HX1; refine (O2.out _ _ HX1.out (by first | exact Below.refl _ _ | exact (Below.refl _ _).drew | exact below_drewN (Below.refl _ _) _)).mono ?_; rintro e v ⟨rfl, kv⟩; obtain ⟨r0, r1, r2⟩ := opcells kv.2; have HX2 := hd kv; clear kv) | (go_at_call 18; refine (O1.out _ (by first | exact Below.refl _ _ | exact (Below.refl _ _).drew | exact below_drewN (Below.refl _ _) _)).mono ?_; rintro e u ⟨rfl, ku⟩; obtain ⟨p0, p1, p2⟩ := opcells ku.2; have HX1 := hd ku; clear ku))
        have M := hd (HX2.out.1.less (K' := NoK) (fun k hk => hk.elim))
        clear O1 O2 q0 q1 q2 HX1 HX2
        have HM5 : m ≤ 4 * (i + 1) := by omega
        have HL5 : Hid (i + 1 ≤ n0 → (actS p 1 yy).last = min (i + 1) 4096) := by
          intro hin
          have h1 := HL.out (by omega)
          have h2 : p.last = p.a + p.L.length := rfl
          have e1 : actS p 1 yy = pushS p yy := by rw [actS, if_pos rfl]
          rw [e1]
          by_cases hf : 4096 ≤ p.last
          · rw [pushS, if_pos hf]
            omega
          · rw [pushS, if_neg hf]
            show p.a + (p.L ++ [yy]).length = _
            rw [List.length_append, List.length_singleton]
            omega

        generalize actS p 1 yy = p5 at M HL5
        have OK := hd (FO_ok M.out)
        obtain ⟨va, hva⟩ : ∃ va, p5.a = va := ⟨_, rfl⟩
        obtain ⟨vl, hvl⟩ : ∃ vl, p5.last = vl := ⟨_, rfl⟩
        have HV := hd (And.intro hva hvl)
        obtain ⟨nl, hnl⟩ : ∃ nl, (leftL p5).length = nl := ⟨_, rfl⟩
        have HN := hd hnl
        clear hva hvl hnl
        go_wp2_with fail
        refine (mo_last (M.out.below (by repeat (first | exact Below.refl _ _ | refine Below.drew ?_ | refine below_drewN ?_ _))) 0 rfl).mono ?_
        rintro e wa ⟨rfl, h1, -⟩
        rw [HV.out.2]
        have M1 := hd h1
        clear h1 M
        go_wp2_with fail
        refine (mo_last M1.out 1 rfl).mono ?_
        rintro e wb ⟨rfl, h1, -⟩
        rw [HV.out.2]
        have M2 := hd h1
        clear h1 M1
        go_wp2_with fail
        refine (mo_acked M2.out 0 rfl).mono ?_
        rintro e wc ⟨rfl, hwc⟩
        subst hwc
        rw [HV.out.1]
        go_wp2_with fail
        refine (mo_acked M2.out 1 rfl).mono ?_
        rintro e wd ⟨rfl, hwd⟩
        subst hwd
        rw [HV.out.1]
        go_wp2_with fail
        refine (od_leftX M2.out).mono ?_
        rintro e we ⟨ga, ca, rfl, r1, -, h1, -⟩
        rw [HN.out] at r1 ⊢
        have M3 := hd (And.intro r1 h1)
        clear r1 h1 M2
        go_wp2_with fail
        refine (od_leftY M3.out.2).mono ?_
        rintro e wf ⟨gb, cb, rfl, r2, -, h1, h2⟩
        rw [HN.out] at r2 ⊢
        have C := hd (same_rows _ _ _ _ _ _ wf (M3.out.1.kpB (h2 ga (.inr rfl))) r2)
        have M4 := hd (h1.less (K' := NoK) (fun k hk => hk.elim))
        clear r2 h1 h2 M3
        go_wp2_with fail
        refine C.out.mono ?_
        rintro e wg ⟨rfl, hb⟩
        have M5 := hd (M4.out.below hb)
        clear hb M4 C HN
        go_wp2_with fail
        go_loopw [16] (fun vj wq => ∃ j : Nat, j ≤ m ∧ vj = .int .i64 j ∧ Hid (MO w wq NoK (FO x y kb p5 p5 m))) (fun vj _ => m - (intOf vj).toNat)
        case atStart => exact ⟨0, Nat.zero_le _, rfl, M5⟩
        case round =>
          obtain ⟨j, hj, rfl, MJ⟩ := hrel
          clear M5
          obtain ⟨S, vL, βL, SL, vW, βW, SW, E, KK⟩ := od_kept MJ.out
          obtain ⟨aL, cL, rfl, hcL, hcL2⟩ := KK.rowL.form
          obtain ⟨aW, cW, rfl, hcW, hcW2⟩ := KK.rowW.form
          rw [show SL.length = m by rw [KK.ke.1]; exact KK.len] at KK hcL
          rw [show SW.length = m by rw [KK.ke.2.1]; exact KK.len] at KK hcW
          have k0 := cell_row KK.box 0
          have k1 := cell_row KK.box 1
          simp at k0 k1
          by_cases hjm : j < m
          · have j1 : (j : Int) < (m : Int) := by omega
            obtain ⟨gL, gW, sl, sw, ee, rfl, rfl, d0, d1, H1, H2⟩ := KK.entry j hjm
            obtain ⟨sla, sln, slc⟩ := sl
            obtain ⟨swa, swn, swc⟩ := sw
            simp only at d0 d1
            have CQ : Hid (∀ q, Calls Try.prog 20 #[.slice sla sln slc, .slice swa swn swc] (wr.drewN q) fun e w' => e = .returned (.bool true) ∧ ∃ z, w' = wr.drewN z) := fun q =>
              Calls.quiet_of (sameList_hi S S sla swa sln swn slc swc ee _ (H1.fr (Fr.drewN (fun _ => False) _ _) (fun _ _ h => h)) (H2.fr (Fr.drewN (fun _ => False) _ _) (fun _ _ h => h)))
            clear KK H1 H2
            go_wp2_with fail
            go_quiet (first | (go_at_call 20; exact CQ.out _))
            go_wp2_with fail
            exact ⟨⟨j + 1, by omega, by go_num, MJ.out.below (by repeat (first | exact Below.refl _ _ | refine Below.drew ?_ | refine below_drewN ?_ _))⟩, by simp [intOf]; omega⟩
          · have j1 : ¬ (j : Int) < (m : Int) := by omega
            have Z : Hid (∃ p m, MO w wr NoK (FO x y kb p p m) ∧ m ≤ 4 * (i + 1) ∧ (i + 1 ≤ n0 → p.last = min (i + 1) 4096)) := ⟨p5, m, MJ.out, HM5, HL5.out⟩
            clear KK MJ
            go_wp2_with fail
            exact ⟨⟨i + 1, by omega, by go_num, Z⟩, by simp [intOf]; omega⟩
      · have i2 : ¬ (i : Int) < (n0 : Int) := by omega
        obtain ⟨j, rfl⟩ : ∃ j, i = n0 + j := ⟨i - n0, by omega⟩
        have e0 : IntKind.i64.wrap (((n0 + j : Nat) : Int) - n0) = (j : Int) := by rw [IntKind.wrap_i64]; omega
        have e9 : ((n0 + j : Nat) : Int) - n0 = (j : Int) := by omega
        obtain ⟨i, hi5⟩ : ∃ i, n0 + j = i := ⟨_, rfl⟩
        rw [hi5] at e0 e9 i1 i2 hi hlt hm HL ⊢
        obtain ⟨b, off, rfl, hbl, hc⟩ := (HS.out.below hM.base (Nat.le_refl _)).2.2 (by omega)
        obtain ⟨q0, q1, q2⟩ := hc j (by omega)
        have k0 := fun o => ((al o).cell (p := ⟨b, off + j * 3, none⟩) hbl).trans q0
        have k1 := fun o => ((al o).cell (p := ⟨b, off + j * 3 + 1, none⟩) hbl).trans q1
        have k2 := fun o => ((al o).cell (p := ⟨b, off + j * 3 + 2, none⟩) hbl).trans q2
        clear q0 q1 q2 al hbl
        have hj : j < n1 := by omega
        have hni : n0 ≤ i := by omega
        generalize O j = o at k0 k1 k2
        obtain ⟨ko, so, no⟩ := o
        simp only at k0 k1 k2
        clear hM hl hc HT hi5 hfi
        by_cases q2 : ko = 2
        · subst q2
          obtain ⟨nn, hnn⟩ : ∃ nn, (dueL p).length = nn := ⟨_, rfl⟩
          have hn4 : nn ≤ 4096 := by rw [← hnn]; exact dueL_four _ (FO_ok HP.out)
          have HN := hd hnn
          clear hnn
          go_wp2_with fail
          refine (od_dueX (HP.out.below ?_)).mono ?_
          · repeat (first | exact Below.refl _ _ | refine Below.setCell ?_ (by simp) _ | refine Below.alloc ?_ (by simp) _)
          rintro e w1 ⟨g1, c1, rfl, r1, b1, h1, -⟩
          have zb : w.heap.size ≤ wr.heap.size := HP.out.base.size
          simp at b1
          rw [HN.out] at r1 ⊢
          have M1 := hd (And.intro r1 h1)
          clear r1 h1 HP k0 k1 k2
          go_wp2_with fail
          refine (od_dueX M1.out.2).mono ?_
          rintro e w2 ⟨g2, c2, rfl, r1, b2, h1, h2⟩
          rw [(dueS_twice p).1] at h1
          rw [show dueL (dueS p) = dueL p from (dueS_twice p).2] at r1
          rw [show (dueL (dueS p)).length = (dueL p).length by rw [(dueS_twice p).2]]
          rw [HN.out] at r1 ⊢
          have hg12 : g1 < g2 := by have := M1.out.1.lt; omega
          have M2 := hd (And.intro (M1.out.1.kpB (h2 g1 (.inr rfl))) (And.intro r1 h1))
          clear r1 h1 h2 M1
          go_wp2_with fail
          refine (od_dueY M2.out.2.2).mono ?_
          rintro e w3 ⟨g3, c3, rfl, r1, b3, h1, h2⟩
          rw [HN.out] at r1 ⊢
          have R1 := M2.out.1.kpB (h2 g1 (.inl (.inr rfl)))
          have R2 := M2.out.2.1.kpB (h2 g2 (.inr rfl))
          have C := hd (same_rows _ _ _ _ _ _ w3 R1 r1)
          have M3 := hd (And.intro R1 (And.intro R2 (h1.less (K' := fun k => k = g1 ∨ k = g2) (fun k hk => by
            rcases hk with hk | hk
            · exact .inl (.inl (.inr hk))
            · exact .inl (.inr hk)))))
          clear r1 h1 h2 M2 R1 R2
          go_wp2_with fail
          refine C.out.mono ?_
          rintro e w4 ⟨rfl, hb⟩
          have M4 := hd (And.intro (M3.out.1.kpB (M3.out.2.2.kp hb g1 (.inl rfl))) (And.intro (M3.out.2.1.kpB (M3.out.2.2.kp hb g2 (.inr rfl))) (M3.out.2.2.below hb)))
          clear hb M3 C
          have C := hd (same_rows _ _ _ _ _ _ w4 M4.out.2.1 M4.out.1)
          go_wp2_with fail
          refine C.out.mono ?_
          rintro e w5 ⟨rfl, hb⟩
          have M5 := hd (And.intro (M4.out.1.kpB (M4.out.2.2.kp hb g1 (.inl rfl))) (And.intro (M4.out.2.1.kpB (M4.out.2.2.kp hb g2 (.inr rfl))) (M4.out.2.2.below hb)))
          clear hb M4 C
          go_wp2_with fail
          refine (od_marked M5.out.2.2 M5.out.1 (.inl rfl) (by omega) hn4 (by omega) _).mono ?_
          rintro e w6 ⟨rfl, h1, h2⟩
          have M6 := hd (And.intro (M5.out.2.1.kpB (h2 g2 ⟨.inr rfl, by omega⟩)) (h1.less (K' := (· = g2)) (fun k hk => ⟨.inr hk, by omega⟩)))
          clear h1 h2 M5
          go_wp2_with fail
          refine (od_dueY M6.out.2).mono ?_
          rintro e w7 ⟨g4, c4, rfl, r1, b4, h1, h2⟩
          rw [(dueS_twice p).1] at h1
          rw [show dueL (dueS p) = dueL p from (dueS_twice p).2] at r1
          rw [show (dueL (dueS p)).length = (dueL p).length by rw [(dueS_twice p).2]]
          rw [HN.out] at r1 ⊢
          have R2 := M6.out.1.kpB (h2 g2 rfl)
          have C := hd (same_rows _ _ _ _ _ _ w7 R2 r1)
          have M7 := hd (And.intro R2 (h1.less (K' := (· = g2)) (fun k hk => .inl hk)))
          clear r1 h1 h2 M6 R2
          go_wp2_with fail
          refine C.out.mono ?_
          rintro e w8 ⟨rfl, hb⟩
          have M8 := hd (And.intro (M7.out.1.kpB (M7.out.2.kp hb g2 rfl)) (M7.out.2.below hb))
          clear hb M7 C
          go_wp2_with fail
          refine (od_marked M8.out.2 M8.out.1 rfl (by omega) hn4 (by omega) _).mono ?_
          rintro e w9 ⟨rfl, h1, -⟩
          have M := hd (h1.less (K' := NoK) (fun k hk => hk.elim))
          clear h1 M8 HN
          have HM5 : m + 2 + 2 ≤ 4 * (i + 1) := by omega
          have HL5 : Hid (i + 1 ≤ n0 → (dueS p).last = min (i + 1) 4096) := fun hin => by omega
          generalize dueS p = p5 at M HL5
          obtain ⟨m5, hm5⟩ : ∃ m5, m + 2 + 2 = m5 := ⟨_, rfl⟩
          rw [hm5] at M HM5
          have OK := hd (FO_ok M.out)
          obtain ⟨va, hva⟩ : ∃ va, p5.a = va := ⟨_, rfl⟩
          obtain ⟨vl, hvl⟩ : ∃ vl, p5.last = vl := ⟨_, rfl⟩
          have HV := hd (And.intro hva hvl)
          obtain ⟨nl, hnl⟩ : ∃ nl, (leftL p5).length = nl := ⟨_, rfl⟩
          have HN := hd hnl
          clear hva hvl hnl
          go_wp2_with fail
          refine (mo_last M.out 0 rfl).mono ?_
          rintro e wa ⟨rfl, h1, -⟩
          rw [HV.out.2]
          have M1 := hd h1
          clear h1 M
          go_wp2_with fail
          refine (mo_last M1.out 1 rfl).mono ?_
          rintro e wb ⟨rfl, h1, -⟩
          rw [HV.out.2]
          have M2 := hd h1
          clear h1 M1
          go_wp2_with fail
          refine (mo_acked M2.out 0 rfl).mono ?_
          rintro e wc ⟨rfl, hwc⟩
          subst hwc
          rw [HV.out.1]
          go_wp2_with fail
          refine (mo_acked M2.out 1 rfl).mono ?_
          rintro e wd ⟨rfl, hwd⟩
          subst hwd
          rw [HV.out.1]
          go_wp2_with fail
          refine (od_leftX M2.out).mono ?_
          rintro e we ⟨ga, ca, rfl, r1, -, h1, -⟩
          rw [HN.out] at r1 ⊢
          have M3 := hd (And.intro r1 h1)
          clear r1 h1 M2
          go_wp2_with fail
          refine (od_leftY M3.out.2).mono ?_
          rintro e wf ⟨gb, cb, rfl, r2, -, h1, h2⟩
          rw [HN.out] at r2 ⊢
          have C := hd (same_rows _ _ _ _ _ _ wf (M3.out.1.kpB (h2 ga (.inr rfl))) r2)
          have M4 := hd (h1.less (K' := NoK) (fun k hk => hk.elim))
          clear r2 h1 h2 M3
          go_wp2_with fail
          refine C.out.mono ?_
          rintro e wg ⟨rfl, hb⟩
          have M5 := hd (M4.out.below hb)
          clear hb M4 C HN
          go_wp2_with fail
          go_loopw [16] (fun vj wq => ∃ j : Nat, j ≤ m5 ∧ vj = .int .i64 j ∧ Hid (MO w wq NoK (FO x y kb p5 p5 m5))) (fun vj _ => m5 - (intOf vj).toNat)
          case atStart => exact ⟨0, Nat.zero_le _, rfl, M5⟩
          case round =>
            obtain ⟨j, hj, rfl, MJ⟩ := hrel
            clear M5
            obtain ⟨S, vL, βL, SL, vW, βW, SW, E, KK⟩ := od_kept MJ.out
            obtain ⟨aL, cL, rfl, hcL, hcL2⟩ := KK.rowL.form
            obtain ⟨aW, cW, rfl, hcW, hcW2⟩ := KK.rowW.form
            rw [show SL.length = m5 by rw [KK.ke.1]; exact KK.len] at KK hcL
            rw [show SW.length = m5 by rw [KK.ke.2.1]; exact KK.len] at KK hcW
            have k0 := cell_row KK.box 0
            have k1 := cell_row KK.box 1
            simp at k0 k1
            by_cases hjm : j < m5
            · have j1 : (j : Int) < (m5 : Int) := by omega
              obtain ⟨gL, gW, sl, sw, ee, rfl, rfl, d0, d1, H1, H2⟩ := KK.entry j hjm
              obtain ⟨sla, sln, slc⟩ := sl
              obtain ⟨swa, swn, swc⟩ := sw
              simp only at d0 d1
              have CQ : Hid (∀ q, Calls Try.prog 20 #[.slice sla sln slc, .slice swa swn swc] (wr.drewN q) fun e w' => e = .returned (.bool true) ∧ ∃ z, w' = wr.drewN z) := fun q =>
                Calls.quiet_of (sameList_hi S S sla swa sln swn slc swc ee _ (H1.fr (Fr.drewN (fun _ => False) _ _) (fun _ _ h => h)) (H2.fr (Fr.drewN (fun _ => False) _ _) (fun _ _ h => h)))
              clear KK H1 H2
              go_wp2_with fail
              go_quiet (first | (go_at_call 20; exact CQ.out _))
              go_wp2_with fail
              exact ⟨⟨j + 1, by omega, by go_num, MJ.out.below (by repeat (first | exact Below.refl _ _ | refine Below.drew ?_ | refine below_drewN ?_ _))⟩, by simp [intOf]; omega⟩
            · have j1 : ¬ (j : Int) < (m5 : Int) := by omega
              have Z : Hid (∃ p m, MO w wr NoK (FO x y kb p p m) ∧ m ≤ 4 * (i + 1) ∧ (i + 1 ≤ n0 → p.last = min (i + 1) 4096)) := ⟨p5, m5, MJ.out, HM5, HL5.out⟩
              clear KK MJ
              go_wp2_with fail
              exact ⟨⟨i + 1, by omega, by go_num, Z⟩, by simp [intOf]; omega⟩
        by_cases q4 : ko = 4
        · subst q4
          obtain ⟨nn, hnn⟩ : ∃ nn, (leftL p).length = nn := ⟨_, rfl⟩
          have hn4 : nn ≤ 4096 := by rw [← hnn]; exact leftL_four _ (FO_ok HP.out)
          have HN := hd hnn
          clear hnn
          go_wp2_with fail
          refine (od_leftX (HP.out.below ?_)).mono ?_
          · repeat (first | exact Below.refl _ _ | refine Below.setCell ?_ (by simp) _ | refine Below.alloc ?_ (by simp) _)
          rintro e w1 ⟨g1, c1, rfl, r1, b1, h1, -⟩
          have zb : w.heap.size ≤ wr.heap.size := HP.out.base.size
          simp at b1
          rw [HN.out] at r1 ⊢
          have M1 := hd (And.intro r1 h1)
          clear r1 h1 HP k0 k1 k2
          go_wp2_with fail
          refine (od_leftX M1.out.2).mono ?_
          rintro e w2 ⟨g2, c2, rfl, r1, b2, h1, h2⟩
          rw [HN.out] at r1 ⊢
          have hg12 : g1 < g2 := by have := M1.out.1.lt; omega
          have M2 := hd (And.intro (M1.out.1.kpB (h2 g1 (.inr rfl))) (And.intro r1 h1))
          clear r1 h1 h2 M1
          go_wp2_with fail
          refine (od_leftY M2.out.2.2).mono ?_
          rintro e w3 ⟨g3, c3, rfl, r1, b3, h1, h2⟩
          rw [HN.out] at r1 ⊢
          have R1 := M2.out.1.kpB (h2 g1 (.inl (.inr rfl)))
          have R2 := M2.out.2.1.kpB (h2 g2 (.inr rfl))
          have C := hd (same_rows _ _ _ _ _ _ w3 R1 r1)
          have M3 := hd (And.intro R1 (And.intro R2 (h1.less (K' := fun k => k = g1 ∨ k = g2) (fun k hk => by
            rcases hk with hk | hk
            · exact .inl (.inl (.inr hk))
            · exact .inl (.inr hk)))))
          clear r1 h1 h2 M2 R1 R2
          go_wp2_with fail
          refine C.out.mono ?_
          rintro e w4 ⟨rfl, hb⟩
          have M4 := hd (And.intro (M3.out.1.kpB (M3.out.2.2.kp hb g1 (.inl rfl))) (And.intro (M3.out.2.1.kpB (M3.out.2.2.kp hb g2 (.inr rfl))) (M3.out.2.2.below hb)))
          clear hb M3 C
          have C := hd (same_rows _ _ _ _ _ _ w4 M4.out.2.1 M4.out.1)
          go_wp2_with fail
          refine C.out.mono ?_
          rintro e w5 ⟨rfl, hb⟩
          have M5 := hd (And.intro (M4.out.1.kpB (M4.out.2.2.kp hb g1 (.inl rfl))) (And.intro (M4.out.2.1.kpB (M4.out.2.2.kp hb g2 (.inr rfl))) (M4.out.2.2.below hb)))
          clear hb M4 C
          go_wp2_with fail
          refine (od_marked M5.out.2.2 M5.out.1 (.inl rfl) (by omega) hn4 (by omega) _).mono ?_
          rintro e w6 ⟨rfl, h1, h2⟩
          have M6 := hd (And.intro (M5.out.2.1.kpB (h2 g2 ⟨.inr rfl, by omega⟩)) (h1.less (K' := (· = g2)) (fun k hk => ⟨.inr hk, by omega⟩)))
          clear h1 h2 M5
          go_wp2_with fail
          refine (od_leftY M6.out.2).mono ?_
          rintro e w7 ⟨g4, c4, rfl, r1, b4, h1, h2⟩
          rw [HN.out] at r1 ⊢
          have R2 := M6.out.1.kpB (h2 g2 rfl)
          have C := hd (same_rows _ _ _ _ _ _ w7 R2 r1)
          have M7 := hd (And.intro R2 (h1.less (K' := (· = g2)) (fun k hk => .inl hk)))
          clear r1 h1 h2 M6 R2
          go_wp2_with fail
          refine C.out.mono ?_
          rintro e w8 ⟨rfl, hb⟩
          have M8 := hd (And.intro (M7.out.1.kpB (M7.out.2.kp hb g2 rfl)) (M7.out.2.below hb))
          clear hb M7 C
          go_wp2_with fail
          refine (od_marked M8.out.2 M8.out.1 rfl (by omega) hn4 (by omega) _).mono ?_
          rintro e w9 ⟨rfl, h1, -⟩
          have M := hd (h1.less (K' := NoK) (fun k hk => hk.elim))
          clear h1 M8 HN
          have HM5 : m + 2 + 2 ≤ 4 * (i + 1) := by omega
          have HL5 : Hid (i + 1 ≤ n0 → (p).last = min (i + 1) 4096) := fun hin => by omega
          obtain ⟨m5, hm5⟩ : ∃ m5, m + 2 + 2 = m5 := ⟨_, rfl⟩
          rw [hm5] at M HM5
          have OK := hd (FO_ok M.out)
          obtain ⟨va, hva⟩ : ∃ va, p.a = va := ⟨_, rfl⟩
          obtain ⟨vl, hvl⟩ : ∃ vl, p.last = vl := ⟨_, rfl⟩
          have HV := hd (And.intro hva hvl)
          obtain ⟨nl, hnl⟩ : ∃ nl, (leftL p).length = nl := ⟨_, rfl⟩
          have HN := hd hnl
          clear hva hvl hnl
          go_wp2_with fail
          refine (mo_last M.out 0 rfl).mono ?_
          rintro e wa ⟨rfl, h1, -⟩
          rw [HV.out.2]
          have M1 := hd h1
          clear h1 M
          go_wp2_with fail
          refine (mo_last M1.out 1 rfl).mono ?_
          rintro e wb ⟨rfl, h1, -⟩
          rw [HV.out.2]
          have M2 := hd h1
          clear h1 M1
          go_wp2_with fail
          refine (mo_acked M2.out 0 rfl).mono ?_
          rintro e wc ⟨rfl, hwc⟩
          subst hwc
          rw [HV.out.1]
          go_wp2_with fail
          refine (mo_acked M2.out 1 rfl).mono ?_
          rintro e wd ⟨rfl, hwd⟩
          subst hwd
          rw [HV.out.1]
          go_wp2_with fail
          refine (od_leftX M2.out).mono ?_
          rintro e we ⟨ga, ca, rfl, r1, -, h1, -⟩
          rw [HN.out] at r1 ⊢
          have M3 := hd (And.intro r1 h1)
          clear r1 h1 M2
          go_wp2_with fail
          refine (od_leftY M3.out.2).mono ?_
          rintro e wf ⟨gb, cb, rfl, r2, -, h1, h2⟩
          rw [HN.out] at r2 ⊢
          have C := hd (same_rows _ _ _ _ _ _ wf (M3.out.1.kpB (h2 ga (.inr rfl))) r2)
          have M4 := hd (h1.less (K' := NoK) (fun k hk => hk.elim))
          clear r2 h1 h2 M3
          go_wp2_with fail
          refine C.out.mono ?_
          rintro e wg ⟨rfl, hb⟩
          have M5 := hd (M4.out.below hb)
          clear hb M4 C HN
          go_wp2_with fail
          go_loopw [16] (fun vj wq => ∃ j : Nat, j ≤ m5 ∧ vj = .int .i64 j ∧ Hid (MO w wq NoK (FO x y kb p p m5))) (fun vj _ => m5 - (intOf vj).toNat)
          case atStart => exact ⟨0, Nat.zero_le _, rfl, M5⟩
          case round =>
            obtain ⟨j, hj, rfl, MJ⟩ := hrel
            clear M5
            obtain ⟨S, vL, βL, SL, vW, βW, SW, E, KK⟩ := od_kept MJ.out
            obtain ⟨aL, cL, rfl, hcL, hcL2⟩ := KK.rowL.form
            obtain ⟨aW, cW, rfl, hcW, hcW2⟩ := KK.rowW.form
            rw [show SL.length = m5 by rw [KK.ke.1]; exact KK.len] at KK hcL
            rw [show SW.length = m5 by rw [KK.ke.2.1]; exact KK.len] at KK hcW
            have k0 := cell_row KK.box 0
            have k1 := cell_row KK.box 1
            simp at k0 k1
            by_cases hjm : j < m5
            · have j1 : (j : Int) < (m5 : Int) := by omega
              obtain ⟨gL, gW, sl, sw, ee, rfl, rfl, d0, d1, H1, H2⟩ := KK.entry j hjm
              obtain ⟨sla, sln, slc⟩ := sl
              obtain ⟨swa, swn, swc⟩ := sw
              simp only at d0 d1
              have CQ : Hid (∀ q, Calls Try.prog 20 #[.slice sla sln slc, .slice swa swn swc] (wr.drewN q) fun e w' => e = .returned (.bool true) ∧ ∃ z, w' = wr.drewN z) := fun q =>
                Calls.quiet_of (sameList_hi S S sla swa sln swn slc swc ee _ (H1.fr (Fr.drewN (fun _ => False) _ _) (fun _ _ h => h)) (H2.fr (Fr.drewN (fun _ => False) _ _) (fun _ _ h => h)))
              clear KK H1 H2
              go_wp2_with fail
              go_quiet (first | (go_at_call 20; exact CQ.out _))
              go_wp2_with fail
              exact ⟨⟨j + 1, by omega, by go_num, MJ.out.below (by repeat (first | exact Below.refl _ _ | refine Below.drew ?_ | refine below_drewN ?_ _))⟩, by simp [intOf]; omega⟩
            · have j1 : ¬ (j : Int) < (m5 : Int) := by omega
              have Z : Hid (∃ p m, MO w wr NoK (FO x y kb p p m) ∧ m ≤ 4 * (i + 1) ∧ (i + 1 ≤ n0 → p.last = min (i + 1) 4096)) := ⟨p, m5, MJ.out, HM5, HL5.out⟩
              clear KK MJ
              go_wp2_with fail
              exact ⟨⟨i + 1, by omega, by go_num, Z⟩, by simp [intOf]; omega⟩
        · have q9 : ¬ ko = 2 := q2
          go_upto_region 14 with fail
          have BB : Hid (∃ U, U = (wr.alloc (.cells #[.int .i64 ko, .int .i64 so, .int .i64 no] 32)) ∧ MO w U (· = wr.heap.size) (FO x y kb p p m) ∧ U.heap[wr.heap.size]? = some (.cells #[.int .i64 ko, .int .i64 so, .int .i64 no] 32 (0, 0))) := by
            refine ⟨_, rfl, HP.out.adds ?_ (fun k hk => .inr (by omega)) (fun k hk => by rw [hk]; simp), ?_⟩
            · repeat (first | exact Below.refl _ _ | refine Below.setCell ?_ (by simp) _ | refine Below.alloc ?_ (by simp) _)
            · exact heap_alloc_new _ _
          obtain ⟨U, hU, hM1, hR1⟩ := BB.out
          rw [← hU]
          obtain ⟨q0, q1, q2⟩ := opcells hR1
          have O1 : Hid (∀ V, Below U.heap.size U V → Calls Try.prog 18 #[.pointer (some ⟨x, 0, none⟩), .agg #[.int .i64 ko, .int .i64 so, .int .i64 no]] V fun e w' => e = .returned (.int .i64 (actE p ko no)) ∧ MO w w' (· = wr.heap.size) (FO x y kb (actS p ko no) p m) ∧ w'.heap[wr.heap.size]? = some (.cells #[.int .i64 ko, .int .i64 so, .int .i64 no] 32 (0, 0))) := by
            intro V hV
            refine (od_actX (hM1.below hV) ko so no).mono ?_
            rintro e w' ⟨rfl, h3, h4⟩
            exact ⟨rfl, h3, (h4 _ rfl).trans ((hV.block _ (block_lt hR1)).trans hR1)⟩
          have O2 : Hid (∀ w3 V, (MO w w3 (· = wr.heap.size) (FO x y kb (actS p ko no) p m) ∧ w3.heap[wr.heap.size]? = some (.cells #[.int .i64 ko, .int .i64 so, .int .i64 no] 32 (0, 0))) → Below w3.heap.size w3 V → Calls Try.prog 18 #[.pointer (some ⟨y, 0, none⟩), .agg #[.int .i64 ko, .int .i64 so, .int .i64 no]] V fun e w' => e = .returned (.int .i64 (actE p ko no)) ∧ MO w w' (· = wr.heap.size) (FO x y kb (actS p ko no) (actS p ko no) m) ∧ w'.heap[wr.heap.size]? = some (.cells #[.int .i64 ko, .int .i64 so, .int .i64 no] 32 (0, 0))) := by
            intro w3 V hT hV
            refine (od_actY (hT.1.below hV) ko so no).mono ?_
            rintro e w' ⟨rfl, h3, h4⟩
            exact ⟨rfl, h3, (h4 _ rfl).trans ((hV.block _ (block_lt hT.2)).trans hT.2)⟩
          generalize actE p ko no = ve at O1 O2
          clear hM1 hR1 BB hU k0 k1 k2
          go_region_held3 (fun V => V.cell? ⟨wr.heap.size, 0, none⟩ = some (.int .i64 ko) ∧ V.cell? ⟨wr.heap.size, 1, none⟩ = some (.int .i64 so) ∧ V.cell? ⟨wr.heap.size, 2, none⟩ = some (.int .i64 no)) (first | (with_reducible exact ⟨by assumption, by assumption, by assumption⟩) | (go_keep; done)) (first | (go_at_call 18; revert HX1; intro HX1; refine (O2.out _ _ HX1.out (by first | exact Below.refl _ _ | exact (Below.refl _ _).drew | exact below_drewN (Below.refl _ _) _)).mono ?_; rintro e v ⟨rfl, kv⟩; obtain ⟨r0, r1, r2⟩ := opcells kv.2; have HX2 := hd kv; clear kv) | (go_at_call 18; refine (O1.out _ (by first | exact Below.refl _ _ | exact (Below.refl _ _).drew | exact below_drewN (Below.refl _ _) _)).mono ?_; rintro e u ⟨rfl, ku⟩; obtain ⟨p0, p1, p2⟩ := opcells ku.2; have HX1 := hd ku; clear ku))
          have M := hd (HX2.out.1.less (K' := NoK) (fun k hk => hk.elim))
          clear O1 O2 q0 q1 q2 HX1 HX2
          have HM5 : m ≤ 4 * (i + 1) := by omega
          have HL5 : Hid (i + 1 ≤ n0 → (actS p ko no).last = min (i + 1) 4096) := by
            intro hin
            omega

          generalize actS p ko no = p5 at M HL5
          have OK := hd (FO_ok M.out)
          obtain ⟨va, hva⟩ : ∃ va, p5.a = va := ⟨_, rfl⟩
          obtain ⟨vl, hvl⟩ : ∃ vl, p5.last = vl := ⟨_, rfl⟩
          have HV := hd (And.intro hva hvl)
          obtain ⟨nl, hnl⟩ : ∃ nl, (leftL p5).length = nl := ⟨_, rfl⟩
          have HN := hd hnl
          clear hva hvl hnl
          go_wp2_with fail
          refine (mo_last (M.out.below (by repeat (first | exact Below.refl _ _ | refine Below.drew ?_ | refine below_drewN ?_ _))) 0 rfl).mono ?_
          rintro e wa ⟨rfl, h1, -⟩
          rw [HV.out.2]
          have M1 := hd h1
          clear h1 M
          go_wp2_with fail
          refine (mo_last M1.out 1 rfl).mono ?_
          rintro e wb ⟨rfl, h1, -⟩
          rw [HV.out.2]
          have M2 := hd h1
          clear h1 M1
          go_wp2_with fail
          refine (mo_acked M2.out 0 rfl).mono ?_
          rintro e wc ⟨rfl, hwc⟩
          subst hwc
          rw [HV.out.1]
          go_wp2_with fail
          refine (mo_acked M2.out 1 rfl).mono ?_
          rintro e wd ⟨rfl, hwd⟩
          subst hwd
          rw [HV.out.1]
          go_wp2_with fail
          refine (od_leftX M2.out).mono ?_
          rintro e we ⟨ga, ca, rfl, r1, -, h1, -⟩
          rw [HN.out] at r1 ⊢
          have M3 := hd (And.intro r1 h1)
          clear r1 h1 M2
          go_wp2_with fail
          refine (od_leftY M3.out.2).mono ?_
          rintro e wf ⟨gb, cb, rfl, r2, -, h1, h2⟩
          rw [HN.out] at r2 ⊢
          have C := hd (same_rows _ _ _ _ _ _ wf (M3.out.1.kpB (h2 ga (.inr rfl))) r2)
          have M4 := hd (h1.less (K' := NoK) (fun k hk => hk.elim))
          clear r2 h1 h2 M3
          go_wp2_with fail
          refine C.out.mono ?_
          rintro e wg ⟨rfl, hb⟩
          have M5 := hd (M4.out.below hb)
          clear hb M4 C HN
          go_wp2_with fail
          go_loopw [16] (fun vj wq => ∃ j : Nat, j ≤ m ∧ vj = .int .i64 j ∧ Hid (MO w wq NoK (FO x y kb p5 p5 m))) (fun vj _ => m - (intOf vj).toNat)
          case atStart => exact ⟨0, Nat.zero_le _, rfl, M5⟩
          case round =>
            obtain ⟨j, hj, rfl, MJ⟩ := hrel
            clear M5
            obtain ⟨S, vL, βL, SL, vW, βW, SW, E, KK⟩ := od_kept MJ.out
            obtain ⟨aL, cL, rfl, hcL, hcL2⟩ := KK.rowL.form
            obtain ⟨aW, cW, rfl, hcW, hcW2⟩ := KK.rowW.form
            rw [show SL.length = m by rw [KK.ke.1]; exact KK.len] at KK hcL
            rw [show SW.length = m by rw [KK.ke.2.1]; exact KK.len] at KK hcW
            have k0 := cell_row KK.box 0
            have k1 := cell_row KK.box 1
            simp at k0 k1
            by_cases hjm : j < m
            · have j1 : (j : Int) < (m : Int) := by omega
              obtain ⟨gL, gW, sl, sw, ee, rfl, rfl, d0, d1, H1, H2⟩ := KK.entry j hjm
              obtain ⟨sla, sln, slc⟩ := sl
              obtain ⟨swa, swn, swc⟩ := sw
              simp only at d0 d1
              have CQ : Hid (∀ q, Calls Try.prog 20 #[.slice sla sln slc, .slice swa swn swc] (wr.drewN q) fun e w' => e = .returned (.bool true) ∧ ∃ z, w' = wr.drewN z) := fun q =>
                Calls.quiet_of (sameList_hi S S sla swa sln swn slc swc ee _ (H1.fr (Fr.drewN (fun _ => False) _ _) (fun _ _ h => h)) (H2.fr (Fr.drewN (fun _ => False) _ _) (fun _ _ h => h)))
              clear KK H1 H2
              go_wp2_with fail
              go_quiet (first | (go_at_call 20; exact CQ.out _))
              go_wp2_with fail
              exact ⟨⟨j + 1, by omega, by go_num, MJ.out.below (by repeat (first | exact Below.refl _ _ | refine Below.drew ?_ | refine below_drewN ?_ _))⟩, by simp [intOf]; omega⟩
            · have j1 : ¬ (j : Int) < (m : Int) := by omega
              have Z : Hid (∃ p m, MO w wr NoK (FO x y kb p p m) ∧ m ≤ 4 * (i + 1) ∧ (i + 1 ≤ n0 → p.last = min (i + 1) 4096)) := ⟨p5, m, MJ.out, HM5, HL5.out⟩
              clear KK MJ
              go_wp2_with fail
              exact ⟨⟨i + 1, by omega, by go_num, Z⟩, by simp [intOf]; omega⟩
    · have i1 : ¬ (i : Int) < (n0 : Int) + n1 := by omega
      obtain rfl : i = n0 + n1 := by omega
      obtain ⟨vl, hvl⟩ : ∃ vl, p.last = vl := ⟨_, rfl⟩
      have hend : n1 = 0 → vl = min n0 4096 := fun h => by have := hl (by omega); subst h; omega
      have HV := hd hvl
      clear hM hl HT hvl al HI HS HL
      go_wp2_with fail
      refine (mo_last HP.out 0 rfl).mono ?_
      rintro e wa ⟨rfl, h1, -⟩
      rw [HV.out]
      have M1 := hd h1
      clear h1 HP
      have e1 : (0 : Int) ≤ (vl : Int) := by omega
      by_cases hz0 : n0 = 0
      · have g0 : (n0 : Int) = 0 := by omega
        have Z := hd M1.out.base
        clear M1
        go_wp2
        go_ret
        exact ⟨rfl, Z.out⟩
      · have g0 : ¬ (n0 : Int) = 0 := by omega
        by_cases hz1 : n1 = 0
        · have g1 : ¬ (0 : Int) < (n1 : Int) := by omega
          have HVV := hd (hend hz1)
          clear hend hz1
          go_wp2_with fail
          refine (mo_last M1.out 0 rfl).mono ?_
          rintro e wb ⟨rfl, h1, -⟩
          rw [HV.out]
          have Z := hd h1.base
          clear h1 M1
          have hv := HVV.out
          by_cases hc4 : (4096 : Int) < (n0 : Int)
          · obtain rfl : vl = 4096 := by omega
            clear hv HVV HV
            go_wp2
            go_ret
            exact ⟨rfl, Z.out⟩
          · obtain rfl : vl = n0 := by omega
            clear hv HVV HV
            go_wp2
            go_ret
            exact ⟨rfl, Z.out⟩
        · have g1 : (0 : Int) < (n1 : Int) := by omega
          have Z := hd M1.out.base
          clear M1
          go_wp2
          go_ret
          exact ⟨rfl, Z.out⟩

end Go.Proofs.Ytocpfioifamkmaa
