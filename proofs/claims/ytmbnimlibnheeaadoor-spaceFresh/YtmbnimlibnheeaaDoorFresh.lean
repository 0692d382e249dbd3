/-
  SpaceFresh: the walk.
-/
import Derived.Test.YtmbnimlibnheeaaDoorXd
import Derived.Deep.DeepCutAuto
import Derived.Deep.RegionHeld3
namespace Go.Proofs.YtmbnimlibnheeaaDoor
open Go.RowKit Go.Lib
set_option linter.unusedVariables false

set_option maxRecDepth 100000 in
set_option maxHeartbeats 8000000 in
theorem spaceFresh_any (a : Option Addr) (N c : Nat) (xs : List OpE) (op : OpE) (w : World) (hT : Table w) (hE : IsO w a N c xs) (hO : OkO xs) (ho : OkOp op) :
    Calls Tryd.prog 6 #[.slice a N c, op.val] w fun e w' => e = .returned (.bool true) ∧ Below w.heap.size w w' := by
  obtain ⟨ok, pp, och, ocl, osq⟩ := op
  have HT := hd hT
  have HE := hd hE
  have HO := hd hO
  have HP := hd ho
  clear hT hE hO ho
  show Calls Tryd.prog 6 #[.slice a N c, .agg #[.int .i64 ok, .int .i64 pp, .int .u8 och, .int .i64 ocl, .int .i64 osq]] w _
  go_enter Tryd.func6, Tryd.ntmps6
  obtain ⟨w1, hw1⟩ : ∃ u, u = w.alloc (.cells #[.int .i64 ok, .int .i64 pp, .int .u8 och, .int .i64 ocl, .int .i64 osq] 29) := ⟨_, rfl⟩
  have M1 : Hid (MO w w1 NoK (F6 (opO w.heap.size ⟨ok, pp, och, ocl, osq⟩) noObj noObj noObj noObj noObj noObj)) := by
    have := (MO.nil w).put 6 (w' := w1) (frm_op w.heap.size ⟨ok, pp, och, ocl, osq⟩) (S' := fun k => k = w.heap.size) ⟨by rw [hw1]; exact heap_alloc_new _ _, fun k => Iff.rfl⟩ (fun k hk => by rw [hk]; exact Nat.le_refl _) (by rw [hw1]; exact (Below.refl _ _).alloc (Nat.le_refl _) _)
    rw [F6_nil] at this
    exact this
  have HW1 := hd hw1
  clear hw1
  go_wp2_with fail
  rw [← HW1.out]
  refine (filled_1 0 true a N c xs M1.out HE.out HO.out).mono ?_
  rintro e w2 ⟨x, n, L, rfl, hn, hn60, hL, M2, -⟩
  rw [F6_0] at M2
  replace M2 := hd M2
  have HL := hd (And.intro hn hL)
  clear M1 HW1 hn hL
  go_wp2_with fail
  refine (filled_1 1 false a N c xs M2.out HE.out HO.out).mono ?_
  rintro e w3 ⟨y, n', L', rfl, hn', -, hL', M3, -⟩
  obtain rfl : L' = L := hL'.trans HL.out.2.symm
  obtain rfl : n' = n := hn'.trans HL.out.1.symm
  rw [F6_1] at M3
  replace M3 := hd M3
  clear M2 hn' hL'
  have hw1 : IntKind.i64.wrap ((n' : Int) + 1) = (n' : Int) + 1 := by rw [IntKind.wrap_i64]; omega
  obtain ⟨P, hP⟩ : ∃ P, P = fillP true 1 (L' ++ [opz]) := ⟨_, rfl⟩
  obtain ⟨Q, hQ⟩ : ∃ Q, Q = fillP false 1 L' := ⟨_, rfl⟩
  have FP : Hid (P.q.length = n' + 1 ∧ Q.q.length = n' ∧ P.q.take n' = Q.q ∧ P.q[n']? = some ((n' : Int) + 1, opz)) := by
    have hl := HL.out.1
    rw [hP, hQ, fill_len, fill_len]
    refine ⟨by simp [hl], hl.symm, ?_, ?_⟩
    · rw [hl]; exact fill_front L'
    · rw [hl]; exact fill_last L'
  have FD : Hid (∀ o, (dropS (crossS Q o) (n' : Int)).q.length = 0 ∧ (dropS (crossS P o) ((n' / 2 : Nat) : Int)).q.length = n' + 1 - n' / 2) := fun o => by
    have hl := HL.out.1
    rw [hP, hQ, left_len, left_len]
    simp [hl]
  have KE : Hid (∀ V F, MO w V NoK F → F 0 = spO x (fillP true 1 L') → Calls Tryd.prog 9 #[.pointer (some ⟨x, 0, none⟩), .int .i64 ((n' : Int) + 1), .agg #[.int .i64 1, .int .i64 3, .int .u8 122, .int .i64 1, .int .i64 1]] V fun e w' => e = .returned (.int .i64 0) ∧ Hid (MO w w' NoK (setO F 0 (spO x P)))) := fun V F hV h0 => by
    have hl := HL.out.1
    refine (mo_keep hV 0 h0 ((n' : Int) + 1) opz ⟨by decide, by decide⟩).mono ?_
    rintro e w' ⟨rfl, h1, -⟩
    have hk := keep_fill true 1 L' opz (by decide) (by decide) (by omega)
    rw [Int.mul_one, ← hl] at hk
    rw [hk.1, valid_opz]
    rw [hk.2.1 valid_opz, ← hP] at h1
    exact ⟨rfl, h1⟩
  rw [← hQ] at M3
  clear hP hQ HL HE HO
  go_wp2_with fail
  refine (KE.out w3 _ M3.out rfl).mono ?_
  rintro e w4 ⟨rfl, M4⟩
  rw [F6_0] at M4
  clear M3 KE
  go_wp2_with fail
  refine (mo_twice M4.out 0 1 rfl rfl (by rw [FP.out.1]; omega) (by rw [FP.out.2.1]; omega)).mono ?_
  rintro e w5 ⟨rfl, M5⟩
  clear M4
  go_wp2_with fail
  refine (mo_queueO M5.out 0 2 rfl FP.out.1).mono ?_
  rintro e w6 ⟨ga, ca, rfl, M6⟩
  rw [F6_2] at M6
  clear M5
  go_wp2_with fail
  refine (mo_queueO M6.out 0 3 rfl FP.out.1).mono ?_
  rintro e w7 ⟨gb, cb, rfl, M7⟩
  rw [F6_3] at M7
  clear M6
  go_wp2_with fail
  refine (mo_queueO M7.out 1 4 rfl FP.out.2.1).mono ?_
  rintro e w8 ⟨gc, cc, rfl, M8⟩
  rw [F6_4] at M8
  clear M7
  have ha := (M8.out.row 2 rfl).caps.2
  have hb := (M8.out.row 3 rfl).caps.2
  have hc := (M8.out.row 4 rfl).caps.2
  go_wp2_with fail
  refine (mo_queues M8.out (M8.out.isK 2 rfl) (M8.out.isK 3 rfl)).mono ?_
  rintro e w9 ⟨rfl, M9⟩
  clear M8
  go_wp2_with fail
  refine (mo_queues (xs := Q.q) M9.out (by have := (M9.out.isK 2 rfl).take n' (by omega); rwa [FP.out.2.2.1] at this) (M9.out.isK 4 rfl)).mono ?_
  rintro e w10 ⟨rfl, M10⟩
  clear M9
  -- keep
  have M10' : Hid (MO w w10 NoK (F6 (opO w.heap.size ⟨ok, pp, och, ocl, osq⟩) (spO x P) (spO y Q) (mkO ga (n' + 1) ca P.q) (mkO gb (n' + 1) cb P.q) (mkO gc n' cc Q.q) (kO (.slice none 0 0) []))) := by
    have := M10.out.put 5 (w' := w10) (frm_k (.slice none 0 0) []) (S' := fun _ => False) ⟨none, ⟨rfl, rfl⟩, fun k => ⟨fun h => h.elim, fun h => by cases h⟩⟩ (fun k hk => hk.elim) (Below.refl _ _)
    rw [F6_5] at this
    exact this
  clear M10
  go_wp2
  go_loopw [15, 16] (fun v ii wr => ∃ i : Nat, i ≤ n' + 1 ∧ ii = .int .i64 i ∧ Hid (MO w wr NoK (F6 (opO w.heap.size ⟨ok, pp, och, ocl, osq⟩) (spO x P) (spO y Q) (mkO ga (n' + 1) ca P.q) (mkO gb (n' + 1) cb P.q) (mkO gc n' cc Q.q) (kO v (P.q.take i))))) (fun _ ii _ => n' + 1 - (intOf ii).toNat)
  case atStart => exact ⟨0, Nat.zero_le _, rfl, by simpa using M10'⟩
  case round =>
    obtain ⟨i, hi, rfl, hr⟩ := hrel
    clear M10'
    by_cases hlt : i < n' + 1
    · have i1 : (i : Int) < (n' : Int) + 1 := by omega
      have hx : i < P.q.length := by rw [FP.out.1]; exact hlt
      obtain ⟨⟨m0, k0, p0, h0, l0, s0⟩, hel⟩ : ∃ e, P.q[i] = e := ⟨_, rfl⟩
      obtain ⟨a0, a1, a2, a3, a4, a5⟩ := (hr.out.row 3 rfl).at6 i hlt (by rw [List.getElem?_eq_getElem hx, hel])
      have bl := (hr.out.row 3 rfl).lt
      obtain ⟨v', w3, hap, hm⟩ := mo_kpush hr.out 5 rfl m0 k0 p0 h0 l0 s0 (by simp; omega)
      rw [F6_5, ← hel, ← List.take_succ_eq_append_getElem hx] at hm
      replace hm := hd hm
      clear hr hel hx
      go_wp2_with (at_builtin; refine wpList_append_k _ rfl _ _ 30 30 rfl _ _ rfl rfl (hap _) ?_)
      exact ⟨⟨i + 1, by omega, by go_num, hm⟩, by simp [intOf]; omega⟩
    · obtain rfl : i = n' + 1 := by omega
      have i1 : ¬ (((n' + 1 : Nat) : Int) < (n' : Int) + 1) := by omega
      have M11 : Hid (∃ g5 c5, u15 = .slice (some ⟨g5, 0, none⟩) (n' + 1) c5 ∧ n' + 1 ≤ c5 ∧ c5 ≤ 9223372036854775807 ∧ MO w wr NoK (F6 (opO w.heap.size ⟨ok, pp, och, ocl, osq⟩) (spO x P) (spO y Q) (mkO ga (n' + 1) ca P.q) (mkO gb (n' + 1) cb P.q) (mkO gc n' cc Q.q) (mkO g5 (n' + 1) c5 P.q))) := by
        obtain ⟨S, h1, h2⟩ := hr.out.now 5
        have h1' : kO u15 (P.q.take (n' + 1)) wr S := h1
        rw [List.take_of_length_le (by rw [FP.out.1]; exact Nat.le_refl _)] at h1'
        obtain ⟨β, h3, h4⟩ := h1'
        cases β with
        | none =>
          have := congrArg List.length h3.2
          rw [FP.out.1] at this
          simp at this
        | some g5 =>
          obtain ⟨c5, rfl, hR⟩ := h3
          rw [FP.out.1] at hR
          refine ⟨g5, c5, by rw [FP.out.1], hR.caps.2.1, hR.caps.2.2, ?_⟩
          have := (h2 (mkO g5 (n' + 1) c5 P.q) wr S (frm_mk _ _ _ _) ⟨hR, fun k => by rw [h4 k]; exact ⟨fun h => by injection h with h; exact h.symm, fun h => by rw [h]⟩⟩ (fun k hk => .inl hk) (Fr.refl _ _)).1
          rw [F6_5] at this
          exact this
      obtain ⟨g5, c5, rfl, hk1, hk2, M12⟩ := M11.out
      replace M12 := hd M12
      clear M11 hr
      go_wp2
      go_loopw [17] (fun ii wr => ∃ i : Nat, i ≤ n' + 1 ∧ ii = .int .i64 i ∧ Hid (∃ X, (∀ q, q < i → X[q]? = some (mz (-1))) ∧ MO w wr NoK (F6 (opO w.heap.size ⟨ok, pp, och, ocl, osq⟩) (spO x P) (spO y Q) (mkO ga (n' + 1) ca X) (mkO gb (n' + 1) cb P.q) (mkO gc n' cc Q.q) (mkO g5 (n' + 1) c5 P.q)))) (fun ii _ => n' + 1 - (intOf ii).toNat)
      case atStart => exact ⟨0, Nat.zero_le _, rfl, ⟨P.q, fun q hq => absurd hq (Nat.not_lt_zero _), M12.out⟩⟩
      case round =>
        obtain ⟨i, hi2, rfl, hr⟩ := hrel
        clear M12
        by_cases hlt2 : i < n' + 1
        · have i2 : (i : Int) < (n' : Int) + 1 := by omega
          obtain ⟨X, hX, hm⟩ := hr.out
          have hRow := hm.row 2 rfl
          have hx : i < X.length := by rw [hRow.caps.1]; exact hlt2
          obtain ⟨⟨m0, k0, p0, h0, l0, s0⟩, hel⟩ : ∃ e, X[i] = e := ⟨_, rfl⟩
          obtain ⟨a0, a1, a2, a3, a4, a5⟩ := hRow.at6 i hlt2 (by rw [List.getElem?_eq_getElem hx, hel])
          have f0 := hRow.frz (i * 6)
          have f1 := hRow.frz (i * 6 + 1)
          have f2 := hRow.frz (i * 6 + 2)
          have f3 := hRow.frz (i * 6 + 3)
          have f4 := hRow.frz (i * 6 + 4)
          have f5 := hRow.frz (i * 6 + 5)
          have bl := hRow.lt
          have hm2 := mo_mark hm 2 rfl i hlt2 (-1)
          rw [F6_2] at hm2
          have S2 : Hid (∃ X, (∀ q, q < i + 1 → X[q]? = some (mz (-1))) ∧ MO w (Go.Proofs.YtmbnimlibnheeaaDoor.set6 wr ga (i * 6) (-1) 0 0 0 0 0) NoK (F6 (opO w.heap.size ⟨ok, pp, och, ocl, osq⟩) (spO x P) (spO y Q) (mkO ga (n' + 1) ca X) (mkO gb (n' + 1) cb P.q) (mkO gc n' cc Q.q) (mkO g5 (n' + 1) c5 P.q))) := ⟨_, fun q hq => by
            by_cases e : q = i
            · subst e; rw [List.getElem?_set_self hx]
            · rw [List.getElem?_set_ne (Ne.symm e)]; exact hX q (by omega), hm2⟩
          clear hr hm hm2 hRow hX hx hel
          go_wp2
          exact ⟨⟨i + 1, by omega, by go_num, S2⟩, by simp [intOf]; omega⟩
        · obtain rfl : i = n' + 1 := by omega
          have i2 : ¬ (((n' + 1 : Nat) : Int) < (n' : Int) + 1) := by omega
          obtain ⟨X, hX, hm⟩ := hr.out
          have HX := hd hX
          have M13 : Hid (∃ Y, (∀ q, q < 0 → Y[q]? = some (mz (-3))) ∧ MO w wr NoK (F6 (opO w.heap.size ⟨ok, pp, och, ocl, osq⟩) (spO x P) (spO y Q) (mkO ga (n' + 1) ca X) (mkO gb (n' + 1) cb P.q) (mkO gc n' cc Y) (mkO g5 (n' + 1) c5 P.q))) := ⟨Q.q, fun q hq => absurd hq (Nat.not_lt_zero _), hm⟩
          clear hr hm hX
          go_wp2
          go_loopw [18] (fun ii wr => ∃ i : Nat, i ≤ n' ∧ ii = .int .i64 i ∧ Hid (∃ Y, (∀ q, q < i → Y[q]? = some (mz (-3))) ∧ MO w wr NoK (F6 (opO w.heap.size ⟨ok, pp, och, ocl, osq⟩) (spO x P) (spO y Q) (mkO ga (n' + 1) ca X) (mkO gb (n' + 1) cb P.q) (mkO gc n' cc Y) (mkO g5 (n' + 1) c5 P.q)))) (fun ii _ => n' - (intOf ii).toNat)
          case atStart => exact ⟨0, Nat.zero_le _, rfl, M13⟩
          case round =>
            obtain ⟨i, hi3, rfl, hr⟩ := hrel
            clear M13
            by_cases hlt3 : i < n'
            · have i3 : (i : Int) < (n' : Int) := by omega
              obtain ⟨Y, hY, hm⟩ := hr.out
              have hRow := hm.row 4 rfl
              have hx : i < Y.length := by rw [hRow.caps.1]; exact hlt3
              obtain ⟨⟨m0, k0, p0, h0, l0, s0⟩, hel⟩ : ∃ e, Y[i] = e := ⟨_, rfl⟩
              obtain ⟨a0, a1, a2, a3, a4, a5⟩ := hRow.at6 i hlt3 (by rw [List.getElem?_eq_getElem hx, hel])
              have f0 := hRow.frz (i * 6)
              have f1 := hRow.frz (i * 6 + 1)
              have f2 := hRow.frz (i * 6 + 2)
              have f3 := hRow.frz (i * 6 + 3)
              have f4 := hRow.frz (i * 6 + 4)
              have f5 := hRow.frz (i * 6 + 5)
              have bl := hRow.lt
              have hm2 := mo_mark hm 4 rfl i hlt3 (-3)
              rw [F6_4] at hm2
              have S2 : Hid (∃ Y, (∀ q, q < i + 1 → Y[q]? = some (mz (-3))) ∧ MO w (Go.Proofs.YtmbnimlibnheeaaDoor.set6 wr gc (i * 6) (-3) 0 0 0 0 0) NoK (F6 (opO w.heap.size ⟨ok, pp, och, ocl, osq⟩) (spO x P) (spO y Q) (mkO ga (n' + 1) ca X) (mkO gb (n' + 1) cb P.q) (mkO gc n' cc Y) (mkO g5 (n' + 1) c5 P.q))) := ⟨_, fun q hq => by
                by_cases e : q = i
                · subst e; rw [List.getElem?_set_self hx]
                · rw [List.getElem?_set_ne (Ne.symm e)]; exact hY q (by omega), hm2⟩
              clear hr hm hm2 hRow hY hx hel
              go_wp2
              exact ⟨⟨i + 1, by omega, by go_num, S2⟩, by simp [intOf]; omega⟩
            · obtain rfl : i = n' := by omega
              have i3 : ¬ ((i : Int) < (i : Int)) := by omega
              obtain ⟨Y, hY, hm⟩ := hr.out
              have HY := hd hY
              obtain ⟨gg, cg, wg, hapg, hmg⟩ := mo_fam hm 2 rfl (-5) (by omega)
              rw [F6_2] at hmg
              obtain ⟨gh, ch, wh, haph, hmh⟩ := mo_fam hmg 4 rfl (-6) (by omega)
              rw [F6_4] at hmh
              have M14 := hd hmh
              clear hr hm hY hmg hmh
              go_upto_region 29 with (at_builtin; refine wpList_append_k _ rfl _ _ 30 30 rfl _ _ rfl rfl (hapg _) ?_)
              clear hapg
              go_upto_region 30 with (at_builtin; refine wpList_append_k _ rfl _ _ 30 30 rfl _ _ rfl rfl (haph _) ?_)
              clear haph
              have MD : Hid (MO w wh.drew NoK (F6 (opO w.heap.size ⟨ok, pp, och, ocl, osq⟩) (spO x P) (spO y Q) (famO ga (i + 1) X gg (i + 1 + 1) cg (X ++ [mz (-5)])) (mkO gb (i + 1) cb P.q) (famO gc i Y gh (i + 1) ch (Y ++ [mz (-6)])) (mkO g5 (i + 1) c5 P.q))) := M14.out.below ((Below.refl _ _).drew)
              clear M14
              have z1 : (0 : Int) ≤ (i : Int) := by omega
              have z2 : (i : Int) ≤ (c5 : Int) := by omega
              have z3 : (i : Int) ≤ (i : Int) + 1 := by omega
              go_cut [148] (fun v wx => v = .bool false ∧ Hid (MO w wx NoK (F6 (opO w.heap.size ⟨ok, pp, och, ocl, osq⟩) (spO x P) (spO y Q) (famO ga (i + 1) X gg (i + 1 + 1) cg (X ++ [mz (-5)])) (mkO gb (i + 1) cb P.q) (famO gc i Y gh (i + 1) ch (Y ++ [mz (-6)])) (mkO g5 (i + 1) c5 P.q))))
              case first =>
                go_region_held3 (fun _ => True) (trivial) (first | (go_at_call 15; refine (mo_queues (xs := Q.q) H3.out.2 H3.out.1 (by have := (H3.out.2.isK 5 rfl).take i (by omega); rwa [FP.out.2.2.1] at this)).mono ?_; rintro e v4 ⟨rfl, H4⟩) | (go_at_call 15; refine (mo_queues H1.out.2 H1.out.1 (H1.out.2.isK 5 rfl)).mono ?_; rintro e v2 ⟨rfl, H2⟩) | (go_at_call 10; refine (mo_queueL H2.out 1 rfl FP.out.2.1).mono ?_; rintro e v3 ⟨g3, c3, rfl, H3⟩) | (go_at_call 10; refine (mo_queueL MD.out 0 rfl FP.out.1).mono ?_; rintro e v1 ⟨g1, c1, rfl, H1⟩))
                all_goals
                  go_wp2_with fail
                  go_meet
                  exact ⟨rfl, H4⟩
              case rest =>
                obtain ⟨wa, rfl⟩ : ∃ u, u = wc := ⟨wc, rfl⟩
                obtain ⟨rfl, N0⟩ := hcut
                clear MD
                have hq1 : IntKind.i64.wrap ((i : Int) / 2) = ((i / 2 : Nat) : Int) := by rw [IntKind.wrap_i64]; omega
                have hq2 : IntKind.i64.wrap ((i : Int) + 1 - ((i / 2 : Nat) : Int)) = ((i + 1 - i / 2 : Nat) : Int) := by rw [IntKind.wrap_i64]; omega
                have X0 := N0.out.op 6 rfl
                obtain ⟨⟨y0, y1, y2, y3, y4⟩, -⟩ := cellsF X0
                have yl := block_lt X0
                clear X0
                go_wp2_with fail
                refine (mo_cross N0.out 1 rfl HT.out ⟨ok, pp, och, ocl, osq⟩ HP.out).mono ?_
                rintro e wb ⟨rfl, N1, -⟩
                rw [F6_1] at N1
                replace N1 := hd N1
                clear N0 y0 y1 y2 y3 y4 yl
                go_wp2_with fail
                refine (mo_drop N1.out 1 rfl (i : Int)).mono ?_
                rintro e wd ⟨rfl, N2, -⟩
                rw [F6_1] at N2
                replace N2 := hd N2
                clear N1
                go_wp2_with fail
                refine (mo_queueL N2.out 1 rfl (FD.out _).1).mono ?_
                rintro e we ⟨g1, c1, rfl, H1⟩
                have N3 := hd H1.out.2
                clear N2 H1
                go_wp2_with fail
                refine (mo_queueL N3.out 0 rfl FP.out.1).mono ?_
                rintro e wf ⟨g2, c2, rfl, H2⟩
                clear N3
                go_wp2_with fail
                refine (mo_queues H2.out.2 H2.out.1 (H2.out.2.isK 5 rfl)).mono ?_
                rintro e wg ⟨rfl, N4⟩
                clear H2
                have X0 := N4.out.op 6 rfl
                obtain ⟨⟨y0, y1, y2, y3, y4⟩, -⟩ := cellsF X0
                have yl := block_lt X0
                clear X0
                go_wp2_with fail
                refine (mo_cross N4.out 0 rfl HT.out ⟨ok, pp, och, ocl, osq⟩ HP.out).mono ?_
                rintro e wj ⟨rfl, N5, -⟩
                rw [F6_0] at N5
                replace N5 := hd N5
                clear N4 y0 y1 y2 y3 y4 yl
                go_wp2_with fail
                refine (mo_drop N5.out 0 rfl ((i / 2 : Nat) : Int)).mono ?_
                rintro e wk ⟨rfl, N6, -⟩
                rw [F6_0] at N6
                replace N6 := hd N6
                clear N5
                go_wp2_with fail
                refine (mo_queueL N6.out 0 rfl (FD.out _).2).mono ?_
                rintro e wl ⟨g3, c3, rfl, H3⟩
                have N7 := hd H3.out.2
                clear N6 H3
                go_wp2_with fail
                refine (mo_queues N7.out (N7.out.isK 3 rfl) (N7.out.isK 5 rfl)).mono ?_
                rintro e wz ⟨rfl, N8⟩
                clear N7
                obtain ⟨⟨cX, RX⟩, RG⟩ := N8.out.fam 2 rfl
                obtain ⟨⟨cY, RY⟩, RH⟩ := N8.out.fam 4 rfl
                have RB := N8.out.row 3 rfl
                have hXl := RX.caps.1
                have hYl := RY.caps.1
                obtain ⟨q0, -⟩ := RG.at6 (i + 1) (by omega) (m := -5) (a := 0) (b := 0) (c := 0) (d := 0) (e := 0) (by rw [List.getElem?_append_right (by omega), hXl, Nat.sub_self]; rfl)
                obtain ⟨q1, -⟩ := RH.at6 i (by omega) (m := -6) (a := 0) (b := 0) (c := 0) (d := 0) (e := 0) (by rw [List.getElem?_append_right (by omega), hYl, Nat.sub_self]; rfl)
                have qg := RG.lt
                have qh := RH.lt
                have HR := hd (And.intro RX (And.intro RY (And.intro RB N8.out.base)))
                clear RX RG RY RH RB hXl hYl N8
                go_wp2
                clear q0 q1 qg qh
                go_loopw [21] (fun ii wq => ∃ q : Nat, q ≤ i ∧ ii = .int .i64 q ∧ wq = wz) (fun ii _ => i - (intOf ii).toNat)
                case atStart => exact ⟨0, Nat.zero_le _, rfl, rfl⟩
                case round =>
                  obtain ⟨q, hq, rfl, rfl⟩ := hrel
                  by_cases hqi : q < i
                  · have i4 : (q : Int) < (i : Int) := by omega
                    obtain ⟨t0, -⟩ := HR.out.1.at6 q (by omega) (HX.out q (by omega))
                    obtain ⟨t1, -⟩ := HR.out.2.1.at6 q hqi (HY.out q hqi)
                    have l1 := HR.out.1.lt
                    have l2 := HR.out.2.1.lt
                    go_wp2
                    exact ⟨⟨q + 1, by omega, by go_num, (by first | rfl | trivial)⟩, by simp [intOf]; omega⟩
                  · obtain rfl : q = i := by omega
                    have i4 : ¬ ((q : Int) < (q : Int)) := by omega
                    obtain ⟨t0, -⟩ := HR.out.1.at6 q (by omega) (HX.out q (by omega))
                    obtain ⟨-, -, -, t1, -⟩ := HR.out.2.2.1.at6 q (by omega) FP.out.2.2.2
                    have l1 := HR.out.1.lt
                    have l2 := HR.out.2.2.1.lt
                    have Z := hd HR.out.2.2.2
                    go_wp2
                    go_ret
                    exact ⟨rfl, Z.out⟩

end Go.Proofs.YtmbnimlibnheeaaDoor
