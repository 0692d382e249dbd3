/-
  OutboxLimit.
-/
import Derived.Test.YtocpfioifamkmaaAcks
namespace Go.Proofs.Ytocpfioifamkmaa
open Go.RowKit
set_option linter.unusedVariables false

theorem pushS_last {p : St} (h : p.last < 4096) (x : Int) : (pushS p x).last = p.last + 1 ∧ 0 < (pushS p x).L.length ∧ (pushS p x).W = p.W := by
  rw [pushS, if_neg (by omega)]
  refine ⟨?_, ?_, rfl⟩
  · simp [St.last]; omega
  · simp
theorem dueN_pos {p : St} (h : p.ok) (h0 : 0 < p.L.length) : 0 < dueN p := by
  have := h.w1
  simp [dueN]
  omega

set_option maxRecDepth 100000 in
set_option maxHeartbeats 16000000 in
theorem outboxLimit_any (x0 x1 : Int) (w : World) :
    Calls Try.prog 4 #[.int .i64 x0, .int .i64 x1] w fun e w' => e = .returned (.bool true) ∧ Below w.heap.size w w' := by
  by_cases hbad : x0 < 1 ∨ 4096 < x0
  · rcases (by omega : x0 < 1 ∨ (¬ x0 < 1 ∧ 4096 < x0)) with h1 | ⟨h1, h2⟩
    all_goals
      go_enter Try.func4, Try.ntmps4
      go_wp2_with fail
      refine (new_bad x0 w hbad).mono ?_
      rintro e w1 ⟨rfl, rfl⟩
      go_wp2_with fail
      refine (num_any 80 w1).mono ?_
      rintro e w2 ⟨rfl, rfl⟩
      go_wp2
      go_ret
      exact ⟨rfl, Below.refl _ _⟩
  obtain ⟨W, rfl⟩ : ∃ W : Nat, x0 = W := ⟨x0.toNat, by omega⟩
  have h1 : ¬ (W : Int) < 1 := by omega
  have h2 : ¬ (4096 : Int) < W := by omega
  have hW1 : 1 ≤ W := by omega
  have hW2 : W ≤ 4096 := by omega
  clear hbad
  go_enter Try.func4, Try.ntmps4
  go_wp2_with fail
  refine (bx_new W w hW1 hW2).mono ?_
  rintro e w1 ⟨x, rfl, h3⟩
  have S0 := hd h3
  clear h3
  go_wp2_with fail
  refine (num_any 0 w1).mono ?_
  rintro e w2 ⟨rfl, rfl⟩
  go_wp2_with fail
  go_loopw [7] (fun v wr => ∃ k : Nat, k ≤ 2 ∧ v = .int .i64 k ∧ Hid (BX w wr x ⟨W, 0, 0, []⟩ NoK)) (fun v _ => 2 - (intOf v).toNat)
  case atStart => exact ⟨0, by omega, rfl, S0⟩
  case round =>
    obtain ⟨k, hk, rfl, HG⟩ := hrel
    clear S0
    by_cases hlt : k < 2
    · have i1 : (k : Int) < 2 := by omega
      have T0 : Hid (∃ p, BX w wr x p NoK ∧ p.last + 1 = 1 ∧ p.W = W) := ⟨_, HG.out, rfl, rfl⟩
      clear HG
      go_wp2_with fail
      go_loopw [8] (fun v wq => ∃ i : Nat, 1 ≤ i ∧ i ≤ 4097 ∧ v = .int .i64 i ∧ Hid (∃ p, BX w wq x p NoK ∧ p.last + 1 = i ∧ p.W = W)) (fun v _ => 4097 - (intOf v).toNat)
      case atStart => exact ⟨1, by omega, by omega, rfl, T0⟩
      case round =>
        obtain ⟨i, hi1, hi2, rfl, HT⟩ := hrel
        clear T0
        obtain ⟨p, hB, hl, hpW⟩ := HT.out
        have HB := hd hB
        have HP := hd (And.intro hl hpW)
        clear hB hl hpW HT
        by_cases hle : i ≤ 4096
        · have j1 : (i : Int) ≤ 4096 := by omega
          go_wp2_with fail
          refine (bx_push HB.out i).mono ?_
          rintro e w3 ⟨rfl, h3, -⟩
          have hlt : ¬ 4096 ≤ p.last := by have := HP.out.1; omega
          have e1 : pushN p = (i : Int) := by rw [pushN, if_neg hlt]; have := HP.out.1; omega
          have e2 : pushE p = 0 := by rw [pushE, if_neg hlt]
          rw [e1, e2]
          obtain ⟨l1, l2, l3⟩ := pushS_last (p := p) (by omega) i
          rw [HP.out.1] at l1
          rw [HP.out.2] at l3
          generalize pushS p i = p1 at h3 l1 l2 l3
          have B1 := hd h3
          have L1 := hd (And.intro l1 (And.intro l2 l3))
          clear HB HP hlt e1 e2 h3 l1 l2 l3
          go_wp2_with fail
          refine (num_any 0 w3).mono ?_
          rintro e w4 ⟨rfl, rfl⟩
          by_cases m1 : 0 < x1
          · have m3 : ¬ x1 = 0 := by omega
            obtain ⟨r, hr⟩ : ∃ r, (i : Int).tmod x1 = r := ⟨_, rfl⟩
            by_cases m2 : r = 0
            · subst m2
              go_wp2_with fail
              refine (bx_due B1.out).mono ?_
              rintro e w5 ⟨u, rfl, h5, h6, -⟩
              have hok := B1.out.ok
              have hdl := dueL_len p1 hok
              obtain ⟨d, hdd⟩ : ∃ d, dueN p1 = d + 1 := ⟨dueN p1 - 1, by have := dueN_pos hok L1.out.2.1; omega⟩
              obtain ⟨y, hy⟩ := due_nth p1 d (by omega)
              have hdn : dueN p1 ≤ 4096 ∧ p1.a ≤ 4096 := by have := hok.w2; have := hok.few; simp [dueN]; omega
              obtain ⟨g, c, rfl, hR, -, hc1, hc2⟩ := h5.form
              rw [hdl, hdd] at hR hc2 ⊢
              have hml : d < (dueL p1).length := by omega
              have cm : w5.cell? ⟨g, d * 2, none⟩ = some (.int .i64 ((p1.a : Int) + d + 1)) := by
                have h1 := hR.cell sz_it d 0 hml (by omega)
                rw [List.getElem?_eq_getElem hml] at hy
                injection hy with hy
                rw [hy] at h1
                simpa [it] using h1
              have hw : IntKind.i64.wrap ((d : Int) + 1 - 1) = (d : Int) := by rw [IntKind.wrap_i64]; omega
              have B2 := hd h6.free
              have hE : Hid (ackE (dueS p1) ((p1.a : Int) + d + 1) = 0) := by
                show _ = _
                rw [ackE, if_neg]
                simp [dueS, hdd]
                omega
              have hL : Hid ((ackS (dueS p1) ((p1.a : Int) + d + 1)).last = i ∧ (ackS (dueS p1) ((p1.a : Int) + d + 1)).W = W) := by
                refine ⟨(ackS_last (dueS_ok hok) _).trans L1.out.1, ?_⟩
                unfold ackS
                split <;> exact L1.out.2.2
              clear hok hdl hdd hy h5 h6 hR hml B1 L1
              go_wp2_with fail
              refine (bx_ack B2.out _).mono ?_
              rintro e w6 ⟨rfl, h6, -⟩
              rw [hE.out]
              have Z : Hid (∃ p, BX w w6 x p NoK ∧ p.last + 1 = i + 1 ∧ p.W = W) := ⟨_, h6, by rw [hL.out.1], hL.out.2⟩
              clear h6 B2 hE hL
              go_wp2_with fail
              refine (num_any 0 w6).mono ?_
              rintro e w7 ⟨rfl, rfl⟩
              go_wp2_with fail
              exact ⟨⟨i + 1, by omega, by omega, by go_num, Z⟩, by simp [intOf]; omega⟩
            · have Z : Hid (∃ p, BX w w4 x p NoK ∧ p.last + 1 = i + 1 ∧ p.W = W) := ⟨_, B1.out, by rw [L1.out.1], L1.out.2.2⟩
              clear B1 L1
              go_wp2_with fail
              exact ⟨⟨i + 1, by omega, by omega, by go_num, Z⟩, by simp [intOf]; omega⟩
          · have Z : Hid (∃ p, BX w w4 x p NoK ∧ p.last + 1 = i + 1 ∧ p.W = W) := ⟨_, B1.out, by rw [L1.out.1], L1.out.2.2⟩
            clear B1 L1
            go_wp2_with fail
            exact ⟨⟨i + 1, by omega, by omega, by go_num, Z⟩, by simp [intOf]; omega⟩
        · have j1 : ¬ (i : Int) ≤ 4096 := by omega
          obtain rfl : i = 4097 := by omega
          have hfull : 4096 ≤ p.last := by have := HP.out.1; omega
          go_wp2_with fail
          refine (bx_push HB.out 7).mono ?_
          rintro e w3 ⟨rfl, h3, -⟩
          have e1 : pushN p = 0 := by rw [pushN, if_pos hfull]
          have e2 : pushE p = 81 := by rw [pushE, if_pos hfull]
          rw [pushS, if_pos hfull] at h3
          rw [e1, e2]
          have B1 := hd h3
          clear h3 e1 e2 HB hfull
          go_wp2_with fail
          refine (num_any 81 w3).mono ?_
          rintro e w4 ⟨rfl, rfl⟩
          go_wp2_with fail
          refine (bx_last B1.out).mono ?_
          rintro e w5 ⟨rfl, h5, -⟩
          rw [show p.last = 4096 by have := HP.out.1; omega]
          have B2 := hd h5
          clear h5 B1
          go_wp2_with fail
          refine (bx_reset B2.out).mono ?_
          rintro e w6 ⟨rfl, h6, -⟩
          rw [resetS, HP.out.2] at h6
          have B3 := hd h6
          clear h6 B2 HP
          go_wp2_with fail
          refine (bx_last B3.out).mono ?_
          rintro e w7 ⟨rfl, h7, -⟩
          have B4 := hd h7
          clear h7 B3
          go_wp2_with fail
          refine (bx_acked B4.out).mono ?_
          rintro e w8 ⟨rfl, rfl⟩
          go_wp2_with fail
          refine (bx_sent B4.out).mono ?_
          rintro e w9 ⟨rfl, rfl⟩
          go_wp2_with fail
          refine (bx_left B4.out).mono ?_
          rintro e wa ⟨u, rfl, ha, hb, -⟩
          obtain ⟨g, c, rfl, -⟩ := ha.form
          have B5 := hd hb.free
          clear ha hb B4
          go_wp2_with fail
          refine (bx_due B5.out).mono ?_
          rintro e wb ⟨u, rfl, ha, hb, -⟩
          obtain ⟨g2, c2, rfl, -⟩ := ha.form
          have hL2 : (dueL ⟨W, 0, 0, []⟩).length = 0 := by simp [dueL, items]
          have Z : Hid (BX w wb x ⟨W, 0, 0, []⟩ NoK) := by
            have e : dueS ⟨W, 0, 0, []⟩ = ⟨W, 0, 0, []⟩ := by simp [dueS, dueN]
            have := hb.free
            rw [e] at this
            exact this
          rw [hL2]
          clear ha hb B5
          go_wp2_with fail
          exact ⟨⟨k + 1, by omega, by go_num, Z⟩, by simp [intOf]; omega⟩
    · have i1 : ¬ (k : Int) < 2 := by omega
      have Z := hd HG.out.base
      clear HG
      go_wp2
      go_ret
      exact ⟨rfl, Z.out⟩

end Go.Proofs.Ytocpfioifamkmaa
