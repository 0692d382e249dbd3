/-
  OutboxDue.
-/
import Derived.Test.YtocpfioifamkmaaRb
namespace Go.Proofs.Ytocpfioifamkmaa
open Go.RowKit
set_option linter.unusedVariables false

theorem BX.fr {w0 w w' : World} {x : Nat} {p : St} {K T : Nat → Prop} (h : BX w0 w x p K) (hF : Fr T w w') (h1 : ∀ k, T k → K k ∧ w0.heap.size ≤ k) : BX w0 w' x p K := by
  obtain ⟨S, h2, h3⟩ := h.at_
  exact ⟨⟨S, h2.fr hF (fun k hk ht => (h3 k hk).2 (h1 k ht).1), h3⟩, h.base.trans (hF.below h.base.size (fun k hk => (h1 k hk).2)), fun k hk => Nat.lt_of_lt_of_le (h.old k hk) hF.size⟩

theorem pu_app {w0 w : World} {x W : Nat} {p : St} {β : Option Nat} {v : Value} {put : List Int} {y : Int} (hB : BX w0 w x p (fun k => β = some k)) (hR : SF ei 1 w 3 β v put) (hnew : ∀ g, β = some g → w0.heap.size ≤ g) (hW : p.W = W) (hl : Lk p (put ++ [y])) (hn : put.length ≤ 4096) :
    ∃ v' w', (∀ ty, (Builtin.append_ #[22, 22] ty #[v, .slice (some ⟨w.heap.size, 0, none⟩) 1 1]).run Try.prog (w.alloc (.cells #[.int .i64 y] 3)) = .ok v' w') ∧ ∃ g', PU w0 w' x W p (some g') v' (put ++ [y]) := by
  obtain ⟨v', w', hr, hN⟩ := push_int (w.alloc (.cells #[.int .i64 y] 3)) β v put (SF.fr (S := fun _ => False) hR (Fr.alloc _ _ _) (fun _ _ h => h)) w.heap.size y (heap_alloc_new w _) (by omega)
  obtain ⟨g', h1, h2, h3⟩ := hN.out
  have hs := hB.base.size
  have hB2 : BX w0 (w.alloc (.cells #[.int .i64 y] 3)) x p (fun k => β = some k ∨ k = (w.alloc (.cells #[.int .i64 y] 3)).heap.size - 1) := hB.adds ((Below.refl _ _).alloc (Nat.le_refl _) _) (fun k hk => hk.imp id (fun h => by simp at h; omega)) (by
    rintro k (hk | hk)
    · have := hB.old k hk; simp; omega
    · simp at hk ⊢; omega)
  have hB3 := hB2.fr h3 (fun k hk => ⟨.inl hk, hnew k hk⟩)
  refine ⟨v', w', hr, g', ⟨?_, h1, ?_, hW, hl⟩⟩
  · rcases h2 with h2 | h2
    · exact hB3.less (fun k hk => by injection hk with hk; subst hk; exact .inl h2)
    · obtain ⟨S, h5, h6⟩ := hB3.at_
      obtain ⟨S2, h7, h8⟩ := hB2.at_
      have h9 : BoxAt w' x p S2 := h7.fr h3 (fun k hk ht => (h8 k hk).2 (.inl ht))
      refine ⟨⟨S2, h9, fun k hk => ⟨(h8 k hk).1, fun hg => ?_⟩⟩, hB3.base, fun k hk => by injection hk with hk; subst hk; exact h1.lt _ rfl⟩
      injection hg with hg
      have := h7.old k hk
      omega
  · intro g hg
    injection hg with hg
    subst hg
    rcases h2 with h2 | h2
    · exact hnew _ h2
    · rw [h2]; simp; omega

set_option maxRecDepth 100000 in
set_option maxHeartbeats 32000000 in
theorem outboxDue_any (x0 : Int) (a0 : Option Addr) (n0 c0 : Nat) (X : Nat → Int) (a1 : Option Addr) (n1 c1 : Nat) (O : Nat → OpV) (w : World) (hI : IsI w a0 n0 c0 X) (hS : IsS w a1 n1 c1 O) (hn0 : n0 * 8 ≤ 140737488351232) (hn1 : n1 * 24 ≤ 140737488351232) :
    Calls Try.prog 6 #[.int .i64 x0, .slice a0 n0 c0, .slice a1 n1 c1] w fun e w' => e = .returned (.bool true) ∧ Below w.heap.size w w' := by
  by_cases hbad : x0 < 1 ∨ 4096 < x0
  · rcases (by omega : x0 < 1 ∨ (¬ x0 < 1 ∧ 4096 < x0)) with h1 | ⟨h1, h2⟩
    all_goals
      clear hI hS
      go_enter Try.func6, Try.ntmps6
      go_wp2_with fail
      refine (new_bad x0 w hbad).mono ?_
      rintro e w1 ⟨rfl, rfl⟩
      go_wp2_with fail
      refine (num_any 80 w1).mono ?_
      rintro e w2 ⟨rfl, rfl⟩
      go_wp2
      go_ret
      exact ⟨rfl, Below.refl _ _⟩
  obtain ⟨W, rfl⟩ : ∃ W : Nat, x0 = W := ⟨x0.toNat, by omega⟩
  have h1 : ¬ (W : Int) < 1 := by omega
  have h2 : ¬ (4096 : Int) < W := by omega
  have hW1 : 1 ≤ W := by omega
  have hW2 : W ≤ 4096 := by omega
  have HI := hd hI
  have HS := hd hS
  have n0c := hI.1
  have n0m := hI.2.1
  have n1c := hS.1
  have n1m := hS.2.1
  clear hbad hI hS
  go_enter Try.func6, Try.ntmps6
  go_wp2_with fail
  refine (bx_new W w hW1 hW2).mono ?_
  rintro e w1 ⟨x, rfl, h3⟩
  have S0 : Hid (∃ p β put, put.length = 0 ∧ PU w w1 x W p β (.slice none 0 0) put) := ⟨_, none, [], rfl, ⟨h3.less (fun k hk => by cases hk), ⟨rfl, rfl⟩, (fun g hg => by cases hg), rfl, ⟨rfl, rfl⟩⟩⟩
  clear h3
  go_wp2_with fail
  refine (num_any 0 w1).mono ?_
  rintro e w2 ⟨rfl, rfl⟩
  go_wp2_with fail
  go_loopw [9, 10] (fun vp vi wr => ∃ i : Nat, i ≤ n0 + n1 ∧ vi = .int .i64 i ∧ ∃ ap, ∃ m : Nat, ∃ cp, vp = .slice ap m cp ∧ Hid (∃ p β put, put.length = m ∧ PU w wr x W p β (.slice ap m cp) put)) (fun _ vi _ => n0 + n1 - (intOf vi).toNat)
  case atStart => exact ⟨0, Nat.zero_le _, rfl, none, 0, 0, rfl, S0⟩
  case round =>
    obtain ⟨i, hi, rfl, ap, m, cp, rfl, HT⟩ := hrel
    clear S0
    obtain ⟨p, β, put, hm, hP⟩ := HT.out
    have HP := hd hP
    have HM := hd hm
    have ws : IntKind.i64.wrap ((n0 : Int) + n1) = (n0 : Int) + n1 := by rw [IntKind.wrap_i64]; omega
    by_cases hlt : i < n0 + n1
    · have i1 : (i : Int) < (n0 : Int) + n1 := by omega
      by_cases hfi : i < n0
      · have i2 : (i : Int) < (n0 : Int) := by omega
        obtain ⟨b, off, rfl, hbl, hc⟩ := (HI.out.below hP.bx.base (Nat.le_refl _)).2.2 (by omega)
        have al : ∀ o, Below wr.heap.size wr (wr.alloc o) := fun o => (Below.refl _ _).alloc (Nat.le_refl _) o
        have k0 := fun o => ((al o).cell (p := ⟨b, off + i, none⟩) hbl).trans (hc i hfi)
        generalize X i = y at k0
        clear al hbl
        clear hP hm hc HT
        go_wp2_with fail
        refine (bx_push (K := fun k => β = some k ∨ k = wr.heap.size) (HP.out.bx.adds ?_ ?_ ?_) y).mono ?_
        · repeat (first | exact Below.refl _ _ | refine Below.setCell ?_ (by simp) _ | refine Below.alloc ?_ (by simp) _)
        · rintro k (hk | hk)
          · exact .inl hk
          · exact .inr (by omega)
        · rintro k (hk | hk)
          · have := HP.out.bx.old k hk
            simp
            omega
          · rw [hk]
            simp
        rintro e w3 ⟨rfl, h3, h4⟩
        have hrow : w3.heap[wr.heap.size]? = some (.cells #[.int .i64 1, .int .i64 0, .int .i64 y] 32 (0, 0)) := by
          refine (h4 _ (.inr rfl)).trans ?_
          first | exact heap_alloc_new _ _ | (have := set_row (heap_alloc_new wr (.cells #[.int .i64 1, .int .i64 0, .int .i64 0] 32)) 2 (.int .i64 y); simpa using this) | (have := set_row (set_row (set_row (heap_alloc_new wr (.cells #[.int .i64 1, .int .i64 0, .int .i64 0] 32)) 0 (.int .i64 1)) 1 (.int .i64 0)) 2 (.int .i64 y); simpa using this)
        obtain ⟨o0, o1, o2⟩ := opcells hrow
        have B3 := h3.less (K' := fun k => β = some k) (fun k hk => .inl hk)
        have R3 : SF ei 1 w3 3 β (.slice ap m cp) put := by
          refine SF.kp (SF.fr (S := fun _ => False) HP.out.row (Fr.of_below ?_) (fun _ _ h => h)) (fun k hk => h4 k (.inl hk))
          repeat (first | exact Below.refl _ _ | refine Below.setCell ?_ (by simp) _ | refine Below.alloc ?_ (by simp) _)
        have hlast : p.last = m := by rw [HP.out.lk.1]; exact HM.out
        by_cases hfull : m = 4096
        · have hf : 4096 ≤ p.last := by omega
          have e1 : pushN p = 0 := by rw [pushN, if_pos hf]
          have e2 : pushE p = 81 := by rw [pushE, if_pos hf]
          rw [pushS, if_pos hf] at B3
          rw [e1, e2]
          obtain ⟨p5, hp5⟩ : ∃ p5, p = p5 := ⟨_, rfl⟩
          have P5 := hd (show PU w w3 x W p β (.slice ap m cp) put from ⟨B3, R3, HP.out.new, HP.out.win, HP.out.lk⟩)
          clear h3 h4 hrow B3 R3 hlast hf e1 e2 o0 o1 o2 HP
          subst hfull
          go_wp2_with fail
          refine (num_any 81 w3).mono ?_
          rintro e w4 ⟨rfl, hw4⟩
          subst hw4
          subst hp5
          obtain ⟨q, hq⟩ : ∃ q, p.a = q := ⟨_, rfl⟩
          have hqm : q ≤ 4096 ∧ 4096 ≤ 4096 := by
            have h1 := P5.out.lk.len
            have h2 := P5.out.lk.1
            have h3 := P5.out.bx.ok.few
            have h4 := HM.out
            unfold St.last at h2
            omega
          have j1 : ¬ (q : Int) < 0 := by omega
          have w1 : IntKind.i64.wrap ((4096 : Int) - q) = (4096 : Int) - q := by rw [IntKind.wrap_i64]; omega
          have HQ := hd hq
          clear hq
          go_wp2_with fail
          refine (bx_acked P5.out.bx).mono ?_
          rintro e wa ⟨rfl, hwa⟩
          subst hwa
          rw [HQ.out]
          go_wp2_with fail
          refine (pu_last P5.out).mono ?_
          rintro e wb ⟨rfl, hb⟩
          rw [HM.out]
          have PB := hd hb
          clear hb P5
          go_wp2_with fail
          refine (pu_left PB.out).mono ?_
          rintro e wd ⟨u, rfl, h1, h2⟩
          obtain ⟨gl, cl, rfl, -⟩ := h1.form
          have CR := hd (h2.rowLeft h1)
          rw [HM.out, HQ.out] at CR
          clear h1 h2 PB
          go_wp2_with fail
          refine CR.out.mono ?_
          rintro e we ⟨rfl, he⟩
          have Z : Hid (∃ p β put, put.length = 4096 ∧ PU w we x W p β (.slice ap 4096 cp) put) := ⟨_, _, _, HM.out, he⟩
          clear he CR
          go_wp2_with fail
          exact ⟨⟨i + 1, by omega, by go_num, _, 4096, _, rfl, Z⟩, by simp [intOf]; omega⟩
        · have hf : ¬ 4096 ≤ p.last := by have := HP.out.bx.ok.few; unfold St.last at hlast ⊢; omega
          have hm4 : m < 4096 := by omega
          have e1 : pushN p = (m : Int) + 1 := by rw [pushN, if_neg hf, hlast]
          have e2 : pushE p = 0 := by rw [pushE, if_neg hf]
          rw [e1, e2]
          have hfi : ¬ (m : Int) = 4096 := by omega
          obtain ⟨v', w', hr, g', hPU⟩ := pu_app (W := W) (y := y) B3 R3 HP.out.new (by rw [show (pushS p y).W = p.W by unfold pushS; split <;> rfl]; exact HP.out.win) (HP.out.lk.push HP.out.bx.ok y hf) (by have := HM.out; omega)
          have hlen : (put ++ [y]).length = m + 1 := by simp [HM.out]
          obtain ⟨a5, c5, rfl, -⟩ := hPU.row.form
          rw [hlen] at hr hPU
          generalize pushS p y = p5 at hPU
          generalize put ++ [y] = put5 at hPU hlen
          have P5 := hd hPU
          have HM5 := hd hlen
          clear h3 h4 hrow B3 R3 hlast hf e1 e2 HP hPU hlen hfull
          go_wp2_with (at_builtin; refine wpList_append_k _ rfl _ _ 22 22 rfl _ _ rfl rfl (hr _) ?_)
          refine (num_any 0 w').mono ?_
          rintro e w4 ⟨rfl, hw4⟩
          subst hw4
          obtain ⟨q, hq⟩ : ∃ q, p5.a = q := ⟨_, rfl⟩
          have hqm : q ≤ (m + 1) ∧ (m + 1) ≤ 4096 := by
            have h1 := P5.out.lk.len
            have h2 := P5.out.lk.1
            have h3 := P5.out.bx.ok.few
            have h4 := HM5.out
            unfold St.last at h2
            omega
          have j1 : ¬ (q : Int) < 0 := by omega
          have w1 : IntKind.i64.wrap (((m + 1) : Int) - q) = ((m + 1) : Int) - q := by rw [IntKind.wrap_i64]; omega
          have HQ := hd hq
          clear hq
          go_wp2_with fail
          refine (bx_acked P5.out.bx).mono ?_
          rintro e wa ⟨rfl, hwa⟩
          subst hwa
          rw [HQ.out]
          go_wp2_with fail
          refine (pu_last P5.out).mono ?_
          rintro e wb ⟨rfl, hb⟩
          rw [HM5.out]
          have PB := hd hb
          clear hb P5
          go_wp2_with fail
          refine (pu_left PB.out).mono ?_
          rintro e wd ⟨u, rfl, h1, h2⟩
          obtain ⟨gl, cl, rfl, -⟩ := h1.form
          have CR := hd (h2.rowLeft h1)
          rw [HM5.out, HQ.out] at CR
          clear h1 h2 PB
          go_wp2_with fail
          refine CR.out.mono ?_
          rintro e we ⟨rfl, he⟩
          have Z : Hid (∃ p β put, put.length = (m + 1) ∧ PU w we x W p β (.slice a5 (m + 1) c5) put) := ⟨_, _, _, HM5.out, he⟩
          clear he CR
          go_wp2_with fail
          exact ⟨⟨i + 1, by omega, by go_num, _, (m + 1), _, rfl, Z⟩, by simp [intOf]; omega⟩
      · have i2 : ¬ (i : Int) < (n0 : Int) := by omega
        obtain ⟨j, rfl⟩ : ∃ j, i = n0 + j := ⟨i - n0, by omega⟩
        have e0 : IntKind.i64.wrap (((n0 + j : Nat) : Int) - n0) = (j : Int) := by rw [IntKind.wrap_i64]; omega
        have e9 : ((n0 + j : Nat) : Int) - n0 = (j : Int) := by omega
        obtain ⟨i, hi5⟩ : ∃ i, n0 + j = i := ⟨_, rfl⟩
        rw [hi5] at e0 e9 i1 i2 hi hlt ⊢
        obtain ⟨b, off, rfl, hbl, hc⟩ := (HS.out.below hP.bx.base (Nat.le_refl _)).2.2 (by omega)
        have al : ∀ o, Below wr.heap.size wr (wr.alloc o) := fun o => (Below.refl _ _).alloc (Nat.le_refl _) o
        obtain ⟨q0, q1, q2⟩ := hc j (by omega)
        have k0 := fun o => ((al o).cell (p := ⟨b, off + j * 3, none⟩) hbl).trans q0
        have k1 := fun o => ((al o).cell (p := ⟨b, off + j * 3 + 1, none⟩) hbl).trans q1
        have k2 := fun o => ((al o).cell (p := ⟨b, off + j * 3 + 2, none⟩) hbl).trans q2
        clear q0 q1 q2 al hbl
        have hj : j < n1 := by omega
        generalize O j = o at k0 k1 k2
        obtain ⟨ko, so, no⟩ := o
        simp only at k0 k1 k2
        clear hP hm hc HT hi5
        by_cases q1 : ko = 1
        · subst q1
          go_wp2_with fail
          refine (bx_push (K := fun k => β = some k ∨ k = wr.heap.size) (HP.out.bx.adds ?_ ?_ ?_) no).mono ?_
          · repeat (first | exact Below.refl _ _ | refine Below.setCell ?_ (by simp) _ | refine Below.alloc ?_ (by simp) _)
          · rintro k (hk | hk)
            · exact .inl hk
            · exact .inr (by omega)
          · rintro k (hk | hk)
            · have := HP.out.bx.old k hk
              simp
              omega
            · rw [hk]
              simp
          rintro e w3 ⟨rfl, h3, h4⟩
          have hrow : w3.heap[wr.heap.size]? = some (.cells #[.int .i64 1, .int .i64 so, .int .i64 no] 32 (0, 0)) := by
            refine (h4 _ (.inr rfl)).trans ?_
            first | exact heap_alloc_new _ _ | (have := set_row (heap_alloc_new wr (.cells #[.int .i64 1, .int .i64 0, .int .i64 0] 32)) 2 (.int .i64 no); simpa using this) | (have := set_row (set_row (set_row (heap_alloc_new wr (.cells #[.int .i64 1, .int .i64 0, .int .i64 0] 32)) 0 (.int .i64 1)) 1 (.int .i64 so)) 2 (.int .i64 no); simpa using this)
          obtain ⟨o0, o1, o2⟩ := opcells hrow
          have B3 := h3.less (K' := fun k => β = some k) (fun k hk => .inl hk)
          have R3 : SF ei 1 w3 3 β (.slice ap m cp) put := by
            refine SF.kp (SF.fr (S := fun _ => False) HP.out.row (Fr.of_below ?_) (fun _ _ h => h)) (fun k hk => h4 k (.inl hk))
            repeat (first | exact Below.refl _ _ | refine Below.setCell ?_ (by simp) _ | refine Below.alloc ?_ (by simp) _)
          have hlast : p.last = m := by rw [HP.out.lk.1]; exact HM.out
          by_cases hfull : m = 4096
          · have hf : 4096 ≤ p.last := by omega
            have e1 : pushN p = 0 := by rw [pushN, if_pos hf]
            have e2 : pushE p = 81 := by rw [pushE, if_pos hf]
            rw [pushS, if_pos hf] at B3
            rw [e1, e2]
            obtain ⟨p5, hp5⟩ : ∃ p5, p = p5 := ⟨_, rfl⟩
            have P5 := hd (show PU w w3 x W p β (.slice ap m cp) put from ⟨B3, R3, HP.out.new, HP.out.win, HP.out.lk⟩)
            clear h3 h4 hrow B3 R3 hlast hf e1 e2 o0 o1 o2 HP
            subst hfull
            go_wp2_with fail
            refine (num_any 81 w3).mono ?_
            rintro e w4 ⟨rfl, hw4⟩
            subst hw4
            subst hp5
            obtain ⟨q, hq⟩ : ∃ q, p.a = q := ⟨_, rfl⟩
            have hqm : q ≤ 4096 ∧ 4096 ≤ 4096 := by
              have h1 := P5.out.lk.len
              have h2 := P5.out.lk.1
              have h3 := P5.out.bx.ok.few
              have h4 := HM.out
              unfold St.last at h2
              omega
            have j1 : ¬ (q : Int) < 0 := by omega
            have w1 : IntKind.i64.wrap ((4096 : Int) - q) = (4096 : Int) - q := by rw [IntKind.wrap_i64]; omega
            have HQ := hd hq
            clear hq
            go_wp2_with fail
            refine (bx_acked P5.out.bx).mono ?_
            rintro e wa ⟨rfl, hwa⟩
            subst hwa
            rw [HQ.out]
            go_wp2_with fail
            refine (pu_last P5.out).mono ?_
            rintro e wb ⟨rfl, hb⟩
            rw [HM.out]
            have PB := hd hb
            clear hb P5
            go_wp2_with fail
            refine (pu_left PB.out).mono ?_
            rintro e wd ⟨u, rfl, h1, h2⟩
            obtain ⟨gl, cl, rfl, -⟩ := h1.form
            have CR := hd (h2.rowLeft h1)
            rw [HM.out, HQ.out] at CR
            clear h1 h2 PB
            go_wp2_with fail
            refine CR.out.mono ?_
            rintro e we ⟨rfl, he⟩
            have Z : Hid (∃ p β put, put.length = 4096 ∧ PU w we x W p β (.slice ap 4096 cp) put) := ⟨_, _, _, HM.out, he⟩
            clear he CR
            go_wp2_with fail
            exact ⟨⟨i + 1, by omega, by go_num, _, 4096, _, rfl, Z⟩, by simp [intOf]; omega⟩
          · have hf : ¬ 4096 ≤ p.last := by have := HP.out.bx.ok.few; unfold St.last at hlast ⊢; omega
            have hm4 : m < 4096 := by omega
            have e1 : pushN p = (m : Int) + 1 := by rw [pushN, if_neg hf, hlast]
            have e2 : pushE p = 0 := by rw [pushE, if_neg hf]
            rw [e1, e2]
            have hfi : ¬ (m : Int) = 4096 := by omega
            obtain ⟨v', w', hr, g', hPU⟩ := pu_app (W := W) (y := no) B3 R3 HP.out.new (by rw [show (pushS p no).W = p.W by unfold pushS; split <;> rfl]; exact HP.out.win) (HP.out.lk.push HP.out.bx.ok no hf) (by have := HM.out; omega)
            have hlen : (put ++ [no]).length = m + 1 := by simp [HM.out]
            obtain ⟨a5, c5, rfl, -⟩ := hPU.row.form
            rw [hlen] at hr hPU
            generalize pushS p no = p5 at hPU
            generalize put ++ [no] = put5 at hPU hlen
            have P5 := hd hPU
            have HM5 := hd hlen
            clear h3 h4 hrow B3 R3 hlast hf e1 e2 HP hPU hlen hfull
            go_wp2_with (at_builtin; refine wpList_append_k _ rfl _ _ 22 22 rfl _ _ rfl rfl (hr _) ?_)
            refine (num_any 0 w').mono ?_
            rintro e w4 ⟨rfl, hw4⟩
            subst hw4
            obtain ⟨q, hq⟩ : ∃ q, p5.a = q := ⟨_, rfl⟩
            have hqm : q ≤ (m + 1) ∧ (m + 1) ≤ 4096 := by
              have h1 := P5.out.lk.len
              have h2 := P5.out.lk.1
              have h3 := P5.out.bx.ok.few
              have h4 := HM5.out
              unfold St.last at h2
              omega
            have j1 : ¬ (q : Int) < 0 := by omega
            have w1 : IntKind.i64.wrap (((m + 1) : Int) - q) = ((m + 1) : Int) - q := by rw [IntKind.wrap_i64]; omega
            have HQ := hd hq
            clear hq
            go_wp2_with fail
            refine (bx_acked P5.out.bx).mono ?_
            rintro e wa ⟨rfl, hwa⟩
            subst hwa
            rw [HQ.out]
            go_wp2_with fail
            refine (pu_last P5.out).mono ?_
            rintro e wb ⟨rfl, hb⟩
            rw [HM5.out]
            have PB := hd hb
            clear hb P5
            go_wp2_with fail
            refine (pu_left PB.out).mono ?_
            rintro e wd ⟨u, rfl, h1, h2⟩
            obtain ⟨gl, cl, rfl, -⟩ := h1.form
            have CR := hd (h2.rowLeft h1)
            rw [HM5.out, HQ.out] at CR
            clear h1 h2 PB
            go_wp2_with fail
            refine CR.out.mono ?_
            rintro e we ⟨rfl, he⟩
            have Z : Hid (∃ p β put, put.length = (m + 1) ∧ PU w we x W p β (.slice a5 (m + 1) c5) put) := ⟨_, _, _, HM5.out, he⟩
            clear he CR
            go_wp2_with fail
            exact ⟨⟨i + 1, by omega, by go_num, _, (m + 1), _, rfl, Z⟩, by simp [intOf]; omega⟩
        by_cases q8 : ko = 8
        · subst q8
          go_wp2_with fail
          refine (bx_reset (K := NoK) (HP.out.bx.free.below ?_)).mono ?_
          · repeat (first | exact Below.refl _ _ | refine Below.setCell ?_ (by simp) _ | refine Below.alloc ?_ (by simp) _)
          rintro e w3 ⟨rfl, h3, -⟩
          have P5 := hd (show PU w w3 x W (resetS p) none (.slice none 0 0) [] from ⟨h3.less (fun k hk => by cases hk), ⟨rfl, rfl⟩, (fun g hg => by cases hg), HP.out.win, Lk.reset p⟩)
          have za : ((resetS p).a : Int) = 0 := rfl
          have zs : ((resetS p).s : Int) = 0 := rfl
          have zl : ((([] : List Int).length : Nat) : Int) = 0 := rfl
          clear h3 HP HM
          go_wp2_with fail
          refine (bx_acked P5.out.bx).mono ?_
          rintro e w4 ⟨rfl, hw4⟩
          subst hw4
          rw [za]
          go_wp2_with fail
          refine (bx_sent P5.out.bx).mono ?_
          rintro e w4 ⟨rfl, hw4⟩
          subst hw4
          rw [zs]
          go_wp2_with fail
          refine (bx_acked P5.out.bx).mono ?_
          rintro e w4 ⟨rfl, hw4⟩
          subst hw4
          rw [za]
          go_wp2_with fail
          refine (pu_last P5.out).mono ?_
          rintro e wb ⟨rfl, hb⟩
          rw [zl]
          have PB := hd hb
          clear hb P5
          go_wp2_with fail
          refine (pu_left PB.out).mono ?_
          rintro e wd ⟨u, rfl, h1, h2⟩
          obtain ⟨gl, cl, rfl, -⟩ := h1.form
          have CR := hd (h2.rowLeft h1)
          rw [zl, za] at CR
          clear h1 h2 PB zl za zs
          go_wp2_with fail
          refine CR.out.mono ?_
          rintro e we ⟨rfl, he⟩
          have Z : Hid (∃ p β put, put.length = 0 ∧ PU w we x W p β (.slice none 0 0) put) := ⟨_, _, _, rfl, he⟩
          clear he CR
          go_wp2_with fail
          exact ⟨⟨i + 1, by omega, by go_num, _, 0, _, rfl, Z⟩, by simp [intOf]; omega⟩
        · go_wp2_with fail
          refine (bx_act (HP.out.bx.below ?_) ko so no).mono ?_
          · repeat (first | exact Below.refl _ _ | refine Below.setCell ?_ (by simp) _ | refine Below.alloc ?_ (by simp) _)
          rintro e w3 ⟨rfl, h3, h4⟩
          have P5 := hd (show PU w w3 x W (actS p ko no) β (.slice ap m cp) put from ⟨h3, SF.kp (SF.fr (S := fun _ => False) HP.out.row (Fr.of_below (by repeat (first | exact Below.refl _ _ | refine Below.setCell ?_ (by simp) _ | refine Below.alloc ?_ (by simp) _))) (fun _ _ h => h)) h4, HP.out.new, (actS_W p ko no).trans HP.out.win, HP.out.lk.act HP.out.bx.ok ko no q1 q8⟩)
          generalize actS p ko no = p5 at P5
          clear h3 h4 HP
          obtain ⟨q, hq⟩ : ∃ q, p5.a = q := ⟨_, rfl⟩
          have hqm : q ≤ m ∧ m ≤ 4096 := by
            have h1 := P5.out.lk.len
            have h2 := P5.out.lk.1
            have h3 := P5.out.bx.ok.few
            have h4 := HM.out
            unfold St.last at h2
            omega
          have j1 : ¬ (q : Int) < 0 := by omega
          have w1 : IntKind.i64.wrap ((m : Int) - q) = (m : Int) - q := by rw [IntKind.wrap_i64]; omega
          have HQ := hd hq
          clear hq
          go_wp2_with fail
          refine (bx_acked P5.out.bx).mono ?_
          rintro e wa ⟨rfl, hwa⟩
          subst hwa
          rw [HQ.out]
          go_wp2_with fail
          refine (pu_last P5.out).mono ?_
          rintro e wb ⟨rfl, hb⟩
          rw [HM.out]
          have PB := hd hb
          clear hb P5
          go_wp2_with fail
          refine (pu_left PB.out).mono ?_
          rintro e wd ⟨u, rfl, h1, h2⟩
          obtain ⟨gl, cl, rfl, -⟩ := h1.form
          have CR := hd (h2.rowLeft h1)
          rw [HM.out, HQ.out] at CR
          clear h1 h2 PB
          go_wp2_with fail
          refine CR.out.mono ?_
          rintro e we ⟨rfl, he⟩
          have Z : Hid (∃ p β put, put.length = m ∧ PU w we x W p β (.slice ap m cp) put) := ⟨_, _, _, HM.out, he⟩
          clear he CR
          go_wp2_with fail
          exact ⟨⟨i + 1, by omega, by go_num, _, m, _, rfl, Z⟩, by simp [intOf]; omega⟩
    · have i1 : ¬ (i : Int) < (n0 : Int) + n1 := by omega
      have C := hd (drained_true w x W m β ap cp put wr hm ⟨p, hP⟩)
      clear hP hm HT HP HM
      go_wp2_with fail
      refine C.out.mono ?_
      rintro e w3 ⟨rfl, h3⟩
      have Z := hd h3
      clear h3 C
      go_wp2
      go_ret
      exact ⟨rfl, Z.out⟩

end Go.Proofs.Ytocpfioifamkmaa
