/-
  InboxOnce.
-/
import Derived.Test.YtpjnhjijipcjkaaOe
import Derived.Test.YtpjnhjijipcjkaaSc
namespace Go.Proofs.Ytpjnhjijipcjkaa
open Go.RowKit
set_option linter.unusedVariables false

theorem OH.base {w0 w : World} {x g R : Nat} {p : Ib} {K : Nat → Prop} (h : OH w0 w x g R p K) : RowKit.Below w0.heap.size w0 w := by
  obtain ⟨V, B, h, -⟩ := h
  exact h.base
theorem OH.below {w0 w w' : World} {x g R : Nat} {p : Ib} {K : Nat → Prop} (h : OH w0 w x g R p K) (hb : RowKit.Below w.heap.size w w') : OH w0 w' x g R p K := by
  obtain ⟨V, B, h, h2⟩ := h
  exact ⟨V, B, h.below hb, h2⟩
theorem OH.adds {w0 w w' : World} {x g R : Nat} {p : Ib} {K K' : Nat → Prop} (h : OH w0 w x g R p K) (hb : RowKit.Below w.heap.size w w') (h1 : ∀ k, K' k → K k ∨ w.heap.size ≤ k) (h2 : ∀ k, K' k → k < w'.heap.size) : OH w0 w' x g R p K' := by
  obtain ⟨V, B, h, h3⟩ := h
  exact ⟨V, B, h.adds hb h1 h2, h3⟩
theorem OH.free {w0 w : World} {x g R : Nat} {p : Ib} {K : Nat → Prop} (h : OH w0 w x g R p K) : OH w0 w x g R p NoK := h.adds (Below.refl _ _) (fun k hk => hk.elim) (fun k hk => hk.elim)

/-- The beginning of InboxOnce: what the five steps leave. -/
theorem once_five (R : Nat) (h1 : 1 ≤ R) : (outS true (iputS (outS false (iputS (iputS ⟨R, 0, []⟩ 1 (.int .i64 5)) 1 (.int .i64 6))) 1 (.int .i64 7))).c = 1 := by
  have e1 : iputS ⟨R, 0, []⟩ 1 (.int .i64 5) = ⟨R, 0, [(1, .int .i64 5)]⟩ := by
    have : iputE ⟨R, 0, []⟩ 1 = 0 := by
      unfold iputE
      rw [if_neg (by omega), if_neg (by simp [hasK]), if_neg (by simp; omega)]
    rw [iputS, if_pos this]
    rfl
  have e2 : iputS ⟨R, 0, [(1, .int .i64 5)]⟩ 1 (.int .i64 6) = ⟨R, 0, [(1, .int .i64 5)]⟩ := by
    have : iputE ⟨R, 0, [(1, .int .i64 5)]⟩ 1 = 92 := by
      unfold iputE
      rw [if_neg (by omega), if_pos (.inr rfl)]
    rw [iputS, if_neg (by rw [this]; omega)]
  have e3 : outS false (⟨R, 0, [(1, .int .i64 5)]⟩ : Ib) = ⟨R, 0, []⟩ := rfl
  have e4 : iputS ⟨R, 0, []⟩ 1 (.int .i64 7) = ⟨R, 0, [(1, .int .i64 7)]⟩ := by
    have : iputE ⟨R, 0, []⟩ 1 = 0 := by
      unfold iputE
      rw [if_neg (by omega), if_neg (by simp [hasK]), if_neg (by simp; omega)]
    rw [iputS, if_pos this]
    rfl
  rw [e1, e2, e3, e4]
  rfl

/-- The inbox, the struct, and a step in a block of its own. -/
def OO (w0 w : World) (x g R : Nat) (p : Ib) (bx : Nat) (o : OpV) : Prop := OH w0 w x g R p (· = bx) ∧ w.heap[bx]? = some (.cells #[.int .i64 o.kind, .int .i64 o.slot, .int .i64 o.n, .int .i64 o.v, .slice o.ia o.il o.ic] 56 (0, 0))

set_option maxRecDepth 100000 in
set_option maxHeartbeats 16000000 in
theorem inboxOnce_any (x0 : Int) (a1 : Option Addr) (n1 c1 : Nat) (O : Nat → OpV) (w : World) (hS : IsS w a1 n1 c1 O) :
    Calls Try.prog 5 #[.int .i64 x0, .slice a1 n1 c1] w fun e w' => e = .returned (.bool true) ∧ RowKit.Below w.heap.size w w' := by
  have HS := hd hS
  have n1c := hS.1
  have n1m := hS.2.1
  clear hS
  go_enter Try.func5, Try.ntmps5
  go_wp2_with fail
  refine (within_any x0 1 4096 w (by omega) (by omega)).mono ?_
  rintro e w1 ⟨R, rfl, hR1, hR2, rfl⟩
  go_wp2_with fail
  refine (ix_new R w1 hR1 hR2).mono ?_
  rintro e w3 ⟨x, rfl, h3⟩
  have S0 : Hid (OH w1 (w3.alloc (.cells ((Try.zeroCells52.setIfInBounds 0 (.pointer (some ⟨x, 0, none⟩))).setIfInBounds 1 (.int .i64 R)) 52)) x w3.heap.size R ⟨R, 0, []⟩ NoK) := by
    have h4 := MO.put h3 1 (w' := w3.alloc (.cells ((Try.zeroCells52.setIfInBounds 0 (.pointer (some ⟨x, 0, none⟩))).setIfInBounds 1 (.int .i64 R)) 52)) (frm_once w3.heap.size x R (fun _ => 0) (fun _ => false) 0) (S' := (· = w3.heap.size)) ⟨⟨_, once_new w3 x R⟩, rfl, fun k hk => by rw [hk]; simp⟩ (fun k hk => by rw [hk]; omega) ((Below.refl _ _).alloc (Nat.le_refl _) _)
    refine ⟨fun _ => 0, fun _ => false, cast ?_ h4, ⟨rfl, fun n _ _ => rfl, fun n _ _ h => by cases h⟩⟩
    congr 1
    funext j
    rcases j with _ | _ | j <;> simp [setO, FO, noF]
  clear h3
  go_wp2_with fail
  refine (o_put 1 5 S0.out).mono ?_
  rintro e w4 ⟨rfl, h4, -⟩
  have S1 := hd h4
  clear h4 S0
  go_wp2_with fail
  refine (o_put 1 6 S1.out).mono ?_
  rintro e w5 ⟨rfl, h5, -⟩
  have S2 := hd h5
  clear h5 S1
  go_wp2_with fail
  refine (o_out false S2.out).mono ?_
  rintro e w6 ⟨rfl, h6, -⟩
  have S3 := hd h6
  clear h6 S2
  go_wp2_with fail
  refine (o_put 1 7 S3.out).mono ?_
  rintro e w7 ⟨rfl, h7, -⟩
  have S4 := hd h7
  clear h7 S3
  go_wp2_with fail
  refine (o_out true S4.out).mono ?_
  rintro e w8 ⟨rfl, h8, -⟩
  have c8 : w8.cell? ⟨w3.heap.size, 8196, none⟩ = some (.int .i64 1) := by
    obtain ⟨V, B, q1, -⟩ := h8
    obtain ⟨cur, q2⟩ := at_1 q1
    have := q2.cc
    rw [once_five R hR1] at this
    exact this
  have T0 : Hid (∃ p, OH w1 w8 x w3.heap.size R p NoK) := ⟨_, h8⟩
  clear h8 S4
  go_wp2_with fail
  generalize w3.heap.size = g at T0
  go_loopw [9] (fun v wr => ∃ i : Nat, i ≤ n1 ∧ v = .int .i64 i ∧ Hid (∃ p, OH w1 wr x g R p NoK)) (fun v _ => n1 - (intOf v).toNat)
  case atStart => exact ⟨0, Nat.zero_le _, rfl, T0⟩
  case round =>
    obtain ⟨i, hi, rfl, HT⟩ := hrel
    clear T0 c8
    obtain ⟨p, hp⟩ := HT.out
    by_cases hlt : i < n1
    · have i1 : (i : Int) < (n1 : Int) := by omega
      obtain ⟨b, off, rfl, k0, k1, k2, k3, k4⟩ := (HS.out.below hp.base (Nat.le_refl _)).cell hlt
      generalize O i = o at k0 k1 k2 k3 k4
      obtain ⟨ok, os, on, ov, oa, ol, oc⟩ := o
      simp only at k0 k1 k2 k3 k4
      have O1 : Hid (OO w1 (wr.alloc (.cells #[.int .i64 ok, .int .i64 os, .int .i64 on, .int .i64 ov, .slice oa ol oc] 56)) x g R p wr.heap.size ⟨ok, os, on, ov, oa, ol, oc⟩) :=
        ⟨hp.adds ((Below.refl _ _).alloc (Nat.le_refl _) _) (fun k hk => .inr (by omega)) (fun k hk => by rw [hk]; simp), heap_alloc_new _ _⟩
      clear hp HT
      by_cases h1 : ok = 1
      · subst h1
        go_wp2_with fail
        refine (o_put on ov O1.out.1).mono ?_
        rintro e w9 ⟨rfl, h9, -⟩
        have Z : Hid (∃ p, OH w1 w9 x g R p NoK) := ⟨_, h9.free⟩
        clear h9 O1
        go_wp2_with fail
        exact ⟨⟨i + 1, by omega, by go_num, Z⟩, by simp [intOf]; omega⟩
      by_cases h3 : ok = 3
      · subst h3
        go_wp2_with fail
        refine (o_out true O1.out.1).mono ?_
        rintro e w9 ⟨rfl, h9, -⟩
        have Z : Hid (∃ p, OH w1 w9 x g R p NoK) := ⟨_, h9.free⟩
        clear h9 O1
        go_wp2_with fail
        exact ⟨⟨i + 1, by omega, by go_num, Z⟩, by simp [intOf]; omega⟩
      by_cases h4 : ok = 4
      · subst h4
        go_wp2_with fail
        refine (o_out false O1.out.1).mono ?_
        rintro e w9 ⟨rfl, h9, -⟩
        have Z : Hid (∃ p, OH w1 w9 x g R p NoK) := ⟨_, h9.free⟩
        clear h9 O1
        go_wp2_with fail
        exact ⟨⟨i + 1, by omega, by go_num, Z⟩, by simp [intOf]; omega⟩
      by_cases h6 : ok = 6
      · subst h6
        go_wp2_with fail
        obtain ⟨V, B, hM, hO⟩ := O1.out.1
        refine (mi_held hM 0 rfl).mono ?_
        rintro e w9 ⟨v, rfl, h9, h10, -⟩
        have hok := (mi_ok hM 0 rfl).1
        have hlen : (heldL p).length ≤ R := by rw [held_len, ← hO.r]; exact hok.len
        obtain ⟨cur, hK⟩ := at_1 h10
        obtain ⟨av, cv, rfl, hv1, hv2, hv3⟩ := h9.isL
        obtain ⟨L, hL⟩ : ∃ L, (heldL p).length = L := ⟨_, rfl⟩
        have FA : Hid (∀ j, j < L → ∃ bv ov k, av = some ⟨bv, ov, none⟩ ∧ w9.cell? ⟨bv, ov + j, none⟩ = some (.int .i64 ((k : Nat) : Int)) ∧ 1 ≤ k ∧ k ≤ 4096 ∧ p.c < k ∧ w9.cell? ⟨g, 4099 + k, none⟩ = some (.bool true) ∧ (0 < j → ∃ k' : Nat, w9.cell? ⟨bv, ov + (j - 1), none⟩ = some (.int .i64 (k' : Int)) ∧ k' < k)) := by
          intro j hj
          obtain ⟨bv, ov, e, -, hc⟩ := hv3 (by omega)
          obtain ⟨k, q1, q2, q3, q4, q5⟩ := held_at hok (i := j) (by omega)
          refine ⟨bv, ov, k, e, by rw [hc j (by omega), q1], by omega, q5, q3, ?_, fun h0 => ?_⟩
          · rw [hK.cb (i := k) (by omega), hO.b k q3 q5, q2]
          · obtain ⟨k', r1, -⟩ := held_at hok (i := j - 1) (by omega)
            have := held_lt hok (i := j - 1) (j := j) (by omega) (by omega)
            exact ⟨k', by rw [hc (j - 1) (by omega), r1], by omega⟩
        have cc9 := hK.cc
        have hpc : p.c ≤ 4096 := hok.c2
        have Z : Hid (∃ p, OH w1 w9 x g R p NoK) := ⟨_, OH.free ⟨V, B, h10, hO⟩⟩
        rw [hL] at hlen hv1 ⊢
        clear hM hO h9 h10 hok hK hv3 hL O1
        generalize p.c = C at cc9 hpc FA
        have l1 : (L : Int) ≤ (R : Int) := by omega
        go_wp2_with fail
        go_loopw [11, 13] (fun vo vj wr => ∃ j : Nat, j ≤ L ∧ vj = .int .i64 j ∧ vo = .bool true ∧ Hid (∃ z, wr = w9.drewN z)) (fun _ vj _ => L - (intOf vj).toNat)
        case atStart => exact ⟨0, Nat.zero_le _, rfl, rfl, 0, rfl⟩
        case round =>
          obtain ⟨j, hj, rfl, rfl, HW⟩ := hrel
          by_cases hjl : j < L
          · have j1 : (j : Int) < (L : Int) := by omega
            have hcell : ∀ q, wr.cell? q = w9.cell? q := fun q => by obtain ⟨z, rfl⟩ := HW.out; rfl
            obtain ⟨bv, ov, k, rfl, f1, f2, f3, f4, f5, f6⟩ := FA.out j hjl
            have g1 := (hcell _).trans f1
            have g5 := (hcell _).trans f5
            have gc := (hcell _).trans cc9
            have i2 : (1 : Int) ≤ (k : Int) := by omega
            have i3 : (k : Int) ≤ 4096 := by omega
            have i4 : (C : Int) < (k : Int) := by omega
            have b2 : (k : Int) < 4097 := by omega
            have b3 : k < 4097 := by omega
            by_cases h0 : j = 0
            · subst h0
              rw [Nat.add_zero] at g1
              clear FA hcell f1 f5 f6
              go_wp2_with fail
              go_quiet (fail)
              go_wp2_with fail
              refine ⟨⟨0 + 1, by omega, by go_num, rfl, ?_⟩, by simp [intOf]; omega⟩
              obtain ⟨z, rfl⟩ := HW.out
              exact ⟨_, World.drewN_drewN _ _ _⟩
            · obtain ⟨k', f7, f8⟩ := f6 (by omega)
              have g7 := (hcell _).trans f7
              have i5 : (k' : Int) < (k : Int) := by omega
              have i6 : ¬ ((j : Int) = 0) := by omega
              have hw : IntKind.i64.wrap ((j : Int) - 1) = ((j - 1 : Nat) : Int) := by rw [IntKind.wrap_i64]; omega
              have i7 : j - 1 < L := by omega
              generalize j - 1 = j' at g7 hw i7
              clear FA hcell f1 f5 f6 f7
              go_wp2_with fail
              go_quiet (fail)
              go_wp2_with fail
              refine ⟨⟨j + 1, by omega, by go_num, rfl, ?_⟩, by simp [intOf]; omega⟩
              obtain ⟨z, rfl⟩ := HW.out
              exact ⟨_, World.drewN_drewN _ _ _⟩
          · have j1 : ¬ (j : Int) < (L : Int) := by omega
            have Y : Hid (∃ p, OH w1 wr x g R p NoK) := by
              obtain ⟨z, rfl⟩ := HW.out
              obtain ⟨p, h⟩ := Z.out
              exact ⟨p, h.below (below_drewN' _ _)⟩
            clear FA Z HW
            go_wp2_with fail
            exact ⟨⟨i + 1, by omega, by go_num, Y⟩, by simp [intOf]; omega⟩
      · have Z : Hid (∃ p, OH w1 (wr.alloc (.cells #[.int .i64 ok, .int .i64 os, .int .i64 on, .int .i64 ov, .slice oa ol oc] 56)) x g R p NoK) := ⟨_, O1.out.1.free⟩
        clear O1
        go_wp2_with fail
        exact ⟨⟨i + 1, by omega, by go_num, Z⟩, by simp [intOf]; omega⟩
    · have i1 : ¬ (i : Int) < (n1 : Int) := by omega
      obtain ⟨V, B, hM, hO⟩ := hp
      obtain ⟨cur, hK⟩ := at_1 hM
      have cc := hK.cc
      have CQ := hd (cum_quiet hM rfl)
      have HM := hd hM
      generalize p.c = C at cc CQ
      clear hM hO hK HT
      go_wp2_with fail
      go_quiet (first | (go_at_call 17; exact CQ.out _))
      go_wp2_with fail
      go_ret
      exact ⟨rfl, (HM.out.below (below_drewN' _ _)).base⟩

end Go.Proofs.Ytpjnhjijipcjkaa
