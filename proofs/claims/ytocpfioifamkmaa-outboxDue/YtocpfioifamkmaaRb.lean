/-
  drained.
-/
import Derived.Test.YtocpfioifamkmaaRa
namespace Go.Proofs.Ytocpfioifamkmaa
open Go.RowKit
set_option linter.unusedVariables false

theorem PU.cellA {w0 w : World} {x W : Nat} {p : St} {β : Option Nat} {v : Value} {put : List Int} (h : PU w0 w x W p β v put) : w.cell? ⟨x, 1, none⟩ = some (.int .i64 p.a) := by
  obtain ⟨S, ⟨v', β', h1, -⟩, -⟩ := h.bx.at_
  exact cell_row h1.box 1

set_option maxRecDepth 100000 in
set_option maxHeartbeats 8000000 in
theorem drained_true (w0 : World) (x W m : Nat) (β : Option Nat) (a : Option Addr) (c : Nat) (put : List Int) (w : World) (hm : put.length = m) (h : ∃ p, PU w0 w x W p β (.slice a m c) put) :
    Calls Try.prog 23 #[.pointer (some ⟨x, 0, none⟩), .int .i64 W, .slice a m c] w fun e w' => e = .returned (.bool true) ∧ Below w0.heap.size w0 w' := by
  have H := hd h
  have HM := hd hm
  have hm4 : m ≤ 4096 := by
    obtain ⟨p, hp⟩ := h
    have h1 := hp.lk.1
    have h2 := hp.bx.ok.few
    unfold St.last at h1
    omega
  clear h hm
  go_enter Try.func23, Try.ntmps23
  go_wp2_with fail
  go_loopw [7] (fun _ wr => Hid (∃ p, PU w0 wr x W p β (.slice a m c) put)) (fun _ wr => 4096 - (intOf ((wr.cell? ⟨x, 1, none⟩).getD undef)).toNat)
  case atStart => exact H
  case round =>
    clear H
    obtain ⟨p, hP⟩ := hrel.out
    have hok := hP.bx.ok
    have hA := hP.cellA
    have h1 := hP.lk.len
    have hW := hP.win
    have b1 := hok.w1
    have b2 := hok.w2
    have b3 := hok.few
    obtain ⟨q, hq⟩ : ∃ q, p.a = q := ⟨_, rfl⟩
    obtain ⟨d, hdd⟩ : ∃ d, dueN p = d := ⟨_, rfl⟩
    have e1 : dueN p = min p.W p.L.length := rfl
    have hqm : q ≤ m ∧ d = min W (m - q) ∧ 1 ≤ W ∧ W ≤ 4096 := by have := HM.out; omega
    have HP := hd hP
    have HQ := hd (And.intro hq hdd)
    have HA := hd hA
    have hrow : Hid (∀ w1 u b, IL w1 b u (dueL p) → PU w0 w1 x W (dueS p) β (.slice a m c) put → Calls Try.prog 22 #[u, .int .i64 ((q : Int) + 1), .int .i64 d, .slice a m c] w1 fun e w' => e = .returned (.bool true) ∧ PU w0 w' x W (dueS p) β (.slice a m c) put) := by
      intro w1 u b h1 h2
      have hL : dueL (dueS p) = dueL p := rfl
      have hN : dueN (dueS p) = d := hdd
      have := h2.rowDue (b := b) (u := u) h1
      rw [hN] at this
      rw [← hq]
      exact this
    clear hP hok hA h1 hW b1 b2 b3 e1 hrel hq hdd
    obtain ⟨hq1, hdm, hW1, hW2⟩ := hqm
    have w1 : IntKind.i64.wrap ((m : Int) - q) = (m : Int) - q := by rw [IntKind.wrap_i64]; omega
    by_cases hg : (W : Int) < (m : Int) - q
    · have hdW : d = W := by omega
      have hqd : q + d ≤ m := by omega
      have i2 : ¬ (d : Int) ≤ 0 := by omega
      have hdp : 0 < d := by omega
      clear hdm hW1 hq1
      subst hdW
      go_wp2_with fail
      refine (bx_acked HP.out.bx).mono ?_
      rintro e w2 ⟨rfl, rfl⟩
      rw [HQ.out.1]
      go_wp2_with fail
      refine (pu_due HP.out).mono ?_
      rintro e w3 ⟨u, rfl, h3, h4⟩
      obtain ⟨g3, c3, rfl, -⟩ := h3.form
      have C3 := hd (hrow.out _ _ _ h3 h4)
      clear h3 h4 HP
      go_wp2_with fail
      refine C3.out.mono ?_
      rintro e w4 ⟨rfl, h4⟩
      have P4 := hd h4
      clear h4 C3 hrow
      have hE : Hid (ackE (dueS p) ((q : Int) + d) = 0 ∧ (q : Int) + d ≤ (dueS p).s ∧ ((ackS (dueS p) ((q : Int) + d)).a : Int) = (q : Int) + d) := by
        obtain ⟨g1, g2⟩ := HQ.out
        have hs : (q : Int) + d ≤ (dueS p).s := by simp [dueS, g1, g2]; omega
        refine ⟨?_, hs, ?_⟩
        · rw [ackE, if_neg (by omega)]
        · rw [ackS, if_pos (by have : (dueS p).a = q := g1; omega)]
          simp
          omega
      obtain ⟨s, hs⟩ : ∃ s, (dueS p).s = s := ⟨_, rfl⟩
      have i3 : ¬ (s : Int) < (q : Int) + d := by have := hE.out.2.1; omega
      have HSS := hd hs
      clear hs
      go_wp2_with fail
      refine (bx_sent P4.out.bx).mono ?_
      rintro e w5 ⟨rfl, rfl⟩
      rw [HSS.out]
      go_wp2_with fail
      refine (pu_ack P4.out _).mono ?_
      rintro e w6 ⟨rfl, h6⟩
      rw [hE.out.1]
      have P6 := hd h6
      clear h6 P4
      go_wp2_with fail
      refine (num_any 0 w6).mono ?_
      rintro e w7 ⟨rfl, rfl⟩
      go_wp2_with fail
      refine (bx_acked P6.out.bx).mono ?_
      rintro e w8 ⟨rfl, rfl⟩
      rw [hE.out.2.2]
      have Z : Hid (∃ p, PU w0 w8 x d p β (.slice a m c) put) := ⟨_, P6.out⟩
      have C6 : Hid (w8.cell? ⟨x, 1, none⟩ = some (.int .i64 ((q : Int) + d))) := by
        have := P6.out.cellA
        rw [hE.out.2.2] at this
        exact this
      have MZ : Hid (4096 - (intOf ((w8.cell? ⟨x, 1, none⟩).getD undef)).toNat < 4096 - (intOf ((w2.cell? ⟨x, 1, none⟩).getD undef)).toNat) := by
        show _ < _
        rw [C6.out, HA.out, HQ.out.1]
        simp [intOf]
        omega
      clear P6 hE C6 HSS
      go_wp2_with fail
      exact ⟨Z, MZ.out⟩
    · have e2 : (m : Int) - q = d := by omega
      have hqd : q + d ≤ m := by omega
      have hg2 : ¬ (W : Int) < (d : Int) := by omega
      have HDM := hd hdm
      clear hdm hg hq1
      rw [e2] at w1
      by_cases hd0 : d = 0
      · subst hd0
        go_wp2_with fail
        refine (bx_acked HP.out.bx).mono ?_
        rintro e w2 ⟨rfl, rfl⟩
        rw [HQ.out.1]
        go_wp2_with fail
        refine (pu_due HP.out).mono ?_
        rintro e w3 ⟨u, rfl, h3, h4⟩
        obtain ⟨g3, c3, rfl, -⟩ := h3.form
        have C3 := hd (hrow.out _ _ _ h3 h4)
        clear h3 h4 HP
        go_wp2_with fail
        refine C3.out.mono ?_
        rintro e w4 ⟨rfl, h4⟩
        have P4 := hd h4
        clear h4 C3 hrow
        go_wp2_with fail
        refine (pu_left P4.out).mono ?_
        rintro e w5 ⟨u, rfl, h5, h6⟩
        obtain ⟨g5, c5, rfl, -⟩ := h5.form
        have hz : (leftL (dueS p)).length = 0 := by
          obtain ⟨g1, g2⟩ := HQ.out
          have h7 := h6.lk.len
          have h8 := HM.out
          have h9 : (dueS p).a = q := g1
          unfold leftL
          rw [items_len]
          omega
        rw [hz]
        have Z := hd h6.bx.base
        clear h5 h6 P4
        go_wp2
        go_ret
        exact ⟨rfl, Z.out⟩
      · have i2 : ¬ (d : Int) ≤ 0 := by omega
        have hdp : 0 < d := by omega
        go_wp2_with fail
        refine (bx_acked HP.out.bx).mono ?_
        rintro e w2 ⟨rfl, rfl⟩
        rw [HQ.out.1]
        go_wp2_with fail
        refine (pu_due HP.out).mono ?_
        rintro e w3 ⟨u, rfl, h3, h4⟩
        obtain ⟨g3, c3, rfl, -⟩ := h3.form
        have C3 := hd (hrow.out _ _ _ h3 h4)
        clear h3 h4 HP
        go_wp2_with fail
        refine C3.out.mono ?_
        rintro e w4 ⟨rfl, h4⟩
        have P4 := hd h4
        clear h4 C3 hrow
        have hE : Hid (ackE (dueS p) ((q : Int) + d) = 0 ∧ (q : Int) + d ≤ (dueS p).s ∧ ((ackS (dueS p) ((q : Int) + d)).a : Int) = (q : Int) + d) := by
          obtain ⟨g1, g2⟩ := HQ.out
          have hs : (q : Int) + d ≤ (dueS p).s := by simp [dueS, g1, g2]; omega
          refine ⟨?_, hs, ?_⟩
          · rw [ackE, if_neg (by omega)]
          · rw [ackS, if_pos (by have : (dueS p).a = q := g1; omega)]
            simp
            omega
        obtain ⟨s, hs⟩ : ∃ s, (dueS p).s = s := ⟨_, rfl⟩
        have i3 : ¬ (s : Int) < (q : Int) + d := by have := hE.out.2.1; omega
        have HSS := hd hs
        clear hs
        go_wp2_with fail
        refine (bx_sent P4.out.bx).mono ?_
        rintro e w5 ⟨rfl, rfl⟩
        rw [HSS.out]
        go_wp2_with fail
        refine (pu_ack P4.out _).mono ?_
        rintro e w6 ⟨rfl, h6⟩
        rw [hE.out.1]
        have P6 := hd h6
        clear h6 P4
        go_wp2_with fail
        refine (num_any 0 w6).mono ?_
        rintro e w7 ⟨rfl, rfl⟩
        go_wp2_with fail
        refine (bx_acked P6.out.bx).mono ?_
        rintro e w8 ⟨rfl, rfl⟩
        rw [hE.out.2.2]
        have Z : Hid (∃ p, PU w0 w8 x W p β (.slice a m c) put) := ⟨_, P6.out⟩
        have C6 : Hid (w8.cell? ⟨x, 1, none⟩ = some (.int .i64 ((q : Int) + d))) := by
          have := P6.out.cellA
          rw [hE.out.2.2] at this
          exact this
        have MZ : Hid (4096 - (intOf ((w8.cell? ⟨x, 1, none⟩).getD undef)).toNat < 4096 - (intOf ((w2.cell? ⟨x, 1, none⟩).getD undef)).toNat) := by
          show _ < _
          rw [C6.out, HA.out, HQ.out.1]
          simp [intOf]
          omega
        clear P6 hE C6 HSS
        go_wp2_with fail
        exact ⟨Z, MZ.out⟩

end Go.Proofs.Ytocpfioifamkmaa
