/-
  The law out of InboxOnce.
-/
import Derived.Test.YtpjnhjijipcjkaaOd
namespace Go.Proofs.Ytpjnhjijipcjkaa
open Go.RowKit
set_option linter.unusedVariables false

theorem cum_quiet {w0 w : World} {K : Nat → Prop} {x : Nat} {p : Ib} {F : Nat → Thg} (h : MO w0 w K F) (hi : F 0 = inO x p) : ∀ q, Calls Try.prog 17 #[.pointer (some ⟨x, 0, none⟩)] (w.drewN q) fun e w' => e = .returned (.int .i64 p.c) ∧ ∃ z, w' = w.drewN z := fun q => by
  refine (mi_cum (h.below (below_drewN' w q)) 0 hi).mono ?_
  rintro e w' ⟨rfl, rfl⟩
  exact ⟨rfl, q, rfl⟩

def outS (b : Bool) (p : Ib) : Ib := if b then ipopS p else itossS p

set_option maxRecDepth 100000 in
set_option maxHeartbeats 8000000 in
theorem o_out {w0 w : World} {K : Nat → Prop} {x g R : Nat} {p : Ib} (b : Bool) (h : OH w0 w x g R p K) :
    Calls Try.prog 23 #[.pointer (some ⟨g, 0, none⟩), .bool b] w fun e w' => e = .returned (.bool true) ∧ OH w0 w' x g R (outS b p) K ∧ KP K w w' := by
  obtain ⟨V, B, hM, hO⟩ := h
  obtain ⟨cur, hK⟩ := at_1 hM
  have cx := hK.cx
  have HM := hd hM
  have HO := hd hO
  have hok := (mi_ok hM 0 rfl).1
  have hc2 := hok.c2
  have HKey := hd hok.key
  clear hM hO hK hok
  go_enter Try.func23, Try.ntmps23
  go_wp2_with fail
  refine (mi_head HM.out 0 rfl).mono ?_
  rintro e w1 ⟨rfl, h1, h1k⟩
  obtain ⟨cur1, hK1⟩ := at_1 h1
  have c1 := hK1.cc
  have cx1 := hK1.cx
  have H1 := hd (And.intro h1 h1k)
  clear h1 h1k HM cx
  obtain ⟨c, hc⟩ : ∃ c, p.c = c := ⟨_, rfl⟩
  rw [hc] at c1 hc2 ⊢
  cases hh : p.hd
  · have hat : atK p.H (c + 1) iz = iz := by rw [← hc]; exact atK_none hh
    have hE : itossE p = 94 := by rw [itossE, if_neg (by rw [hh]; simp)]
    have hS : outS b p = p := by
      unfold outS
      split
      · rw [ipopS, if_neg (by rw [hh]; simp)]
      · unfold itossS
        rw [cutK_none hh]
    have Z : Hid (∀ w', MO w0 w' K (FO x p g R V B p.c) → OH w0 w' x g R (outS b p) K) := fun w' hw => by
      rw [hS]
      exact ⟨V, B, hw, HO.out⟩
    have HC := hd hc
    have HE := hd hE
    have HT : Hid (itossS p = p ∧ ipopS p = p) := ⟨by unfold itossS; rw [cutK_none hh], by rw [ipopS, if_neg (by rw [hh]; simp)]⟩
    rw [hat]
    clear hE
    by_cases h4 : c + 1 ≤ 4096
    · have cb := hK1.cb (i := c + 1) (by omega)
      rw [HO.out.b (c + 1) (by omega) h4, ← hc, show hasK p.H (p.c + 1) = false from hh] at cb
      have hw : IntKind.i64.wrap ((c : Int) + 1) = (c : Int) + 1 := by rw [IntKind.wrap_i64]; omega
      have i1 : (c : Int) + 1 ≤ 4096 := by omega
      have cb' : w1.cell? ⟨g, 4099 + (c + 1), none⟩ = some (.bool false) := by rw [← hc]; exact cb
      clear hK1 HO HKey hat hS hc hh cb
      cases b
      · go_wp2_with fail
        refine (mi_toss H1.out.1 0 rfl).mono ?_
        rintro e w2 ⟨rfl, h2, h2k⟩
        rw [FO_0, HT.out.1] at h2
        obtain ⟨cur2, hK2⟩ := at_1 h2
        have c2 := hK2.cc
        rw [HC.out] at c2
        have cx2 := hK2.cx
        have CQ : Hid (∀ q, Calls Try.prog 17 #[.pointer (some ⟨x, 0, none⟩)] (w2.drewN q) fun e w' => e = .returned (.int .i64 c) ∧ ∃ z, w' = w2.drewN z) := by
          have := cum_quiet h2 rfl
          rw [HC.out] at this
          exact this
        rw [HE.out]
        have H2 := hd (And.intro h2 h2k)
        clear h2 h2k hK2
        go_wp2_with fail
        go_quiet (first | (go_at_call 17; exact CQ.out _))
        go_wp2_with fail
        go_ret
        exact ⟨rfl, Z.out _ (H2.out.1.below (below_drewN' _ _)), (H1.out.2.trans H2.out.2).trans (H2.out.1.kp (below_drewN' _ _))⟩
      · go_wp2_with fail
        refine (mi_pop H1.out.1 0 rfl).mono ?_
        rintro e w2 ⟨rfl, h2, h2k⟩
        rw [FO_0, HT.out.2] at h2
        obtain ⟨cur2, hK2⟩ := at_1 h2
        have c2 := hK2.cc
        rw [HC.out] at c2
        have cx2 := hK2.cx
        have CQ : Hid (∀ q, Calls Try.prog 17 #[.pointer (some ⟨x, 0, none⟩)] (w2.drewN q) fun e w' => e = .returned (.int .i64 c) ∧ ∃ z, w' = w2.drewN z) := by
          have := cum_quiet h2 rfl
          rw [HC.out] at this
          exact this
        rw [HE.out]
        have H2 := hd (And.intro h2 h2k)
        clear h2 h2k hK2
        go_wp2_with fail
        go_quiet (first | (go_at_call 17; exact CQ.out _))
        go_wp2_with fail
        go_ret
        exact ⟨rfl, Z.out _ (H2.out.1.below (below_drewN' _ _)), (H1.out.2.trans H2.out.2).trans (H2.out.1.kp (below_drewN' _ _))⟩
    · have hw : IntKind.i64.wrap ((c : Int) + 1) = (c : Int) + 1 := by rw [IntKind.wrap_i64]; omega
      have i1 : ¬ (c : Int) + 1 ≤ 4096 := by omega
      clear hK1 HO HKey hat hS hc hh
      cases b
      · go_wp2_with fail
        refine (mi_toss H1.out.1 0 rfl).mono ?_
        rintro e w2 ⟨rfl, h2, h2k⟩
        rw [FO_0, HT.out.1] at h2
        obtain ⟨cur2, hK2⟩ := at_1 h2
        have c2 := hK2.cc
        rw [HC.out] at c2
        have cx2 := hK2.cx
        have CQ : Hid (∀ q, Calls Try.prog 17 #[.pointer (some ⟨x, 0, none⟩)] (w2.drewN q) fun e w' => e = .returned (.int .i64 c) ∧ ∃ z, w' = w2.drewN z) := by
          have := cum_quiet h2 rfl
          rw [HC.out] at this
          exact this
        rw [HE.out]
        have H2 := hd (And.intro h2 h2k)
        clear h2 h2k hK2
        go_wp2_with fail
        go_quiet (first | (go_at_call 17; exact CQ.out _))
        go_wp2_with fail
        go_ret
        exact ⟨rfl, Z.out _ (H2.out.1.below (below_drewN' _ _)), (H1.out.2.trans H2.out.2).trans (H2.out.1.kp (below_drewN' _ _))⟩
      · go_wp2_with fail
        refine (mi_pop H1.out.1 0 rfl).mono ?_
        rintro e w2 ⟨rfl, h2, h2k⟩
        rw [FO_0, HT.out.2] at h2
        obtain ⟨cur2, hK2⟩ := at_1 h2
        have c2 := hK2.cc
        rw [HC.out] at c2
        have cx2 := hK2.cx
        have CQ : Hid (∀ q, Calls Try.prog 17 #[.pointer (some ⟨x, 0, none⟩)] (w2.drewN q) fun e w' => e = .returned (.int .i64 c) ∧ ∃ z, w' = w2.drewN z) := by
          have := cum_quiet h2 rfl
          rw [HC.out] at this
          exact this
        rw [HE.out]
        have H2 := hd (And.intro h2 h2k)
        clear h2 h2k hK2
        go_wp2_with fail
        go_quiet (first | (go_at_call 17; exact CQ.out _))
        go_wp2_with fail
        go_ret
        exact ⟨rfl, Z.out _ (H2.out.1.below (below_drewN' _ _)), (H1.out.2.trans H2.out.2).trans (H2.out.1.kp (below_drewN' _ _))⟩
  · have hm := atK_mem (z := iz) (show hasK p.H (p.c + 1) = true from hh)
    have hk4 := HKey.out _ hm
    simp only at hk4
    have h4 : c + 1 ≤ 4096 := by omega
    have cb := hK1.cb (i := c + 1) (by omega)
    rw [HO.out.b (c + 1) (by omega) h4, ← hc, show hasK p.H (p.c + 1) = true from hh, hc] at cb
    have cv := hK1.cv (i := c + 1) (by omega)
    have hat : atK p.H (c + 1) iz = .int .i64 (V (c + 1)) := HO.out.v (c + 1) (by omega) h4 (by rw [← hc]; exact hh)
    have hE : itossE p = 0 := itossE_of hh
    have hw : IntKind.i64.wrap ((c : Int) + 1) = (c : Int) + 1 := by rw [IntKind.wrap_i64]; omega
    have i1 : (c : Int) + 1 ≤ 4096 := by omega
    have HC := hd hc
    have HE := hd hE
    have HH := hd hh
    rw [hat]
    generalize V (c + 1) = y at cv
    clear hK1 HKey hat hc hh hm hk4 hE
    cases b
    · go_wp2_with fail
      refine (mi_toss H1.out.1 0 rfl).mono ?_
      rintro e w2 ⟨rfl, h2, h2k⟩
      rw [FO_0] at h2
      obtain ⟨cur2, hK2⟩ := at_1 h2
      have c2 := hK2.cc
      have cb2 := hK2.cb (i := c + 1) (by omega)
      have fb := frozen_row hK2.blk (4099 + (c + 1))
      rw [HC.out] at c2
      have hK3 := hK2.setB (i := c + 1) (by omega) false
      obtain ⟨q1, q2⟩ := once_set h2 (Fr.setCell (S := (· = g)) w2 ⟨g, 4099 + (c + 1), none⟩ (.bool false) rfl) hK3
      have c3 := hK3.cc
      have cx3 := hK3.cx
      rw [HC.out] at c3
      have CQ : Hid (∀ q, Calls Try.prog 17 #[.pointer (some ⟨x, 0, none⟩)] ((w2.setCell ⟨g, 4099 + (c + 1), none⟩ (.bool false)).drewN q) fun e w' => e = .returned (.int .i64 c) ∧ ∃ z, w' = (w2.setCell ⟨g, 4099 + (c + 1), none⟩ (.bool false)).drewN z) := by
        have := cum_quiet q1 (p := itossS p) rfl
        rw [show (itossS p).c = c from HC.out] at this
        exact this
      have Q := hd (And.intro q1 (And.intro q2 h2k))
      rw [HE.out]
      clear h2 h2k hK2 hK3 q1 q2
      go_wp2_with fail
      go_quiet (first | (go_at_call 17; exact CQ.out _))
      go_wp2_with fail
      go_ret
      refine ⟨rfl, ⟨V, upd B (p.c + 1) false, ?_, HO.out.toss⟩, ?_⟩
      · have := Q.out.1.below (below_drewN' _ nq)
        rw [HC.out] at this ⊢
        exact cast (by simp only [outS, itossS, HC.out]; rfl) this
      · exact ((H1.out.2.trans Q.out.2.2).trans Q.out.2.1).trans (Q.out.1.kp (below_drewN' _ _))
    · go_wp2_with fail
      refine (mi_pop H1.out.1 0 rfl).mono ?_
      rintro e w2 ⟨rfl, h2, h2k⟩
      rw [FO_0] at h2
      obtain ⟨cur2, hK2⟩ := at_1 h2
      have c2 := hK2.cc
      have fc := frozen_row hK2.blk 8196
      rw [HC.out] at c2
      have hK3 := hK2.setC (c + 1)
      obtain ⟨q1, q2⟩ := once_set h2 (Fr.setCell (S := (· = g)) w2 ⟨g, 8196, none⟩ (.int .i64 ((c + 1 : Nat) : Int)) rfl) hK3
      rw [Int.natCast_add, Int.natCast_one] at hK3 q1 q2
      have c3 := hK3.cc
      have cx3 := hK3.cx
      rw [Int.natCast_add, Int.natCast_one] at c3
      have hpc : (ipopS p).c = c + 1 := by rw [ipopS, if_pos HH.out]; simp only; rw [HC.out]
      have CQ : Hid (∀ q, Calls Try.prog 17 #[.pointer (some ⟨x, 0, none⟩)] ((w2.setCell ⟨g, 8196, none⟩ (.int .i64 ((c : Int) + 1))).drewN q) fun e w' => e = .returned (.int .i64 ((c : Int) + 1)) ∧ ∃ z, w' = (w2.setCell ⟨g, 8196, none⟩ (.int .i64 ((c : Int) + 1))).drewN z) := by
        have := cum_quiet q1 (p := ipopS p) rfl
        rw [hpc, Int.natCast_add, Int.natCast_one] at this
        exact this
      have Q := hd (And.intro q1 (And.intro q2 h2k))
      have HP := hd hpc
      rw [HE.out]
      clear h2 h2k hK2 hK3 q1 q2 hpc
      go_wp2_with fail
      go_quiet (first | (go_at_call 17; exact CQ.out _))
      go_wp2_with fail
      go_ret
      refine ⟨rfl, ⟨V, B, ?_, HO.out.pop HH.out⟩, ?_⟩
      · have := Q.out.1.below (below_drewN' _ nq)
        show MO w0 _ K (FO x (ipopS p) g R V B (ipopS p).c)
        rw [HP.out]
        exact this
      · exact ((H1.out.2.trans Q.out.2.2).trans Q.out.2.1).trans (Q.out.1.kp (below_drewN' _ _))

end Go.Proofs.Ytpjnhjijipcjkaa
