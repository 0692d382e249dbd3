/-
  SpacePlays.
-/
import Derived.Test.YtmbnimlibnheeabDoorRk
namespace Go.Proofs.YtmbnimlibnheeabDoor
open Go.RowKit
set_option linter.unusedVariables false

/-- Two spaces of the program and two of the document. -/
structure P4 (w0 w : World) (K : Nat → Prop) (F : Nat → Thg) (x y v u : Nat) (p : Sp) (r : Rf) (p2 : Sp) (r2 : Rf) (n : Nat) : Prop where
  a : Pr w0 w K F 0 1 x y p r n
  b : Pr w0 w K F 2 3 v u p2 r2 n
theorem P4.box {w0 w : World} {K : Nat → Prop} {F : Nat → Thg} {x y v u : Nat} {p : Sp} {r : Rf} {p2 : Sp} {r2 : Rf} {n : Nat} (h : P4 w0 w K F x y v u p r p2 r2 n) (o : Obj) : P4 w0 (w.alloc o) (fun k => K k ∨ k = w.heap.size) F x y v u p r p2 r2 n :=
  ⟨⟨h.a.mo.box o, h.a.hi, h.a.hj, h.a.rel, h.a.own, h.a.far⟩, ⟨h.a.mo.box o, h.b.hi, h.b.hj, h.b.rel, h.b.own, h.b.far⟩⟩
theorem P4.less {w0 w : World} {K K' : Nat → Prop} {F : Nat → Thg} {x y v u : Nat} {p : Sp} {r : Rf} {p2 : Sp} {r2 : Rf} {n : Nat} (h : P4 w0 w K F x y v u p r p2 r2 n) (hK : ∀ k, K' k → K k) : P4 w0 w K' F x y v u p r p2 r2 n :=
  ⟨⟨h.a.mo.less hK, h.a.hi, h.a.hj, h.a.rel, h.a.own, h.a.far⟩, ⟨h.a.mo.less hK, h.b.hi, h.b.hj, h.b.rel, h.b.own, h.b.far⟩⟩
theorem P4.below {w0 w w' : World} {K : Nat → Prop} {F : Nat → Thg} {x y v u : Nat} {p : Sp} {r : Rf} {p2 : Sp} {r2 : Rf} {n : Nat} (h : P4 w0 w K F x y v u p r p2 r2 n) (hb : Below w.heap.size w w') : P4 w0 w' K F x y v u p r p2 r2 n :=
  ⟨⟨h.a.mo.below hb, h.a.hi, h.a.hj, h.a.rel, h.a.own, h.a.far⟩, ⟨h.a.mo.below hb, h.b.hi, h.b.hj, h.b.rel, h.b.own, h.b.far⟩⟩
def PX (w0 w : World) (K : Nat → Prop) (x y v u n : Nat) : Prop := ∃ F p r p2 r2, P4 w0 w K F x y v u p r p2 r2 n
theorem P4.first {w0 w w' : World} {K : Nat → Prop} {F : Nat → Thg} {x y v u : Nat} {p : Sp} {r : Rf} {p2 : Sp} {r2 : Rf} {n : Nat} (h : P4 w0 w K F x y v u p r p2 r2 n) (hS : RS w0 w w' K F 0 1 x y n) : KP K w w' ∧ PX w0 w' K x y v u (n + 1) := by
  obtain ⟨hk, p', r', hP⟩ := hS
  exact ⟨hk, _, p', r', p2, r2, hP, hP.mo, by rw [setO_other _ _ (by omega), setO_other _ _ (by omega)]; exact h.b.hi, by rw [setO_other _ _ (by omega), setO_other _ _ (by omega)]; exact h.b.hj, h.b.rel, Nat.le_succ_of_le h.b.own, Nat.le_succ_of_le h.b.far⟩
theorem P4.second {w0 w w' : World} {K : Nat → Prop} {F : Nat → Thg} {x y v u : Nat} {p : Sp} {r : Rf} {p2 : Sp} {r2 : Rf} {n : Nat} (h : P4 w0 w K F x y v u p r p2 r2 n) (hS : RS w0 w w' K F 2 3 v u n) : KP K w w' ∧ PX w0 w' K x y v u (n + 1) := by
  obtain ⟨hk, p', r', hP⟩ := hS
  exact ⟨hk, _, p, r, p', r', ⟨hP.mo, by rw [setO_other _ _ (by omega), setO_other _ _ (by omega)]; exact h.a.hi, by rw [setO_other _ _ (by omega), setO_other _ _ (by omega)]; exact h.a.hj, h.a.rel, Nat.le_succ_of_le h.a.own, Nat.le_succ_of_le h.a.far⟩, hP⟩

set_option maxRecDepth 100000 in
set_option maxHeartbeats 8000000 in
theorem spacePlays_any (fa fb : Bool) (a : Option Addr) (N c : Nat) (X : Nat → LV) (w : World) (hT : Table w) (hX : IsL w a N c X) (hO : OkL X) :
    Calls Tryd.prog 4 #[.bool fa, .bool fb, .slice a N c] w fun e w' => e = .returned (.bool true) ∧ Below w.heap.size w w' := by
  have hN1 := hX.1
  have hN2 := hX.2.1
  have HX := hd hX
  have HO := hd hO
  clear hX hO
  go_enter Tryd.func4, Tryd.ntmps4
  go_wp2_with fail
  refine (mo_new (MO.nil w) 0 fa).mono ?_
  rintro e w1 ⟨x, rfl, M1, b1⟩
  go_wp2_with fail
  refine (mr_new M1 1 fa).mono ?_
  rintro e w2 ⟨y, rfl, M2, b2⟩
  go_wp2_with fail
  refine (mo_new M2 2 fb).mono ?_
  rintro e w3 ⟨v, rfl, M3, b3⟩
  go_wp2_with fail
  refine (mr_new M3 3 fb).mono ?_
  rintro e w4 ⟨u, rfl, M4, b4⟩
  have S0 : Hid (PX w w4 NoK x y v u 0) := ⟨_, ⟨fa, [], 0⟩, ⟨fa, [], [], 0⟩, ⟨fb, [], 0⟩, ⟨fb, [], [], 0⟩, ⟨M4, by rw [setO_other _ _ (by omega), setO_other _ _ (by omega), setO_other _ _ (by omega), setO_same], by rw [setO_other _ _ (by omega), setO_other _ _ (by omega), setO_same], Rel.start fa, by simp, by simp⟩, ⟨M4, by rw [setO_other _ _ (by omega), setO_same], by rw [setO_same], Rel.start fb, by simp, by simp⟩⟩
  clear M1 M2 M3 M4 b1 b2 b3 b4
  go_wp2
  go_loopw [11] (fun i wr => ∃ k : Nat, k ≤ N ∧ k ≤ 240 ∧ i = .int .i64 k ∧ Hid (PX w wr NoK x y v u k)) (fun i _ => N - (intOf i).toNat)
  case atStart => exact ⟨0, Nat.zero_le _, by omega, rfl, S0⟩
  case round =>
    obtain ⟨k, hk, hk2, rfl, hI⟩ := hrel
    clear S0
    obtain ⟨F, p, r, p2, r2, hP⟩ := hI.out
    have HP := hd hP
    have hbel := hP.a.mo.base
    clear hI
    by_cases hlt : k < N ∧ k < 240
    · obtain ⟨hl1, hl2⟩ := hlt
      obtain ⟨b, off, rfl, hbl, hcs⟩ := HX.out.2.2 (by omega)
      obtain ⟨m0, m1, m2, m3, m4, m5, m6, m7⟩ := hcs k hl1
      have n0 := (hbel.cell (p := ⟨b, off + k * 8, none⟩) hbl).trans m0
      have n1 := (hbel.cell (p := ⟨b, off + k * 8 + 1, none⟩) hbl).trans m1
      have n2 := (hbel.cell (p := ⟨b, off + k * 8 + 2, none⟩) hbl).trans m2
      have n3 := (hbel.cell (p := ⟨b, off + k * 8 + 3, none⟩) hbl).trans m3
      have n4 := (hbel.cell (p := ⟨b, off + k * 8 + 4, none⟩) hbl).trans m4
      have n5 := (hbel.cell (p := ⟨b, off + k * 8 + 5, none⟩) hbl).trans m5
      have n6 := (hbel.cell (p := ⟨b, off + k * 8 + 6, none⟩) hbl).trans m6
      have n7 := (hbel.cell (p := ⟨b, off + k * 8 + 7, none⟩) hbl).trans m7
      have hbr := Nat.lt_of_lt_of_le hbl hbel.size
      have ho := HO.out k
      generalize X k = Xk at *
      obtain ⟨kd, wh, m, o⟩ := Xk
      simp only [] at n0 n1 n2 n3 n4 n5 n6 n7 ho
      have HOO := hd ho
      obtain ⟨ok, op, oc, ol, oq⟩ := o
      simp only [] at n3 n4 n5 n6 n7
      have P1 := hd (HP.out.box (.cells #[.int .i64 kd, .bool wh, .int .i64 m, .int .i64 ok, .int .i64 op, .int .u8 oc, .int .i64 ol, .int .i64 oq] 51))
      have X1 := hd (heap_alloc_new wr (.cells #[.int .i64 kd, .bool wh, .int .i64 m, .int .i64 ok, .int .i64 op, .int .u8 oc, .int .i64 ol, .int .i64 oq] 51))
      have i1 : (k : Int) < (N : Int) := by omega
      have i2 : (k : Int) < 240 := by omega
      clear hcs m0 m1 m2 m3 m4 m5 m6 m7 hbl ho hP hbel
      cases wh with
      | false =>
        go_wp2_with fail
        refine (step_any w _ F 0 1 x y p r k _ P1.out.a (by omega) (by omega) hT kd m false ⟨ok, op, oc, ol, oq⟩ HOO.out).mono ?_
        rintro e w2 ⟨rfl, hS⟩
        obtain ⟨hk1, hP2⟩ := P4.first P1.out hS.out
        have X2 := (hk1 _ (.inr rfl)).trans X1.out
        obtain ⟨-, y1, -⟩ := cells8 X2
        have l2 := block_lt X2
        have Z : Hid (PX w w2 NoK x y v u (k + 1)) := by
          obtain ⟨F', p', r', p2', r2', h⟩ := hP2
          exact ⟨F', p', r', p2', r2', h.less (fun j hj => hj.elim)⟩
        clear hS hk1 hP2 X2
        go_wp2
        exact ⟨⟨k + 1, by omega, by omega, by go_num, Z⟩, by simp [intOf]; omega⟩
      | true =>
        go_wp2_with fail
        refine (step_any w _ F 2 3 v u p2 r2 k _ P1.out.b (by omega) (by omega) hT kd m true ⟨ok, op, oc, ol, oq⟩ HOO.out).mono ?_
        rintro e w2 ⟨rfl, hS⟩
        obtain ⟨hk1, hP2⟩ := P4.second P1.out hS.out
        have Z : Hid (PX w w2 NoK x y v u (k + 1)) := by
          obtain ⟨F', p', r', p2', r2', h⟩ := hP2
          exact ⟨F', p', r', p2', r2', h.less (fun j hj => hj.elim)⟩
        clear hS hk1 hP2
        go_wp2
        exact ⟨⟨k + 1, by omega, by omega, by go_num, Z⟩, by simp [intOf]; omega⟩
    · by_cases hl1 : k < N
      · obtain rfl : k = 240 := by omega
        have i1 : (240 : Int) < (N : Int) := by omega
        clear hlt
        obtain ⟨la, hla⟩ : ∃ l, r.last = l := ⟨_, rfl⟩
        obtain ⟨lb, hlb⟩ : ∃ l, r2.last = l := ⟨_, rfl⟩
        have HA := hd (And.intro hla (HP.out.a.rel.last.trans hla))
        have HB := hd (And.intro hlb (HP.out.b.rel.last.trans hlb))
        have bo : r.own.length ≤ 10000 ∧ r.far.length ≤ 10000 ∧ r2.own.length ≤ 10000 ∧ r2.far.length ≤ 10000 := by
          have := hP.a.own; have := hP.a.far; have := hP.b.own; have := hP.b.far
          omega
        have HBO := hd bo
        clear hla hlb hbel hP bo
        go_wp2_with fail
        have C1 := mo_last HP.out.a.mo 0 HP.out.a.hi
        rw [HA.out.2] at C1
        refine C1.mono ?_
        rintro e wr ⟨rfl, rfl⟩
        clear C1
        go_wp2_with fail
        have C2 := mr_last HP.out.a.mo 1 HP.out.a.hj
        rw [HA.out.1] at C2
        refine C2.mono ?_
        rintro e w2 ⟨rfl, b2⟩
        have HP2 := hd (HP.out.below b2)
        clear C2 b2
        go_wp2_with fail
        have C3 := mo_last HP2.out.a.mo 2 HP2.out.b.hi
        rw [HB.out.2] at C3
        refine C3.mono ?_
        rintro e w2 ⟨rfl, rfl⟩
        clear C3
        go_wp2_with fail
        have C4 := mr_last HP2.out.a.mo 3 HP2.out.b.hj
        rw [HB.out.1] at C4
        refine C4.mono ?_
        rintro e w3 ⟨rfl, b3⟩
        have HP3 := hd (HP2.out.below b3)
        clear C4 b3 HP2
        go_wp2_with fail
        refine (mb_queue HP3.out.a.mo 0 HP3.out.a.hi).mono ?_
        rintro e w4 ⟨u4, rfl, h4, b4⟩
        have HP4 := hd (HP3.out.below b4)
        obtain ⟨g4, c4, rfl, hR4, -, k4, k4'⟩ := h4.form
        have HK4 := hd hR4.isK
        clear h4 b4 hR4 HP3
        go_wp2_with fail
        refine (mr_queue HP4.out.a.mo 1 HP4.out.a.hj HBO.out.1 HBO.out.2.1).mono ?_
        rintro e w5 ⟨u5, rfl, h5, b5⟩
        obtain ⟨a5, c5, rfl, q5, k5, k5'⟩ := h5.isK
        rw [← HP4.out.a.rel.queue] at q5 k5' ⊢
        have HK5 := hd (And.intro (HK4.out.below b5 (Nat.le_refl _)) q5)
        have HP5 := hd (HP4.out.below b5)
        clear h5 b5 q5 HP4 HK4
        go_wp2_with fail
        refine (queues_true _ _ _ _ _ _ _ HK5.out.1 HK5.out.2).mono ?_
        rintro e w6 ⟨rfl, b6⟩
        have HP6 := hd (HP5.out.below b6)
        clear b6 HP5 HK5
        go_wp2_with fail
        refine (mb_queue HP6.out.a.mo 2 HP6.out.b.hi).mono ?_
        rintro e w7 ⟨u7, rfl, h7, b7⟩
        have HP7 := hd (HP6.out.below b7)
        obtain ⟨g7, c7, rfl, hR7, -, k7, k7'⟩ := h7.form
        have HK7 := hd hR7.isK
        clear h7 b7 hR7 HP6
        go_wp2_with fail
        refine (mr_queue HP7.out.a.mo 3 HP7.out.b.hj HBO.out.2.2.1 HBO.out.2.2.2).mono ?_
        rintro e w8 ⟨u8, rfl, h8, b8⟩
        obtain ⟨a8, c8, rfl, q8, k8, k8'⟩ := h8.isK
        rw [← HP7.out.b.rel.queue] at q8 k8' ⊢
        have HK8 := hd (And.intro (HK7.out.below b8 (Nat.le_refl _)) q8)
        have HP8 := hd (HP7.out.below b8)
        clear h8 b8 q8 HP7 HK7
        go_wp2_with fail
        refine (queues_true _ _ _ _ _ _ _ HK8.out.1 HK8.out.2).mono ?_
        rintro e w9 ⟨rfl, b9⟩
        have Z := hd (HP8.out.below b9).a.mo.base
        clear b9 HP8 HK8
        go_wp2
        go_ret
        exact ⟨rfl, Z.out⟩
      · obtain rfl : k = N := by omega
        clear hlt
        obtain ⟨la, hla⟩ : ∃ l, r.last = l := ⟨_, rfl⟩
        obtain ⟨lb, hlb⟩ : ∃ l, r2.last = l := ⟨_, rfl⟩
        have HA := hd (And.intro hla (HP.out.a.rel.last.trans hla))
        have HB := hd (And.intro hlb (HP.out.b.rel.last.trans hlb))
        have bo : r.own.length ≤ 10000 ∧ r.far.length ≤ 10000 ∧ r2.own.length ≤ 10000 ∧ r2.far.length ≤ 10000 := by
          have := hP.a.own; have := hP.a.far; have := hP.b.own; have := hP.b.far
          omega
        have HBO := hd bo
        clear hla hlb hbel hP bo
        go_wp2_with fail
        have C1 := mo_last HP.out.a.mo 0 HP.out.a.hi
        rw [HA.out.2] at C1
        refine C1.mono ?_
        rintro e wr ⟨rfl, rfl⟩
        clear C1
        go_wp2_with fail
        have C2 := mr_last HP.out.a.mo 1 HP.out.a.hj
        rw [HA.out.1] at C2
        refine C2.mono ?_
        rintro e w2 ⟨rfl, b2⟩
        have HP2 := hd (HP.out.below b2)
        clear C2 b2
        go_wp2_with fail
        have C3 := mo_last HP2.out.a.mo 2 HP2.out.b.hi
        rw [HB.out.2] at C3
        refine C3.mono ?_
        rintro e w2 ⟨rfl, rfl⟩
        clear C3
        go_wp2_with fail
        have C4 := mr_last HP2.out.a.mo 3 HP2.out.b.hj
        rw [HB.out.1] at C4
        refine C4.mono ?_
        rintro e w3 ⟨rfl, b3⟩
        have HP3 := hd (HP2.out.below b3)
        clear C4 b3 HP2
        go_wp2_with fail
        refine (mb_queue HP3.out.a.mo 0 HP3.out.a.hi).mono ?_
        rintro e w4 ⟨u4, rfl, h4, b4⟩
        have HP4 := hd (HP3.out.below b4)
        obtain ⟨g4, c4, rfl, hR4, -, k4, k4'⟩ := h4.form
        have HK4 := hd hR4.isK
        clear h4 b4 hR4 HP3
        go_wp2_with fail
        refine (mr_queue HP4.out.a.mo 1 HP4.out.a.hj HBO.out.1 HBO.out.2.1).mono ?_
        rintro e w5 ⟨u5, rfl, h5, b5⟩
        obtain ⟨a5, c5, rfl, q5, k5, k5'⟩ := h5.isK
        rw [← HP4.out.a.rel.queue] at q5 k5' ⊢
        have HK5 := hd (And.intro (HK4.out.below b5 (Nat.le_refl _)) q5)
        have HP5 := hd (HP4.out.below b5)
        clear h5 b5 q5 HP4 HK4
        go_wp2_with fail
        refine (queues_true _ _ _ _ _ _ _ HK5.out.1 HK5.out.2).mono ?_
        rintro e w6 ⟨rfl, b6⟩
        have HP6 := hd (HP5.out.below b6)
        clear b6 HP5 HK5
        go_wp2_with fail
        refine (mb_queue HP6.out.a.mo 2 HP6.out.b.hi).mono ?_
        rintro e w7 ⟨u7, rfl, h7, b7⟩
        have HP7 := hd (HP6.out.below b7)
        obtain ⟨g7, c7, rfl, hR7, -, k7, k7'⟩ := h7.form
        have HK7 := hd hR7.isK
        clear h7 b7 hR7 HP6
        go_wp2_with fail
        refine (mr_queue HP7.out.a.mo 3 HP7.out.b.hj HBO.out.2.2.1 HBO.out.2.2.2).mono ?_
        rintro e w8 ⟨u8, rfl, h8, b8⟩
        obtain ⟨a8, c8, rfl, q8, k8, k8'⟩ := h8.isK
        rw [← HP7.out.b.rel.queue] at q8 k8' ⊢
        have HK8 := hd (And.intro (HK7.out.below b8 (Nat.le_refl _)) q8)
        have HP8 := hd (HP7.out.below b8)
        clear h8 b8 q8 HP7 HK7
        go_wp2_with fail
        refine (queues_true _ _ _ _ _ _ _ HK8.out.1 HK8.out.2).mono ?_
        rintro e w9 ⟨rfl, b9⟩
        have Z := hd (HP8.out.below b9).a.mo.base
        clear b9 HP8 HK8
        go_wp2
        go_ret
        exact ⟨rfl, Z.out⟩

end Go.Proofs.YtmbnimlibnheeabDoor
