/-
  OutboxAcks.
-/
import Derived.Test.YtocpfioifamkmaaAh
namespace Go.Proofs.Ytocpfioifamkmaa
open Go.RowKit
set_option linter.unusedVariables false

theorem opcells {w : World} {g : Nat} {a b c : Value} {t : TypeId} (h : w.heap[g]? = some (.cells #[a, b, c] t (0, 0))) : w.cell? ⟨g, 0, none⟩ = some a ∧ w.cell? ⟨g, 1, none⟩ = some b ∧ w.cell? ⟨g, 2, none⟩ = some c :=
  ⟨cell_row h 0, cell_row h 1, cell_row h 2⟩

/-- The outbox and the step in a block of its own. -/
def BO (w0 w : World) (x : Nat) (p : St) (g : Nat) (o : OpV) : Prop := BX w0 w x p (· = g) ∧ w.heap[g]? = some (.cells #[.int .i64 o.kind, .int .i64 o.site, .int .i64 o.n] 32 (0, 0))
theorem BO.step {w0 w w' : World} {x : Nat} {p p' : St} {g : Nat} {o : OpV} (h : BO w0 w x p g o) (h1 : BX w0 w' x p' (· = g)) (h2 : KP (· = g) w w') : BO w0 w' x p' g o := ⟨h1, (h2 g rfl).trans h.2⟩

theorem bo_made {w0 w : World} {x : Nat} {p : St} (h : BX w0 w x p NoK) (k s n : Int) : BO w0 (w.alloc (.cells #[.int .i64 k, .int .i64 s, .int .i64 n] 32)) x p w.heap.size ⟨k, s, n⟩ :=
  ⟨h.adds ((Below.refl _ _).alloc (Nat.le_refl _) _) (fun k hk => .inr (by omega)) (fun k hk => by rw [hk]; simp), heap_alloc_new _ _⟩
theorem BO.cells {w0 w : World} {x : Nat} {p : St} {g : Nat} {o : OpV} (h : BO w0 w x p g o) : w.cell? ⟨g, 0, none⟩ = some (.int .i64 o.kind) ∧ w.cell? ⟨g, 1, none⟩ = some (.int .i64 o.site) ∧ w.cell? ⟨g, 2, none⟩ = some (.int .i64 o.n) := opcells h.2
theorem bo_last {w0 w : World} {x : Nat} {p : St} {g : Nat} {o : OpV} (h : BO w0 w x p g o) : Calls Try.prog 14 #[.pointer (some ⟨x, 0, none⟩)] w fun e w' => e = .returned (.int .i64 p.last) ∧ BO w0 w' x p g o := by
  refine (bx_last h.1).mono ?_
  rintro e w' ⟨rfl, h1, h2⟩
  exact ⟨rfl, h.step h1 h2⟩
theorem bo_ack {w0 w : World} {x : Nat} {p : St} {g : Nat} {o : OpV} (h : BO w0 w x p g o) (n : Int) : Calls Try.prog 15 #[.pointer (some ⟨x, 0, none⟩), .int .i64 n] w fun e w' => e = .returned (.int .i64 (ackE p n)) ∧ BO w0 w' x (ackS p n) g o := by
  refine (bx_ack h.1 n).mono ?_
  rintro e w' ⟨rfl, h1, h2⟩
  exact ⟨rfl, h.step h1 h2⟩
theorem actS_s (p : St) (k n : Int) (h2 : k ≠ 2) (h3 : k ≠ 3) (h8 : k ≠ 8) : (actS p k n).s = p.s := by
  unfold actS
  split
  · unfold pushS; split <;> rfl
  · rfl
theorem ackS_s (p : St) (n : Int) : (ackS p n).s = p.s := by unfold ackS; split <;> rfl

theorem dueL_len (p : St) (h : p.ok) : (dueL p).length = dueN p := by
  unfold dueL
  rw [items_len]
  simp [dueN]
theorem due_nth (p : St) (m : Nat) (hm : m < dueN p) : ∃ y, (dueL p)[m]? = some ((p.a : Int) + m + 1, y) := by
  have hl : dueN p ≤ p.L.length := by simp [dueN]; omega
  have hml : m < (p.L.take (dueN p)).length := by simp; omega
  refine ⟨(p.L.take (dueN p))[m], ?_⟩
  unfold dueL
  rw [items_get p.a _ m hml]
  congr 2
  omega

set_option maxRecDepth 100000 in
set_option maxHeartbeats 16000000 in
theorem outboxAcks_any (a0 : Option Addr) (n0 c0 : Nat) (X : Nat → Int) (a1 : Option Addr) (n1 c1 : Nat) (O : Nat → OpV) (w : World) (hI : IsI w a0 n0 c0 X) (hS : IsS w a1 n1 c1 O) :
    Calls Try.prog 3 #[.slice a0 n0 c0, .slice a1 n1 c1] w fun e w' => e = .returned (.bool true) ∧ Below w.heap.size w w' := by
  have HI := hd hI
  have HS := hd hS
  have n0c := hI.1
  have n0m := hI.2.1
  have n1c := hS.1
  have n1m := hS.2.1
  clear hI hS
  go_enter Try.func3, Try.ntmps3
  go_wp2_with fail
  refine (bx_new 4 w (by omega) (by omega)).mono ?_
  rintro e w1 ⟨x, rfl, h1⟩
  have S0 : Hid (∃ L : List Int, L.length = 0 ∧ BX w w1 x ⟨4, 0, 0, L⟩ NoK) := ⟨[], rfl, h1⟩
  clear h1
  go_wp2_with fail
  refine (num_any 0 w1).mono ?_
  rintro e w2 ⟨rfl, rfl⟩
  go_wp2_with fail
  go_loopw [7] (fun v wr => ∃ k : Nat, k ≤ n0 ∧ k ≤ 4096 ∧ v = .int .i64 k ∧ Hid (∃ L : List Int, L.length = k ∧ BX w wr x ⟨4, 0, 0, L⟩ NoK)) (fun v _ => 4096 - (intOf v).toNat)
  case atStart => exact ⟨0, Nat.zero_le _, by omega, rfl, S0⟩
  case round =>
    obtain ⟨k, hk, hk4, rfl, HG⟩ := hrel
    clear S0
    go_upto_region 5 with fail
    go_cut [37] (fun v wx => v = .bool (decide ((k : Int) < (n0 : Int) ∧ (k : Int) < 4096)) ∧ wx = wr)
    case first =>
      clear HG HI HS
      by_cases i1 : (k : Int) < (n0 : Int) <;> by_cases i2 : (k : Int) < 4096
      all_goals
        go_wp2_with fail
        go_meet
        refine ⟨?_, rfl⟩
        simp at i1 i2
        simp
        try omega
    case rest =>
    obtain ⟨rfl, hwc⟩ := hcut
    subst hwc
    by_cases hlt : k < n0 ∧ k < 4096
    · rw [decide_eq_true (by omega)]
      obtain ⟨L, hL, hB⟩ := HG.out
      obtain ⟨b, off, rfl, -, hc⟩ := (HI.out.below hB.base (Nat.le_refl _)).2.2 (by omega)
      have ck := hc k hlt.1
      generalize X k = y at ck
      have HL := hd hL
      have HB := hd hB
      have i1 : (k : Int) < (n0 : Int) := by omega
      have i2 : (k : Int) < 4096 := by omega
      have i3 : k < n0 := hlt.1
      clear hL hB hc hlt HG
      go_wp2_with fail
      refine (bx_push HB.out y).mono ?_
      rintro e w3 ⟨rfl, h3, -⟩
      have e1 : ¬ 4096 ≤ (⟨4, 0, 0, L⟩ : St).last := by simp [St.last, HL.out]; omega
      have e2 : pushN ⟨4, 0, 0, L⟩ = (k : Int) + 1 := by rw [pushN, if_neg e1]; simp [St.last, HL.out]
      have e3 : pushE ⟨4, 0, 0, L⟩ = 0 := by rw [pushE, if_neg e1]
      rw [pushS, if_neg e1] at h3
      rw [e2, e3]
      have Z : Hid (∃ L : List Int, L.length = k + 1 ∧ BX w w3 x ⟨4, 0, 0, L⟩ NoK) := ⟨_, by simp [HL.out], h3⟩
      clear e1 e2 e3 h3
      go_wp2_with fail
      refine (num_any 0 w3).mono ?_
      rintro e w4 ⟨rfl, rfl⟩
      go_wp2_with fail
      exact ⟨⟨k + 1, by omega, by omega, by go_num, Z⟩, by simp [intOf]; omega⟩
    · rw [decide_eq_false (by omega)]
      obtain ⟨L, hL, hB⟩ := HG.out
      have T0 : Hid (∃ p, BX w wc x p NoK ∧ (p.s : Int) = 0) := ⟨_, hB, rfl⟩
      clear hL hB HG hlt
      go_wp2_with fail
      go_loopw [10, 11] (fun vt vi wr => ∃ i : Nat, i ≤ n1 ∧ vi = .int .i64 i ∧ ∃ t : Nat, vt = .int .i64 t ∧ Hid (∃ p, BX w wr x p NoK ∧ (p.s : Int) = t)) (fun _ vi _ => n1 - (intOf vi).toNat)
      case atStart => exact ⟨0, Nat.zero_le _, rfl, 0, rfl, T0⟩
      case round =>
        obtain ⟨i, hi, rfl, t, rfl, HT⟩ := hrel
        clear T0 HI
        by_cases hlt : i < n1
        · obtain ⟨p, hB, hps⟩ := HT.out
          obtain ⟨b, off, rfl, -, hc⟩ := (HS.out.below hB.base (Nat.le_refl _)).2.2 (by omega)
          obtain ⟨k0, k1, k2⟩ := hc i hlt
          generalize O i = o at k0 k1 k2
          obtain ⟨ko, so, no⟩ := o
          simp only at k0 k1 k2
          have HB := hd hB
          have HP := hd hps
          have i1 : (i : Int) < (n1 : Int) := by omega
          clear hB hps hc HT
          go_wp2_with fail
          have O1 := hd (bo_made HB.out ko so no)
          refine (bx_acked O1.out.1).mono ?_
          rintro e w3 ⟨rfl, hw3⟩
          rw [← hw3] at O1
          clear HB hw3 k0 k1 k2
          go_wp2_with fail
          refine (bx_sent O1.out.1).mono ?_
          rintro e w4 ⟨rfl, rfl⟩
          go_wp2_with fail
          refine (bo_last O1.out).mono ?_
          rintro e w5 ⟨rfl, h5⟩
          obtain ⟨q0, q1, q2⟩ := h5.cells
          simp only at q0 q1 q2
          have O2 := hd h5
          clear O1 h5
          have tt := HP.out
          rw [show p.s = t by omega]
          have hok := O2.out.1.ok
          have b1 := hok.le
          have b2 := hok.sl
          have b3 := hok.few
          obtain ⟨a, ha⟩ : ∃ a, p.a = a := ⟨_, rfl⟩
          obtain ⟨l, hl⟩ : ∃ l, p.last = l := ⟨_, rfl⟩
          have hal : a ≤ l ∧ l ≤ 4096 ∧ a ≤ t ∧ t ≤ l := by unfold St.last at hl; omega
          rw [ha, hl]
          have HA := hd (And.intro ha (And.intro hl tt))
          have HO := hd hok
          clear ha hl hok b1 b2 b3 tt HP
          by_cases h3 : ko = 3
          · subst h3
            go_wp2_with fail
            refine (bo_ack O2.out no).mono ?_
            rintro e w6 ⟨rfl, h6⟩
            obtain ⟨q0, q1, q2⟩ := h6.cells
            simp only at q0 q1 q2
            have hs6 : ((ackS p no).s : Int) = t := by rw [ackS_s]; exact HA.out.2.2
            have hl6 : (ackS p no).last = l := by rw [ackS_last HO.out]; exact HA.out.2.1
            have hE : (ackE p no = 82 ∧ (no < 0 ∨ (t : Int) < no) ∧ (ackS p no).a = a) ∨ (ackE p no = 0 ∧ ¬ no < 0 ∧ ¬ (t : Int) < no ∧ (((a : Int) < no ∧ ((ackS p no).a : Int) = no) ∨ (¬ (a : Int) < no ∧ (ackS p no).a = a))) := by
              obtain ⟨g1, g2, g3⟩ := HA.out
              unfold ackE ackS
              by_cases hx : no < 0 ∨ (p.s : Int) < no
              · rw [if_pos hx, if_neg (by omega)]
                exact .inl ⟨rfl, by omega, g1⟩
              · rw [if_neg hx]
                refine .inr ⟨rfl, by omega, by omega, ?_⟩
                by_cases hy : (p.a : Int) < no
                · rw [if_pos (by omega)]
                  exact .inl ⟨by omega, by simp; omega⟩
                · rw [if_neg (by omega)]
                  exact .inr ⟨by omega, g1⟩
            obtain ⟨a', ha'⟩ : ∃ a', (ackS p no).a = a' := ⟨_, rfl⟩
            rw [ha'] at hE
            generalize ackS p no = p6 at h6 hs6 hl6 ha'
            generalize ackE p no = e6 at hE
            have O6 := hd h6
            have H6 := hd (And.intro hs6 (And.intro hl6 ha'))
            have Z : Hid (∀ w7, BO w w7 x p6 wr.heap.size ⟨3, so, no⟩ → ∃ p, BX w w7 x p NoK ∧ (p.s : Int) = t) := fun w7 h7 => ⟨p6, h7.1.free, hs6⟩
            clear h6 hs6 hl6 ha' O2 HO HA q0 q1 hal
            go_wp2_with fail
            refine (num_any e6 w6).mono ?_
            rintro e w7 ⟨rfl, rfl⟩
            rcases hE with ⟨rfl, hE | hE, rfl⟩ | ⟨rfl, g1, g2, ⟨g3, hE⟩ | ⟨g3, rfl⟩⟩
            · have g1 : ¬ (0 : Int) ≤ no := by omega
              go_wp2_with fail
              refine (bx_acked O6.out.1).mono ?_
              rintro e w8 ⟨rfl, rfl⟩
              rw [H6.out.2.2]
              go_wp2_with fail
              refine (bx_sent O6.out.1).mono ?_
              rintro e w8 ⟨rfl, rfl⟩
              rw [H6.out.1]
              go_wp2_with fail
              refine (bo_last O6.out).mono ?_
              rintro e w8 ⟨rfl, h8⟩
              rw [H6.out.2.1]
              have Y := hd (Z.out _ h8)
              clear h8 O6 Z
              go_wp2_with fail
              exact ⟨⟨i + 1, by omega, by go_num, t, rfl, Y⟩, by simp [intOf]; omega⟩
            · have g1 : (0 : Int) ≤ no := by omega
              have g2 : ¬ no ≤ (t : Int) := by omega
              go_wp2_with fail
              refine (bx_acked O6.out.1).mono ?_
              rintro e w8 ⟨rfl, rfl⟩
              rw [H6.out.2.2]
              go_wp2_with fail
              refine (bx_sent O6.out.1).mono ?_
              rintro e w8 ⟨rfl, rfl⟩
              rw [H6.out.1]
              go_wp2_with fail
              refine (bo_last O6.out).mono ?_
              rintro e w8 ⟨rfl, h8⟩
              rw [H6.out.2.1]
              have Y := hd (Z.out _ h8)
              clear h8 O6 Z
              go_wp2_with fail
              exact ⟨⟨i + 1, by omega, by go_num, t, rfl, Y⟩, by simp [intOf]; omega⟩
            · have g4 : (0 : Int) ≤ no := by omega
              have g5 : no ≤ (t : Int) := by omega
              go_wp2_with fail
              refine (bx_acked O6.out.1).mono ?_
              rintro e w8 ⟨rfl, rfl⟩
              rw [H6.out.2.2, hE]
              go_wp2_with fail
              refine (bx_sent O6.out.1).mono ?_
              rintro e w8 ⟨rfl, rfl⟩
              rw [H6.out.1]
              go_wp2_with fail
              refine (bo_last O6.out).mono ?_
              rintro e w8 ⟨rfl, h8⟩
              rw [H6.out.2.1]
              have Y := hd (Z.out _ h8)
              clear h8 O6 Z
              go_wp2_with fail
              exact ⟨⟨i + 1, by omega, by go_num, t, rfl, Y⟩, by simp [intOf]; omega⟩
            · have g4 : (0 : Int) ≤ no := by omega
              have g5 : no ≤ (t : Int) := by omega
              go_wp2_with fail
              refine (bx_acked O6.out.1).mono ?_
              rintro e w8 ⟨rfl, rfl⟩
              rw [H6.out.2.2]
              go_wp2_with fail
              refine (bx_sent O6.out.1).mono ?_
              rintro e w8 ⟨rfl, rfl⟩
              rw [H6.out.1]
              go_wp2_with fail
              refine (bo_last O6.out).mono ?_
              rintro e w8 ⟨rfl, h8⟩
              rw [H6.out.2.1]
              have Y := hd (Z.out _ h8)
              clear h8 O6 Z
              go_wp2_with fail
              exact ⟨⟨i + 1, by omega, by go_num, t, rfl, Y⟩, by simp [intOf]; omega⟩
          by_cases h2 : ko = 2
          · subst h2
            have hdl := dueL_len p HO.out
            have hds : ((dueS p).s : Int) = max (t : Int) ((a : Int) + dueN p) := by
              obtain ⟨g1, g2, g3⟩ := HA.out
              simp [dueS]
              omega
            have hz : (dueN p = 0 → a = l) ∧ a + dueN p ≤ l := by
              obtain ⟨g1, g2, g3⟩ := HA.out
              have := HO.out.w1
              unfold St.last at g2
              have e : dueN p = min p.W p.L.length := rfl
              omega
            have hlast : ∀ m, dueN p = m + 1 → ∃ y, (dueL p)[m]? = some ((a : Int) + m + 1, y) := by
              intro m hm
              obtain ⟨y, hy⟩ := due_nth p m (by omega)
              rw [HA.out.1] at hy
              exact ⟨y, hy⟩
            obtain ⟨d, hdd⟩ : ∃ d, dueN p = d := ⟨_, rfl⟩
            go_wp2_with fail
            refine (bx_due O2.out.1).mono ?_
            rintro e w6 ⟨u, rfl, h6, h7, -⟩
            rw [hdd] at hdl hds hz hlast
            have Z : Hid (∃ p, BX w w6 x p NoK ∧ (p.s : Int) = max (t : Int) ((a : Int) + d)) := ⟨_, h7.free, hds⟩
            obtain ⟨g, c, rfl, hR, -, hc1, hc2⟩ := h6.form
            rw [hdl] at hR hc2 ⊢
            have HR := hd hR
            clear hR h6 h7 hds O2 HO HA hdd q0 q1 q2
            rcases d with _ | m
            · obtain rfl : a = l := hz.1 rfl
              have Y : Hid (∃ p, BX w w6 x p NoK ∧ (p.s : Int) = t) := by
                obtain ⟨p, h1, h2⟩ := Z.out
                exact ⟨p, h1, by omega⟩
              clear Z HR hlast hz hdl
              go_wp2_with fail
              exact ⟨⟨i + 1, by omega, by go_num, t, rfl, Y⟩, by simp [intOf]; omega⟩
            · obtain ⟨y, hy⟩ := hlast m rfl
              have hml : m < (dueL p).length := by omega
              have cm : w6.cell? ⟨g, m * 2, none⟩ = some (.int .i64 ((a : Int) + m + 1)) := by
                have h1 := HR.out.cell sz_it m 0 hml (by omega)
                rw [List.getElem?_eq_getElem hml] at hy
                injection hy with hy
                rw [hy] at h1
                simpa [it] using h1
              have hw : IntKind.i64.wrap ((m : Int) + 1 - 1) = (m : Int) := by rw [IntKind.wrap_i64]; omega
              have hz2 := hz.2
              clear hlast hdl hy HR hz hml
              by_cases hg : (t : Int) < (a : Int) + m + 1
              · have Y : Hid (∃ p, BX w w6 x p NoK ∧ (p.s : Int) = (a + m + 1 : Nat)) := by
                  obtain ⟨p, h1, h2⟩ := Z.out
                  exact ⟨p, h1, by omega⟩
                clear Z
                go_wp2_with fail
                exact ⟨⟨i + 1, by omega, by go_num, a + m + 1, by go_num, Y⟩, by simp [intOf]; omega⟩
              · have Y : Hid (∃ p, BX w w6 x p NoK ∧ (p.s : Int) = t) := by
                  obtain ⟨p, h1, h2⟩ := Z.out
                  exact ⟨p, h1, by omega⟩
                clear Z
                go_wp2_with fail
                exact ⟨⟨i + 1, by omega, by go_num, t, rfl, Y⟩, by simp [intOf]; omega⟩
          by_cases h8 : ko = 8
          · subst h8
            go_wp2_with fail
            refine (bx_reset O2.out.1).mono ?_
            rintro e w6 ⟨rfl, h6, -⟩
            have Z : Hid (∃ p, BX w w6 x p NoK ∧ (p.s : Int) = (0 : Nat)) := ⟨_, h6.free, rfl⟩
            clear h6 O2
            go_wp2_with fail
            exact ⟨⟨i + 1, by omega, by go_num, 0, rfl, Z⟩, by simp [intOf]; omega⟩
          · go_wp2_with fail
            refine (bx_act O2.out.1 ko so no).mono ?_
            rintro e w6 ⟨rfl, h6, -⟩
            have Z : Hid (∃ p, BX w w6 x p NoK ∧ (p.s : Int) = t) := ⟨_, h6.free, by rw [actS_s p ko no h2 h3 h8]; exact HA.out.2.2⟩
            clear h6 O2
            go_wp2_with fail
            exact ⟨⟨i + 1, by omega, by go_num, t, rfl, Z⟩, by simp [intOf]; omega⟩
        · obtain ⟨p, hB, hps⟩ := HT.out
          have Z := hd hB.base
          have i1 : ¬ (i : Int) < (n1 : Int) := by omega
          clear hB hps HT
          go_wp2
          go_ret
          exact ⟨rfl, Z.out⟩

end Go.Proofs.Ytocpfioifamkmaa
