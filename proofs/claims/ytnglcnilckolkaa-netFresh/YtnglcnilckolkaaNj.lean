/-
  Deliver.
-/
import Derived.Test.YtnglcnilckolkaaNi
import Derived.Deep.DeepCutAuto
namespace Go.Proofs.Ytnglcnilckolkaa
open Go.RowKit Go.Maps
set_option linter.unusedVariables false

set_option maxHeartbeats 1000000 in
theorem deliver_bad (x : Nat) (cl : Int) (G : List DG) (B : Nat) (S : Nat → Prop) (w : World) (h : NB w x cl G B S) (i : Int) (hi : ¬ isAt G.length i) :
    Calls Try.prog 17 #[.pointer (some ⟨x, 0, none⟩), .int .i64 i] w fun e w' => e = .returned (.tuple #[dgv zDG (.slice none 0 0), .int .i64 74]) ∧ Below w.heap.size w w' := by
  obtain ⟨nx, hnx, E, bm, va, β, hN, hG⟩ := h
  have hl : G.length = E.length := by rw [← hG]; simp
  have HN := hd hN
  rw [hl] at hi
  have hb : decide (0 ≤ i ∧ i < E.length) = false := decide_eq_false hi
  clear hN hG hl hi
  unfold dgv zDG
  simp only
  go_enter Try.func17, Try.ntmps17
  go_wp2_with fail
  refine (has_nk x cl E nx S bm va β _ (HN.out.below ((Below.refl _ _).alloc (Nat.le_refl _) _)) i).mono ?_
  rintro e w1 ⟨rfl, rfl⟩
  rw [hb]
  go_wp2
  refine bodyPost_ret (v := .tuple #[.agg #[.int .i64 0, .int .i64 0, .slice none 0 0, .bool false], .int .i64 74]) (by simp [results, Try.results17, go_sem]) rfl ?_
  exact ⟨rfl, by repeat (first | exact Below.refl _ _ | refine Below.alloc ?_ (by simp) _ | refine Below.setCell ?_ (by simp) _)⟩

/-- A datagram that was copied, in a block of its own. -/
def DRel (w0 wx : World) (bx : Nat) (d : DG) (a : Option Addr) (c : Nat) : Prop :=
  ∃ γ, wx.heap[bx]? = some (.cells #[.int .i64 d.f, .int .i64 d.t, .slice a d.b.length c, .bool d.s] 37 (0, 0)) ∧ SB wx γ (.slice a d.b.length c) d.b ∧ (∀ g, γ = some g → w0.heap.size ≤ g) ∧ w0.heap.size ≤ bx ∧ Below w0.heap.size w0 wx

theorem drel_a {w0 U u : World} {d : DG} {a : Option Addr} {c : Nat} (hU : Below w0.heap.size w0 U) (hγ : ∃ γ, SB u γ (.slice a d.b.length c) d.b ∧ ∀ g, γ = some g → U.heap.size ≤ g) (bu : Below U.heap.size U u) :
    DRel w0 (u.alloc (.cells #[.int .i64 d.f, .int .i64 d.t, .slice a d.b.length c, .bool d.s] 37)) u.heap.size d a c := by
  obtain ⟨γ, h1, h2⟩ := hγ
  have s1 := hU.size
  have s2 := bu.size
  exact ⟨γ, heap_alloc_new _ _, SRow.fr h1 (S := fun _ => False) (Fr.alloc _ _ _) (fun _ _ h => h), fun g hg => by have := h2 g hg; omega, by omega, (hU.trans (bu.mono s1)).alloc (by omega) _⟩

theorem drel_b {w0 U u : World} {d : DG} {a : Option Addr} {c : Nat} (hU : Below w0.heap.size w0 U) (hl : w0.heap.size < U.heap.size) (hγ : ∃ γ, SB u γ (.slice a d.b.length c) d.b ∧ ∀ g, γ = some g → U.heap.size ≤ g) (bu : Below U.heap.size U u)
    (zz : u.heap[w0.heap.size]? = some (.cells #[.int .i64 0, .int .i64 0, .slice none 0 0, .bool false] 37 (0, 0))) :
    DRel w0 ((((u.setCell ⟨w0.heap.size, 0, none⟩ (.int .i64 d.f)).setCell ⟨w0.heap.size, 1, none⟩ (.int .i64 d.t)).setCell ⟨w0.heap.size, 2, none⟩ (.slice a d.b.length c)).setCell ⟨w0.heap.size, 3, none⟩ (.bool d.s)) w0.heap.size d a c := by
  obtain ⟨γ, h1, h2⟩ := hγ
  have s1 := hU.size
  have s2 := bu.size
  refine ⟨γ, set_row (set_row (set_row (set_row zz 0 _) 1 _) 2 _) 3 _, SRow.fr h1 (S := (· = w0.heap.size)) ?_ (fun g hg h => by have := h2 g hg; omega), fun g hg => by have := h2 g hg; omega, Nat.le_refl _, ?_⟩
  · repeat (first | exact Fr.refl _ _ | refine Fr.trans ?_ (Fr.setCell _ _ _ rfl))
  · repeat (first | exact (hU.trans (bu.mono s1)) | refine Below.setCell ?_ (by simp) _)

set_option maxRecDepth 100000 in
set_option maxHeartbeats 4000000 in
theorem deliver_good (x : Nat) (cl : Int) (G : List DG) (B : Nat) (S : Nat → Prop) (w : World) (h : NB w x cl G B S) (i : Nat) (hi : i < G.length) :
    Calls Try.prog 17 #[.pointer (some ⟨x, 0, none⟩), .int .i64 i] w fun e w' => ∃ v, e = .returned (.tuple #[dgv (G.getD i zDG) v, .int .i64 0]) ∧ ∃ γ, SB w' γ v (G.getD i zDG).b ∧ (∀ g, γ = some g → w.heap.size ≤ g) ∧ NB w' x cl (without G i) B S ∧ Fr S w w' := by
  obtain ⟨nx, hnx, E, bm, va, β, hN, hG⟩ := h
  have hl : G.length = E.length := by rw [← hG]; simp
  rw [hl] at hi
  have hb : decide (0 ≤ (i : Int) ∧ (i : Int) < E.length) = true := decide_eq_true (by omega)
  obtain ⟨E1, e, E2, rfl, rfl⟩ := split_at E i hi
  have hg : G.getD E1.length zDG = e.d := by
    rw [← hG, List.map_append, List.map_cons]
    simp [List.getD]
  have hw : without G E1.length = E1.map En.d ++ E2.map En.d := by
    rw [← hG, List.map_append, List.map_cons]
    have := without_at (E1.map En.d) (E2.map En.d) e.d
    simpa using this
  rw [hg]
  obtain ⟨g, cap, rfl, rfl, ca, hc1, hc2, hc3⟩ := hN.at
  have hme : e ∈ E1 ++ e :: E2 := by simp
  obtain ⟨a, c, hv, hIB⟩ := (hN.rows e hme).isB
  have hs := hN.short e hme
  have hin : (e.age, Value.agg #[.int .i64 e.d.f, .int .i64 e.d.t, .slice a e.d.b.length c, .bool e.d.s]) ∈ (E1 ++ e :: E2).map fun e => (e.age, e.val) := by
    refine List.mem_map.2 ⟨e, hme, ?_⟩
    simp [En.val, dgv, hv]
  obtain ⟨w0, hw0⟩ : ∃ w0, w0 = w.alloc (.cells #[.int .i64 0, .int .i64 0, .slice none 0 0, .bool false] 37) := ⟨_, rfl⟩
  have B0 : Below w.heap.size w w0 := by rw [hw0]; exact (Below.refl _ _).alloc (Nat.le_refl _) _
  have hz0 : w0.heap.size = w.heap.size + 1 := by rw [hw0]; simp
  have N0 := hN.below B0
  have R0 : w0.heap[w.heap.size]? = some (.cells #[.int .i64 0, .int .i64 0, .slice none 0 0, .bool false] 37 (0, 0)) := by rw [hw0]; exact heap_alloc_new _ _
  have I0 := hIB.below B0
  have T : Hid (∀ U, Below w0.heap.size w0 U → Calls Try.prog 37 #[.agg #[.int .i64 e.d.f, .int .i64 e.d.t, .slice a e.d.b.length c, .bool e.d.s]] U fun ex w' => ∃ a' c', ex = .returned (.agg #[.int .i64 e.d.f, .int .i64 e.d.t, .slice a' e.d.b.length c', .bool e.d.s]) ∧ (∃ γ, SB w' γ (.slice a' e.d.b.length c') e.d.b ∧ ∀ g, γ = some g → U.heap.size ≤ g) ∧ Below U.heap.size U w') := by
    intro U hU
    refine (twin_any e.d a _ c U (I0.below hU) (by omega)).mono ?_
    rintro ex w' ⟨v, rfl, ⟨γ, h1, h2⟩, h3⟩
    obtain ⟨a', c', rfl, hb⟩ := h1.isB
    exact ⟨a', c', by simp [dgv], ⟨γ, h1, h2⟩, h3⟩
  have HH := hd (And.intro N0 (And.intro R0 B0))
  have HZ := hd hz0
  have HO := hd hN.old
  have R2 := hd (And.intro hw hnx)
  have HN := hd hN
  have lk1 := (N0.mp.fr (S := fun _ => False) (Fr.drew _ w0) (fun h => h)).look hin
  have lk2 := fun m => (N0.mp.fr (S := fun _ => False) (Fr.drewN _ w0 m) (fun h => h)).look hin
  have lk3 := fun o => (N0.mp.fr (S := fun _ => False) ((Fr.alloc _ w0 o).trans (Fr.drew _ _)) (fun h => h)).look hin
  have lk4 := fun o m => (N0.mp.fr (S := fun _ => False) ((Fr.alloc _ w0 o).trans (Fr.drewN _ _ m)) (fun h => h)).look hin
  have lk5 := fun o => (N0.mp.fr (S := fun _ => False) ((Fr.drew _ w0).trans (Fr.alloc _ _ o)) (fun h => h)).look hin
  have c1 := cell_row N0.net 1
  have c2 := cell_row N0.net 2
  obtain ⟨g2, cap2, e1, e2, ca0, -⟩ := N0.at
  obtain rfl : g = g2 := by injection e1
  simp at c1 c2
  have hxl : x < w0.heap.size := block_lt N0.net
  have hgl : g < w0.heap.size := by
    obtain ⟨cur, hh⟩ := SRow.blk N0.ages
    exact block_lt hh
  obtain ⟨i0, hi0⟩ : ∃ i0, E1.length = i0 := ⟨_, rfl⟩
  obtain ⟨m0, hm0⟩ : ∃ m0, E1.length + E2.length = m0 := ⟨_, rfl⟩
  rw [hm0] at c2 hc2 hc3
  rw [hi0] at ca0 hb ⊢
  have HI := hd hi0
  have hlt : (i0 : Int) < (m0 : Int) + 1 := by omega
  have hi1 : i0 < m0 + 1 := by omega
  clear hN hG hl hnx hi hg hv hIB hs hme hi0 hm0 ca N0 R0 I0 hz0 e1 e2 hin B0 hw
  unfold dgv
  go_enter Try.func17, Try.ntmps17
  go_wp2_with fail
  rw [← hw0]
  clear hw0
  refine (has_nk x cl _ nx S bm _ _ w0 HH.out.1 i0).mono ?_
  rintro ex w1 ⟨rfl, rfl⟩
  rw [hb]
  clear hb
  go_wp2_with fail
  go_cut [6] (fun x6 wx => ∃ bx a' c', x6 = .pointer (some ⟨bx, 0, none⟩) ∧ Hid (DRel w1 wx bx e.d a' c'))
  case first =>
    go_region_law (go_simp; go_at_call 37; refine (T.out _ ?_).mono ?_; (repeat (first | exact Below.refl _ _ | refine Below.drew ?_ | refine below_drewN ?_ _ | refine Below.alloc ?_ (by simp) _)); rintro ex u ⟨a', c', rfl, hγ, bu⟩; (first | (have zz : u.heap[w1.heap.size]? = some (.cells #[.int .i64 0, .int .i64 0, .slice none 0 0, .bool false] 37 (0, 0)) := (bu.block w1.heap.size (by simp)).trans (by exact heap_alloc_new _ _); obtain ⟨z0, z1, z2, z3⟩ := cells4 zz; have y0 := frozen_row zz 0; have y1 := frozen_row zz 1; have y2 := frozen_row zz 2; have y3 := frozen_row zz 3; have DR := hd (drel_b (w0 := w1) (by repeat (first | exact Below.refl _ _ | refine Below.drew ?_ | refine below_drewN ?_ _ | refine Below.alloc ?_ (by simp) _)) (by simp) hγ bu zz); clear zz) | (have DR := hd (drel_a (w0 := w1) (by repeat (first | exact Below.refl _ _ | refine Below.drew ?_ | refine below_drewN ?_ _ | refine Below.alloc ?_ (by simp) _)) hγ bu))); clear hγ bu)
    all_goals
      go_wp2_with fail
      go_meet
      exact ⟨_, a', c', rfl, DR⟩
  case rest =>
    obtain ⟨bx, a', c', rfl, DD⟩ := hcut
    clear lk1 lk2 lk3 lk4 lk5 c1 c2 ca0
    have RM := remove_nk x cl E1 E2 e nx S bm _ _ wc (HH.out.1.below (by obtain ⟨γ, d1, d2, d3, d4, d5⟩ := DD.out; exact d5))
    rw [HI.out] at RM
    go_wp2_with fail
    refine RM.mono ?_
    clear RM
    rintro ex w3 ⟨rfl, hNA, hFS⟩
    obtain ⟨γ, d1, d2, d3, d4, d5⟩ := DD.out
    have hz := HZ.out
    have nS : ∀ k, w.heap.size ≤ k → ¬ S k := fun k hk hs => by have := HO.out k hs; omega
    have b3 := hFS.keeps d1 (nS bx (by omega))
    have r3 := hFS.keeps ((d5.block _ (by omega)).trans HH.out.2.1) (nS _ (Nat.le_refl _))
    obtain ⟨k0, k1, k2, k3⟩ := cells4 b3
    obtain ⟨q0, q1, q2, q3⟩ := cells4 r3
    have f0 := frozen_row r3 0
    have f1 := frozen_row r3 1
    have f2 := frozen_row r3 2
    have f3 := frozen_row r3 3
    have hS3 := SRow.fr d2 hFS (fun g hg => nS g (by have := d3 g hg; omega))
    obtain ⟨w4, hw4⟩ : ∃ w4, w4 = (((w3.setCell ⟨w.heap.size, 0, none⟩ (.int .i64 e.d.f)).setCell ⟨w.heap.size, 1, none⟩ (.int .i64 e.d.t)).setCell ⟨w.heap.size, 2, none⟩ (.slice a' e.d.b.length c')).setCell ⟨w.heap.size, 3, none⟩ (.bool e.d.s) := ⟨_, rfl⟩
    have F4 : Fr (· = w.heap.size) w3 w4 := by
      rw [hw4]
      repeat (first | exact Fr.refl _ _ | refine Fr.trans ?_ (Fr.setCell _ _ _ rfl))
    have FT : Fr S w w4 := by
      have a1 : Fr S w w1 := Fr.of_below HH.out.2.2
      have a2 : Fr S w1 wc := Fr.of_below d5
      refine Fr.next ((a1.trans a2).trans hFS) F4 ?_
      rintro i hi rfl
      omega
    have n4 := hNA.fr F4 (fun k hk h => nS k (by omega) hk)
    have s4 := SRow.fr hS3 F4 (fun g hg h => by have := d3 g hg; omega)
    have Z : Hid ((∃ γ, SB w4 γ (.slice a' e.d.b.length c') e.d.b ∧ (∀ g, γ = some g → w.heap.size ≤ g) ∧ NB w4 x cl (without G i0) B S ∧ Fr S w w4)) := by
      refine ⟨γ, s4, fun g hg => by have := d3 g hg; omega, ⟨nx, R2.out.2, ?_⟩, FT⟩
      rw [← HI.out, R2.out.1]
      exact n4
    have t0 : w4.heap[w.heap.size]? = some (.cells #[.int .i64 e.d.f, .int .i64 e.d.t, .slice a' e.d.b.length c', .bool e.d.s] 37 (0, 0)) := by
      rw [hw4]
      exact set_row (set_row (set_row (set_row r3 0 _) 1 _) 2 _) 3 _
    obtain ⟨p0, p1, p2, p3⟩ := cells4 t0
    clear hNA hFS d1 d2 d3 d4 d5 hz nS b3 r3 hS3 F4 FT n4 s4 t0
    go_wp2
    rw [← hw4]
    refine bodyPost_ret (v := .tuple #[.agg #[.int .i64 e.d.f, .int .i64 e.d.t, .slice a' e.d.b.length c', .bool e.d.s], .int .i64 0]) (by simp [results, Try.results17, go_sem, p0, p1, p2, p3]) rfl ?_
    exact ⟨_, rfl, Z.out⟩

end Go.Proofs.Ytnglcnilckolkaa
