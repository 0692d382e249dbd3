/-
  step.
-/
import Derived.Test.YtocpfioifamkmabPc
import Derived.Deep.RegionHeld3
import Derived.Deep.DeepCutAuto
namespace Go.Proofs.Ytocpfioifamkmab
open Go.RowKit
set_option linter.unusedVariables false

theorem last_q (x : Nat) (p : St) (v : Value) (β : Option Nat) (w : World) (h : BK w x p v β) :
    Calls Try.prog 18 #[.pointer (some ⟨x, 0, none⟩)] w fun e w' => e = .returned (.int .i64 p.last) ∧ ∃ m, w' = w.drewN m := by
  obtain ⟨a, c, rfl, -⟩ := h.row.form
  have c1 := cell_row h.box 1
  have c3 := cell_row h.box 3
  have hf := h.ok.few
  simp at c1 c3
  obtain ⟨n, hn⟩ : ∃ n, p.L.length = n := ⟨_, rfl⟩
  obtain ⟨m, hm⟩ : ∃ m, p.a = m := ⟨_, rfl⟩
  have hl : (p.last : Int) = (m : Int) + n := by unfold St.last; omega
  rw [hl]
  rw [hn] at c3 hf
  rw [hm] at c1 hf
  clear h hn hm hl
  go_enter Try.func18, Try.ntmps18
  go_wp2_with fail
  go_region
  go_wp2
  go_ret
  exact ⟨rfl, _, rfl⟩

/-- The Pair and the step in a block of its own. -/
def PO (w0 w : World) (P g : Nat) (X Y : Nat → Nat) (px py : Nat → St) (k s n : Int) : Prop :=
  PP w0 w P (fun j => j = P ∨ j = g) X Y px py ∧ w.heap[g]? = some (.cells #[.int .i64 k, .int .i64 s, .int .i64 n] 28 (0, 0))

section
variable {w0 w w' : World} {P g : Nat} {X Y : Nat → Nat} {px py : Nat → St} {k s n : Int}
theorem PO.below (h : PO w0 w P g X Y px py k s n) (hb : Below w.heap.size w w') : PO w0 w' P g X Y px py k s n :=
  ⟨h.1.below hb, (hb.block g (block_lt h.2)).trans h.2⟩
theorem PO.cells (h : PO w0 w P g X Y px py k s n) : w.cell? ⟨g, 0, none⟩ = some (.int .i64 k) ∧ w.cell? ⟨g, 1, none⟩ = some (.int .i64 s) ∧ w.cell? ⟨g, 2, none⟩ = some (.int .i64 n) := ⟨cell_row h.2 0, cell_row h.2 1, cell_row h.2 2⟩
theorem PO.done (h : PO w0 w P g X Y px px k s n) : ∃ X Y p, PP w0 w P (· = P) X Y p p := ⟨X, Y, px, h.1.pa.less (fun k hk => .inl hk), rfl, h.1.new, h.1.box⟩
theorem po_push (h : PO w0 w P g X Y px py k s n) {i : Nat} (hi : i < 2) (y : Int) : Calls Try.prog 9 #[.pointer (some ⟨X i, 0, none⟩), .int .i64 y] w fun e w' => e = .returned (.tuple #[.int .i64 (pushN (px i)), .int .i64 (pushE (px i))]) ∧ PO w0 w' P g X Y (upd px i (pushS (px i) y)) py k s n := by
  obtain ⟨S, h1, h2⟩ := h.1.pa.nowX hi
  refine (push_any (X i) (px i) y S w h1).mono ?_
  rintro e w' ⟨rfl, h3⟩
  obtain ⟨h4, h5⟩ := h2 _ w' h3
  exact ⟨rfl, h.1.step h4 h5, (h5 g (.inr rfl)).trans h.2⟩
theorem po_rpush (h : PO w0 w P g X Y px py k s n) {i : Nat} (hi : i < 2) (y : Int) : Calls Try.prog 10 #[.pointer (some ⟨Y i, 0, none⟩), .int .i64 y] w fun e w' => e = .returned (.tuple #[.int .i64 (pushN (py i)), .int .i64 (pushE (py i))]) ∧ PO w0 w' P g X Y px (upd py i (pushS (py i) y)) k s n := by
  obtain ⟨S, h1, h2⟩ := h.1.pa.nowY hi
  refine (rpush_any (Y i) (py i) y S w h1).mono ?_
  rintro e w' ⟨rfl, h3⟩
  obtain ⟨h4, h5⟩ := h2 _ w' h3
  exact ⟨rfl, h.1.step h4 h5, (h5 g (.inr rfl)).trans h.2⟩
theorem po_ack (h : PO w0 w P g X Y px py k s n) {i : Nat} (hi : i < 2) (y : Int) : Calls Try.prog 12 #[.pointer (some ⟨X i, 0, none⟩), .int .i64 y] w fun e w' => e = .returned (.int .i64 (ackE (px i) y)) ∧ PO w0 w' P g X Y (upd px i (ackS (px i) y)) py k s n := by
  obtain ⟨S, h1, h2⟩ := h.1.pa.nowX hi
  refine (ack_any (X i) (px i) y S w h1).mono ?_
  rintro e w' ⟨rfl, h3⟩
  obtain ⟨h4, h5⟩ := h2 _ w' h3
  exact ⟨rfl, h.1.step h4 h5, (h5 g (.inr rfl)).trans h.2⟩
theorem po_rack (h : PO w0 w P g X Y px py k s n) {i : Nat} (hi : i < 2) (y : Int) : Calls Try.prog 13 #[.pointer (some ⟨Y i, 0, none⟩), .int .i64 y] w fun e w' => e = .returned (.int .i64 (ackE (py i) y)) ∧ PO w0 w' P g X Y px (upd py i (ackS (py i) y)) k s n := by
  obtain ⟨S, h1, h2⟩ := h.1.pa.nowY hi
  refine (rack_any (Y i) (py i) y S w h1).mono ?_
  rintro e w' ⟨rfl, h3⟩
  obtain ⟨h4, h5⟩ := h2 _ w' h3
  exact ⟨rfl, h.1.step h4 h5, (h5 g (.inr rfl)).trans h.2⟩
theorem po_reset (h : PO w0 w P g X Y px py k s n) {i : Nat} (hi : i < 2) : Calls Try.prog 20 #[.pointer (some ⟨X i, 0, none⟩)] w fun e w' => e = .returned (.tuple #[]) ∧ PO w0 w' P g X Y (upd px i (resetS (px i))) py k s n := by
  obtain ⟨S, h1, h2⟩ := h.1.pa.nowX hi
  refine (reset_any (X i) (px i) S w h1).mono ?_
  rintro e w' ⟨rfl, h3⟩
  obtain ⟨h4, h5⟩ := h2 _ w' h3
  exact ⟨rfl, h.1.step h4 h5, (h5 g (.inr rfl)).trans h.2⟩
theorem po_rreset (h : PO w0 w P g X Y px py k s n) {i : Nat} (hi : i < 2) : Calls Try.prog 21 #[.pointer (some ⟨Y i, 0, none⟩)] w fun e w' => e = .returned (.tuple #[]) ∧ PO w0 w' P g X Y px (upd py i (resetS (py i))) k s n := by
  obtain ⟨S, h1, h2⟩ := h.1.pa.nowY hi
  refine (rreset_any (Y i) (py i) S w h1).mono ?_
  rintro e w' ⟨rfl, h3⟩
  obtain ⟨h4, h5⟩ := h2 _ w' h3
  exact ⟨rfl, h.1.step h4 h5, (h5 g (.inr rfl)).trans h.2⟩
theorem po_look (h : PO w0 w P g X Y px py k s n) {i : Nat} (hi : i < 2) (m : Nat) :
    Calls Try.prog 14 #[.pointer (some ⟨X i, 0, none⟩)] (w.drewN m) (fun e w' => e = .returned (.int .i64 (px i).a) ∧ w' = w.drewN m) ∧ Calls Try.prog 16 #[.pointer (some ⟨X i, 0, none⟩)] (w.drewN m) (fun e w' => e = .returned (.int .i64 (px i).s) ∧ w' = w.drewN m) ∧
    Calls Try.prog 18 #[.pointer (some ⟨X i, 0, none⟩)] (w.drewN m) (fun e w' => e = .returned (.int .i64 (px i).last) ∧ ∃ j, w' = (w.drewN m).drewN j) ∧ Calls Try.prog 15 #[.pointer (some ⟨Y i, 0, none⟩)] (w.drewN m) (fun e w' => e = .returned (.int .i64 (py i).a) ∧ w' = w.drewN m) ∧
    Calls Try.prog 17 #[.pointer (some ⟨Y i, 0, none⟩)] (w.drewN m) (fun e w' => e = .returned (.int .i64 (py i).s) ∧ w' = w.drewN m) ∧ Calls Try.prog 19 #[.pointer (some ⟨Y i, 0, none⟩)] (w.drewN m) (fun e w' => e = .returned (.int .i64 (py i).last) ∧ w' = w.drewN m) := by
  have h' := h.below (below_drewN (Below.refl w.heap.size w) m)
  obtain ⟨S, ⟨v, β, h1, -⟩, -⟩ := h'.1.pa.nowX hi
  obtain ⟨S2, h2, -⟩ := h'.1.pa.nowY hi
  exact ⟨acked_bk _ _ _ _ _ h1, sent_bk _ _ _ _ _ h1, last_q _ _ _ _ _ h1, racked_any _ _ _ _ h2, rsent_any _ _ _ _ h2, rlast_any _ _ _ _ h2⟩
end

set_option maxRecDepth 100000 in
set_option maxHeartbeats 32000000 in
theorem step_any (w0 : World) (P : Nat) (X Y : Nat → Nat) (p : Nat → St) (k s n : Int) (w : World) (h : PP w0 w P (· = P) X Y p p) :
    Calls Try.prog 5 #[.pointer (some ⟨P, 0, none⟩), .agg #[.int .i64 k, .int .i64 s, .int .i64 n]] w fun e w' => e = .returned (.bool true) ∧ ∃ X Y p, PP w0 w' P (· = P) X Y p p := by
  obtain ⟨i, hi⟩ : ∃ i, (s % 2).toNat = i := ⟨_, rfl⟩
  have hi2 : i < 2 := by omega
  have O1 : PO w0 (w.alloc (.cells #[.int .i64 k, .int .i64 s, .int .i64 n] 28)) P w.heap.size X Y p p k s n := by
    have hb : Below w.heap.size w (w.alloc (.cells #[.int .i64 k, .int .i64 s, .int .i64 n] 28)) := (Below.refl _ _).alloc (Nat.le_refl _) _
    refine ⟨⟨h.pa.adds hb (fun j hj => hj.imp id (fun h => by omega)) ?_, .inl rfl, h.new, (hb.block P (block_lt h.box)).trans h.box⟩, heap_alloc_new _ _⟩
    rintro j (rfl | rfl)
    · have := block_lt h.box; simp; omega
    · simp
  have H := hd O1
  have i1 : (i : Int) < 2 := by omega
  clear h O1
  by_cases h1 : k = 1
  · subst h1
    go_enter Try.func5, Try.ntmps5
    go_wp2_with fail
    refine (site_any s _).mono ?_
    rintro e w1 ⟨rfl, hw1⟩
    rw [hi]
    rw [← hw1] at H
    obtain ⟨x1, y1⟩ := H.out.1.boxI hi2
    obtain ⟨q0, q1, q2⟩ := H.out.cells
    clear hi hw1
    have C1 : Hid (∀ U, Below w1.heap.size w1 U → Calls Try.prog 9 #[.pointer (some ⟨X i, 0, none⟩), .int .i64 n] U fun e w' => e = .returned (.tuple #[.int .i64 (pushN (p i)), .int .i64 (pushE (p i))]) ∧ PO w0 w' P w.heap.size X Y (upd p i (pushS (p i) n)) p 1 s n) := fun U hU => po_push (H.out.below hU) hi2 n
    go_upto_region 4 with fail
    go_cut [6, 7] (fun v6 v7 wx => v6 = .int .i64 (pushN (p i)) ∧ v7 = .int .i64 (pushE (p i)) ∧ Hid (PO w0 wx P w.heap.size X Y (upd p i (pushS (p i) n)) p 1 s n))
    case first =>
      go_region_law (first | (go_simp; go_at_call 9; refine (C1.out _ (by repeat (first | exact Below.refl _ _ | refine Below.drew ?_ | refine below_drewN ?_ _))).mono ?_; rintro ex w3 ⟨rfl, h3⟩; have Z3 := hd h3; clear h3))
      all_goals
        go_wp2_with fail
        go_meet
        exact ⟨rfl, rfl, Z3.out.below (by repeat (first | exact Below.refl _ _ | refine Below.drew ?_ | refine below_drewN ?_ _))⟩
    case rest =>
    obtain ⟨rfl, rfl, H2⟩ := hcut
    clear C1 H x1 y1 q0 q1 q2
    obtain ⟨x1, y1⟩ := H2.out.1.boxI hi2
    obtain ⟨q0, q1, q2⟩ := H2.out.cells
    have C1 : Hid (∀ U, Below wc.heap.size wc U → Calls Try.prog 10 #[.pointer (some ⟨Y i, 0, none⟩), .int .i64 n] U fun e w' => e = .returned (.tuple #[.int .i64 (pushN (p i)), .int .i64 (pushE (p i))]) ∧ PO w0 w' P w.heap.size X Y (upd p i (pushS (p i) n)) (upd p i (pushS (p i) n)) 1 s n) := fun U hU => po_rpush (H2.out.below hU) hi2 n
    go_upto_region 5 with fail
    go_cut [8, 9] (fun v6 v7 wx => v6 = .int .i64 (pushN (p i)) ∧ v7 = .int .i64 (pushE (p i)) ∧ Hid (PO w0 wx P w.heap.size X Y (upd p i (pushS (p i) n)) (upd p i (pushS (p i) n)) 1 s n))
    case first =>
      go_region_law (first | (go_simp; go_at_call 10; refine (C1.out _ (by repeat (first | exact Below.refl _ _ | refine Below.drew ?_ | refine below_drewN ?_ _))).mono ?_; rintro ex w3 ⟨rfl, h3⟩; have Z3 := hd h3; clear h3))
      all_goals
        go_wp2_with fail
        go_meet
        exact ⟨rfl, rfl, Z3.out.below (by repeat (first | exact Below.refl _ _ | refine Below.drew ?_ | refine below_drewN ?_ _))⟩
    case rest =>
    obtain ⟨rfl, rfl, H3⟩ := hcut
    clear C1 H2 x1 y1 q0 q1 q2
    generalize pushN (p i) = vn
    generalize pushE (p i) = ve
    go_wp2_with fail
    refine (num_any ve _).mono ?_
    rintro e w5 ⟨rfl, hw5⟩
    subst hw5
    go_wp2
    go_ret
    exact ⟨rfl, H3.out.done⟩
  by_cases h3 : k = 3
  · subst h3
    go_enter Try.func5, Try.ntmps5
    go_wp2_with fail
    refine (site_any s _).mono ?_
    rintro e w1 ⟨rfl, hw1⟩
    rw [hi]
    rw [← hw1] at H
    obtain ⟨x1, y1⟩ := H.out.1.boxI hi2
    obtain ⟨q0, q1, q2⟩ := H.out.cells
    clear hi hw1
    have C1 : Hid (∀ U, Below w1.heap.size w1 U → Calls Try.prog 12 #[.pointer (some ⟨X i, 0, none⟩), .int .i64 n] U fun e w' => e = .returned (.int .i64 (ackE (p i) n)) ∧ PO w0 w' P w.heap.size X Y (upd p i (ackS (p i) n)) p 3 s n) := fun U hU => po_ack (H.out.below hU) hi2 n
    go_upto_region 8 with fail
    go_cut [10] (fun v6 wx => v6 = .int .i64 (ackE (p i) n) ∧ Hid (PO w0 wx P w.heap.size X Y (upd p i (ackS (p i) n)) p 3 s n))
    case first =>
      go_region_law (first | (go_simp; go_at_call 12; refine (C1.out _ (by repeat (first | exact Below.refl _ _ | refine Below.drew ?_ | refine below_drewN ?_ _))).mono ?_; rintro ex w3 ⟨rfl, h3⟩; have Z3 := hd h3; clear h3))
      all_goals
        go_wp2_with fail
        go_meet
        exact ⟨rfl, Z3.out.below (by repeat (first | exact Below.refl _ _ | refine Below.drew ?_ | refine below_drewN ?_ _))⟩
    case rest =>
    obtain ⟨rfl, H2⟩ := hcut
    clear C1 H x1 y1 q0 q1 q2
    obtain ⟨x1, y1⟩ := H2.out.1.boxI hi2
    obtain ⟨q0, q1, q2⟩ := H2.out.cells
    have C1 : Hid (∀ U, Below wc.heap.size wc U → Calls Try.prog 13 #[.pointer (some ⟨Y i, 0, none⟩), .int .i64 n] U fun e w' => e = .returned (.int .i64 (ackE (p i) n)) ∧ PO w0 w' P w.heap.size X Y (upd p i (ackS (p i) n)) (upd p i (ackS (p i) n)) 3 s n) := fun U hU => po_rack (H2.out.below hU) hi2 n
    generalize ackE (p i) n = ve at C1
    go_upto_region 9 with fail
    go_region_law (first | (go_simp; go_at_call 13; refine (C1.out _ (by repeat (first | exact Below.refl _ _ | refine Below.drew ?_ | refine below_drewN ?_ _))).mono ?_; rintro ex w3 ⟨rfl, h3⟩; have Z3 := hd h3; clear h3) | (go_simp; go_at_call 11; refine (num_any ve _).mono ?_; rintro ex w4 ⟨rfl, hw4⟩; subst hw4))
    all_goals
      go_wp2
      go_ret
      exact ⟨rfl, (Z3.out.below (by repeat (first | exact Below.refl _ _ | refine Below.drew ?_ | refine below_drewN ?_ _))).done⟩
  by_cases h2 : k = 2
  · subst h2
    go_enter Try.func5, Try.ntmps5
    go_wp2_with fail
    refine (site_any s _).mono ?_
    rintro e w1 ⟨rfl, hw1⟩
    rw [hi]
    rw [← hw1] at H
    obtain ⟨x1, y1⟩ := H.out.1.boxI hi2
    obtain ⟨q0, q1, q2⟩ := H.out.cells
    clear hi hw1
    go_wp2_with fail
    refine (lists_any w0 P X Y p 2 s n w1 ⟨H.out.1.pa.less (fun k hk => .inl hk), rfl, H.out.1.new, H.out.1.box⟩).mono ?_
    rintro e w2 ⟨rfl, p', h2⟩
    have Z : Hid (∃ X Y p, PP w0 w2 P (· = P) X Y p p) := ⟨_, _, _, h2⟩
    clear h2 H x1 y1 q0 q1 q2
    go_wp2
    go_ret
    exact ⟨rfl, Z.out⟩
  by_cases h4 : k = 4
  · subst h4
    go_enter Try.func5, Try.ntmps5
    go_wp2_with fail
    refine (site_any s _).mono ?_
    rintro e w1 ⟨rfl, hw1⟩
    rw [hi]
    rw [← hw1] at H
    obtain ⟨x1, y1⟩ := H.out.1.boxI hi2
    obtain ⟨q0, q1, q2⟩ := H.out.cells
    clear hi hw1
    go_wp2_with fail
    refine (lists_any w0 P X Y p 4 s n w1 ⟨H.out.1.pa.less (fun k hk => .inl hk), rfl, H.out.1.new, H.out.1.box⟩).mono ?_
    rintro e w2 ⟨rfl, p', h2⟩
    have Z : Hid (∃ X Y p, PP w0 w2 P (· = P) X Y p p) := ⟨_, _, _, h2⟩
    clear h2 H x1 y1 q0 q1 q2
    go_wp2
    go_ret
    exact ⟨rfl, Z.out⟩
  by_cases h5 : k = 5
  · subst h5
    go_enter Try.func5, Try.ntmps5
    go_wp2_with fail
    refine (site_any s _).mono ?_
    rintro e w1 ⟨rfl, hw1⟩
    rw [hi]
    rw [← hw1] at H
    obtain ⟨x1, y1⟩ := H.out.1.boxI hi2
    obtain ⟨q0, q1, q2⟩ := H.out.cells
    clear hi hw1
    obtain ⟨v, hv⟩ : ∃ v : Nat, (p i).a = v := ⟨_, rfl⟩
    have C1 : Hid (∀ m, Calls Try.prog 14 #[.pointer (some ⟨X i, 0, none⟩)] (w1.drewN m) fun e w' => e = .returned (.int .i64 v) ∧ ∃ j, w' = w1.drewN j) := by
      intro m
      have := (po_look H.out hi2 m).1
      rw [hv] at this
      exact Calls.quiet_of_same this
    have C2 : Hid (∀ m, Calls Try.prog 15 #[.pointer (some ⟨Y i, 0, none⟩)] (w1.drewN m) fun e w' => e = .returned (.int .i64 v) ∧ ∃ j, w' = w1.drewN j) := by
      intro m
      have := (po_look H.out hi2 m).2.2.2.1
      rw [hv] at this
      exact Calls.quiet_of_same this
    clear hv
    go_wp2_with fail
    go_quiet (first | (go_at_call 14; exact C1.out _) | (go_at_call 15; exact C2.out _))
    go_wp2
    go_ret
    exact ⟨rfl, (H.out.below (by repeat (first | exact Below.refl _ _ | refine Below.drew ?_ | refine below_drewN ?_ _))).done⟩
  by_cases h6 : k = 6
  · subst h6
    go_enter Try.func5, Try.ntmps5
    go_wp2_with fail
    refine (site_any s _).mono ?_
    rintro e w1 ⟨rfl, hw1⟩
    rw [hi]
    rw [← hw1] at H
    obtain ⟨x1, y1⟩ := H.out.1.boxI hi2
    obtain ⟨q0, q1, q2⟩ := H.out.cells
    clear hi hw1
    obtain ⟨v, hv⟩ : ∃ v : Nat, (p i).s = v := ⟨_, rfl⟩
    have C1 : Hid (∀ m, Calls Try.prog 16 #[.pointer (some ⟨X i, 0, none⟩)] (w1.drewN m) fun e w' => e = .returned (.int .i64 v) ∧ ∃ j, w' = w1.drewN j) := by
      intro m
      have := (po_look H.out hi2 m).2.1
      rw [hv] at this
      exact Calls.quiet_of_same this
    have C2 : Hid (∀ m, Calls Try.prog 17 #[.pointer (some ⟨Y i, 0, none⟩)] (w1.drewN m) fun e w' => e = .returned (.int .i64 v) ∧ ∃ j, w' = w1.drewN j) := by
      intro m
      have := (po_look H.out hi2 m).2.2.2.2.1
      rw [hv] at this
      exact Calls.quiet_of_same this
    clear hv
    go_wp2_with fail
    go_quiet (first | (go_at_call 16; exact C1.out _) | (go_at_call 17; exact C2.out _))
    go_wp2
    go_ret
    exact ⟨rfl, (H.out.below (by repeat (first | exact Below.refl _ _ | refine Below.drew ?_ | refine below_drewN ?_ _))).done⟩
  by_cases h7 : k = 7
  · subst h7
    go_enter Try.func5, Try.ntmps5
    go_wp2_with fail
    refine (site_any s _).mono ?_
    rintro e w1 ⟨rfl, hw1⟩
    rw [hi]
    rw [← hw1] at H
    obtain ⟨x1, y1⟩ := H.out.1.boxI hi2
    obtain ⟨q0, q1, q2⟩ := H.out.cells
    clear hi hw1
    obtain ⟨v, hv⟩ : ∃ v : Nat, (p i).last = v := ⟨_, rfl⟩
    have C1 : Hid (∀ m, Calls Try.prog 18 #[.pointer (some ⟨X i, 0, none⟩)] (w1.drewN m) fun e w' => e = .returned (.int .i64 v) ∧ ∃ j, w' = w1.drewN j) := by
      intro m
      have := (po_look H.out hi2 m).2.2.1
      rw [hv] at this
      exact Calls.quiet_of this
    have C2 : Hid (∀ m, Calls Try.prog 19 #[.pointer (some ⟨Y i, 0, none⟩)] (w1.drewN m) fun e w' => e = .returned (.int .i64 v) ∧ ∃ j, w' = w1.drewN j) := by
      intro m
      have := (po_look H.out hi2 m).2.2.2.2.2
      rw [hv] at this
      exact Calls.quiet_of_same this
    clear hv
    go_wp2_with fail
    go_quiet (first | (go_at_call 18; exact C1.out _) | (go_at_call 19; exact C2.out _))
    go_wp2
    go_ret
    exact ⟨rfl, (H.out.below (by repeat (first | exact Below.refl _ _ | refine Below.drew ?_ | refine below_drewN ?_ _))).done⟩
  by_cases h8 : k = 8
  · subst h8
    go_enter Try.func5, Try.ntmps5
    go_wp2_with fail
    refine (site_any s _).mono ?_
    rintro e w1 ⟨rfl, hw1⟩
    rw [hi]
    rw [← hw1] at H
    obtain ⟨x1, y1⟩ := H.out.1.boxI hi2
    obtain ⟨q0, q1, q2⟩ := H.out.cells
    clear hi hw1
    go_wp2_with fail
    refine (po_reset H.out hi2).mono ?_
    rintro e w2 ⟨rfl, h2⟩
    have H2 := hd h2
    clear h2 H x1 y1 q0 q1 q2
    obtain ⟨x1, y1⟩ := H2.out.1.boxI hi2
    go_wp2_with fail
    refine (po_rreset H2.out hi2).mono ?_
    rintro e w3 ⟨rfl, h3⟩
    have Z := hd h3.done
    clear h3 H2 x1 y1
    go_wp2
    go_ret
    exact ⟨rfl, Z.out⟩
  by_cases h9 : k = 9
  · subst h9
    go_enter Try.func5, Try.ntmps5
    go_wp2_with fail
    refine (site_any s _).mono ?_
    rintro e w1 ⟨rfl, hw1⟩
    rw [hi]
    rw [← hw1] at H
    obtain ⟨x1, y1⟩ := H.out.1.boxI hi2
    obtain ⟨q0, q1, q2⟩ := H.out.cells
    clear hi hw1
    go_wp2_with fail
    refine (renewed_pp (K := (· = P)) (X := X) (Y := Y) (p := p) ⟨H.out.1.pa.less (fun k hk => .inl hk), rfl, H.out.1.new, H.out.1.box⟩ hi2 n).mono ?_
    rintro e w2 ⟨rfl, h2⟩
    have Z := hd h2
    clear h2 H x1 y1 q0 q1 q2
    go_wp2
    go_ret
    exact ⟨rfl, Z.out⟩
  · go_enter Try.func5, Try.ntmps5
    go_wp2_with fail
    refine (site_any s _).mono ?_
    rintro e w1 ⟨rfl, hw1⟩
    rw [hi]
    rw [← hw1] at H
    obtain ⟨x1, y1⟩ := H.out.1.boxI hi2
    obtain ⟨q0, q1, q2⟩ := H.out.cells
    clear hi hw1
    have Z := hd H.out.done
    go_wp2
    go_ret
    exact ⟨rfl, Z.out⟩

end Go.Proofs.Ytocpfioifamkmab
