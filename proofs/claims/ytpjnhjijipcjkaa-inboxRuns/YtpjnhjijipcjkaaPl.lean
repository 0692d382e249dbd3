/-
  boxed.
-/
import Derived.Test.YtpjnhjijipcjkaaPf
namespace Go.Proofs.Ytpjnhjijipcjkaa
open Go.RowKit
set_option linter.unusedVariables false

def r0 (R : Nat) : Rb := ⟨R, 0, []⟩
section
variable {w0 w : World} {K : Nat → Prop} {F : Nat → Thg}
theorem mk_new (h : MO w0 w K F) (i R : Nat) (h1 : 1 ≤ R) (h2 : R ≤ 4096) : Calls Try.prog 11 #[.int .i64 R] w fun e w' => ∃ x, e = .returned (.tuple #[pt x, .int .i64 0]) ∧ MO w0 w' K (setO F i (iiO x (r0 R))) ∧ RowKit.Below w.heap.size w w' := by
  refine (i_new_good R w h1 h2).mono ?_
  rintro e w' ⟨x, rfl, S, h3, h4, h5⟩
  exact ⟨x, rfl, h.put i (frm_ii _ _) (S' := S) h3 h4 h5, h5⟩
theorem mq_new (h : MO w0 w K F) (i R : Nat) (h1 : 1 ≤ R) (h2 : R ≤ 4096) : Calls Try.prog 43 #[.int .i64 R] w fun e w' => ∃ x, e = .returned (.tuple #[pt x, .int .i64 0]) ∧ MO w0 w' K (setO F i (opO x (r0 R))) ∧ RowKit.Below w.heap.size w w' := by
  refine (q_new_good R w h1 h2).mono ?_
  rintro e w' ⟨x, rfl, S, h3, h4, h5⟩
  exact ⟨x, rfl, h.put i (frm_op _ _) (S' := S) h3 h4 h5, h5⟩
theorem mr_new (h : MO w0 w K F) (i R : Nat) (h1 : 1 ≤ R) (h2 : R ≤ 4096) : Calls Try.prog 42 #[.int .i64 R] w fun e w' => ∃ x, e = .returned (.tuple #[pt x, .int .i64 0]) ∧ MO w0 w' K (setO F i (refO x (r0 R))) ∧ RowKit.Below w.heap.size w w' := by
  refine (r_new_good R w h1 h2).mono ?_
  rintro e w' ⟨x, rfl, S, h3, h4, h5⟩
  exact ⟨x, rfl, h.put i (frm_ref _ _) (S' := S) h3 h4 h5, h5⟩
end

theorem box_done {w0 w : World} {K : Nat → Prop} {x a b r q : Nat} {A B : Rb} (h : MO w0 w K (setO (setO (setO (setO noF 0 (iiO a A)) 2 (refO r A)) 1 (opO b B)) 3 (refO q B))) (hK : K x) (hx : w0.heap.size ≤ x)
    (hb : w.heap[x]? = some (.cells #[.pointer none, .pointer none, .pointer none, .pointer none, .slice none 0 0, .slice none 0 0] 74 (0, 0))) :
    PB noObj w0 ((((w.setCell ⟨x, 0, none⟩ (pt a)).setCell ⟨x, 1, none⟩ (pt b)).setCell ⟨x, 2, none⟩ (pt r)).setCell ⟨x, 3, none⟩ (pt q)) NoK x a b r q A B 0 := by
  obtain ⟨S, h1, h2, h3⟩ := h.nowG 4 x hK hx
  have b1 := set_row (set_row (set_row (set_row hb 0 (pt a)) 1 (pt b)) 2 (pt r)) 3 (pt q)
  have hF : Fr (· = x) w ((((w.setCell ⟨x, 0, none⟩ (pt a)).setCell ⟨x, 1, none⟩ (pt b)).setCell ⟨x, 2, none⟩ (pt r)).setCell ⟨x, 3, none⟩ (pt q)) := (((Fr.setCell (S := (· = x)) w ⟨x, 0, none⟩ (pt a) rfl).trans (Fr.setCell _ _ _ rfl)).trans (Fr.setCell _ _ _ rfl)).trans (Fr.setCell _ _ _ rfl)
  have hx' := block_lt hb
  obtain ⟨k1, -⟩ := h3 (keptO x (pt a) (pt b) (pt r) (pt q) 0) _ (· = x) (frm_kept _ _ _ _ _ _) ⟨.slice none 0 0, none, [], .slice none 0 0, none, [], [], by simpa using b1, ⟨rfl, rfl⟩, ⟨rfl, rfl⟩, ⟨rfl, rfl, fun j sl sw e h => (by simp at h)⟩, rfl, fun g hg => (by cases hg), rfl, fun g hg => (by cases hg), fun g hg => (by cases hg), fun k hk => (by subst hk; have := hF.size; omega)⟩ (fun k hk => .inr (.inl hk)) (hF.mono (fun k _ hk => .inr hk))
  have e : setO (setO (setO (setO (setO noF 0 (iiO a A)) 2 (refO r A)) 1 (opO b B)) 3 (refO q B)) 4 (keptO x (pt a) (pt b) (pt r) (pt q) 0) = FP noObj x a b r q A B A B 0 := by
    funext j
    rcases j with _ | _ | _ | _ | _ | _ | j <;> rfl
  rw [e] at k1
  exact MO.less k1 (fun k hk => hk.elim)

set_option maxRecDepth 100000 in
set_option maxHeartbeats 4000000 in
theorem boxed_gg (r : Nat) (hr1 : 1 ≤ r) (hr2 : r ≤ 4096) (s : Nat) (hs1 : 1 ≤ s) (hs2 : s ≤ 4096) (w : World) : Calls Try.prog 25 #[.int .i64 r, .int .i64 s] w fun ex w' => ∃ x a b p q A B, ex = .returned (.tuple #[pt x, .bool true]) ∧ PB noObj w w' NoK x a b p q A B 0 := by
  obtain ⟨U, hU⟩ : ∃ U, U = w.alloc (.cells #[.pointer none, .pointer none, .pointer none, .pointer none, .slice none 0 0, .slice none 0 0] 74) := ⟨_, rfl⟩
  have hbU : RowKit.Below w.heap.size w U := by rw [hU]; exact (Below.refl _ _).alloc (Nat.le_refl _) _
  have zU : U.heap.size = w.heap.size + 1 := by rw [hU]; simp
  have hg : U.heap[w.heap.size]? = some (.cells #[.pointer none, .pointer none, .pointer none, .pointer none, .slice none 0 0, .slice none 0 0] 74 (0, 0)) := by rw [hU]; exact heap_alloc_new w _
  have H0 := hd (mo_adds (MO.nil' w) hbU)
  have HG := hd (And.intro hg (And.intro zU hU))
  clear hU hbU zU hg
  go_enter Try.func25, Try.ntmps25
  go_wp2_with fail
  rw [← HG.out.2.2]
  refine (mk_new H0.out 0 r hr1 hr2).mono ?_
  rintro _ w1 ⟨x1, rfl, M1, B1⟩
  have H1 := hd M1
  have D1 := hd B1
  clear M1 B1 H0
  go_wp2_with fail
  refine (mr_new H1.out 2 r hr1 hr2).mono ?_
  rintro _ w2 ⟨x2, rfl, M2, B2⟩
  have H2 := hd M2
  have D2 := hd B2
  clear M2 B2 H1
  go_wp2_with fail
  refine (mq_new H2.out 1 s hs1 hs2).mono ?_
  rintro _ w3 ⟨x3, rfl, M3, B3⟩
  have H3 := hd M3
  have D3 := hd B3
  clear M3 B3 H2
  go_wp2_with fail
  refine (mr_new H3.out 3 s hs1 hs2).mono ?_
  rintro _ w4 ⟨x4, rfl, M4, B4⟩
  have H4 := hd M4
  have D4 := hd B4
  clear M4 B4 H3
  have z0 := HG.out.2.1
  have z1 := D1.out.size
  have z2 := D2.out.size
  have z3 := D3.out.size
  have hbx : w4.heap[w.heap.size]? = some (.cells #[.pointer none, .pointer none, .pointer none, .pointer none, .slice none 0 0, .slice none 0 0] 74 (0, 0)) := (D4.out.block _ (by omega)).trans ((D3.out.block _ (by omega)).trans ((D2.out.block _ (by omega)).trans ((D1.out.block _ (by omega)).trans HG.out.1)))
  have HD := hd (box_done H4.out (.inr ⟨Nat.le_refl _, by omega⟩) (Nat.le_refl _) hbx)
  have c0 := cell_row hbx 0
  have c1 := cell_row hbx 1
  have c2 := cell_row hbx 2
  have c3 := cell_row hbx 3
  have f0 := frozen_row hbx 0
  have f1 := frozen_row hbx 1
  have f2 := frozen_row hbx 2
  have f3 := frozen_row hbx 3
  simp at c0 c1 c2 c3
  clear hbx HG D1 D2 D3 D4 H4 z0 z1 z2 z3
  go_wp2_with fail
  refine bodyPost_ret (v := .tuple #[pt w.heap.size, .bool true]) (by simp [results, Try.results25, go_sem]) rfl ?_
  exact ⟨_, _, _, _, _, _, _, rfl, HD.out⟩

set_option maxRecDepth 100000 in
set_option maxHeartbeats 4000000 in
theorem boxed_gb (r : Nat) (hr1 : 1 ≤ r) (hr2 : r ≤ 4096) (s : Int) (hs : s < 1 ∨ 4096 < s) (w : World) : Calls Try.prog 25 #[.int .i64 r, .int .i64 s] w fun ex w' => ∃ x a b p q A B, ex = .returned (.tuple #[pt x, .bool true]) ∧ PB noObj w w' NoK x a b p q A B 0 := by
  obtain ⟨U, hU⟩ : ∃ U, U = w.alloc (.cells #[.pointer none, .pointer none, .pointer none, .pointer none, .slice none 0 0, .slice none 0 0] 74) := ⟨_, rfl⟩
  have hbU : RowKit.Below w.heap.size w U := by rw [hU]; exact (Below.refl _ _).alloc (Nat.le_refl _) _
  have zU : U.heap.size = w.heap.size + 1 := by rw [hU]; simp
  have hg : U.heap[w.heap.size]? = some (.cells #[.pointer none, .pointer none, .pointer none, .pointer none, .slice none 0 0, .slice none 0 0] 74 (0, 0)) := by rw [hU]; exact heap_alloc_new w _
  have H0 := hd (mo_adds (MO.nil' w) hbU)
  have HG := hd (And.intro hg (And.intro zU hU))
  clear hU hbU zU hg
  go_enter Try.func25, Try.ntmps25
  go_wp2_with fail
  rw [← HG.out.2.2]
  refine (mk_new H0.out 0 r hr1 hr2).mono ?_
  rintro _ w1 ⟨x1, rfl, M1, B1⟩
  have H1 := hd M1
  have D1 := hd B1
  clear M1 B1 H0
  go_wp2_with fail
  refine (mr_new H1.out 2 r hr1 hr2).mono ?_
  rintro _ w2 ⟨x2, rfl, M2, B2⟩
  have H2 := hd M2
  have D2 := hd B2
  clear M2 B2 H1
  go_wp2_with fail
  refine (q_new_bad s _ hs).mono ?_
  rintro _ _ ⟨rfl, rfl⟩
  go_wp2_with fail
  refine (r_new_bad s _ hs).mono ?_
  rintro _ _ ⟨rfl, rfl⟩
  go_wp2_with fail
  refine (mq_new H2.out 1 3 (by omega) (by omega)).mono ?_
  rintro _ w3 ⟨x3, rfl, M3, B3⟩
  have H3 := hd M3
  have D3 := hd B3
  clear M3 B3 H2
  go_wp2_with fail
  refine (mr_new H3.out 3 3 (by omega) (by omega)).mono ?_
  rintro _ w4 ⟨x4, rfl, M4, B4⟩
  have H4 := hd M4
  have D4 := hd B4
  clear M4 B4 H3
  have z0 := HG.out.2.1
  have z1 := D1.out.size
  have z2 := D2.out.size
  have z3 := D3.out.size
  have hbx : w4.heap[w.heap.size]? = some (.cells #[.pointer none, .pointer none, .pointer none, .pointer none, .slice none 0 0, .slice none 0 0] 74 (0, 0)) := (D4.out.block _ (by omega)).trans ((D3.out.block _ (by omega)).trans ((D2.out.block _ (by omega)).trans ((D1.out.block _ (by omega)).trans HG.out.1)))
  have HD := hd (box_done H4.out (.inr ⟨Nat.le_refl _, by omega⟩) (Nat.le_refl _) hbx)
  have c0 := cell_row hbx 0
  have c1 := cell_row hbx 1
  have c2 := cell_row hbx 2
  have c3 := cell_row hbx 3
  have f0 := frozen_row hbx 0
  have f1 := frozen_row hbx 1
  have f2 := frozen_row hbx 2
  have f3 := frozen_row hbx 3
  simp at c0 c1 c2 c3
  clear hbx HG D1 D2 D3 D4 H4 z0 z1 z2 z3
  go_wp2_with fail
  refine bodyPost_ret (v := .tuple #[pt w.heap.size, .bool true]) (by simp [results, Try.results25, go_sem]) rfl ?_
  exact ⟨_, _, _, _, _, _, _, rfl, HD.out⟩

set_option maxRecDepth 100000 in
set_option maxHeartbeats 4000000 in
theorem boxed_bg (r : Int) (hr : r < 1 ∨ 4096 < r) (s : Nat) (hs1 : 1 ≤ s) (hs2 : s ≤ 4096) (w : World) : Calls Try.prog 25 #[.int .i64 r, .int .i64 s] w fun ex w' => ∃ x a b p q A B, ex = .returned (.tuple #[pt x, .bool true]) ∧ PB noObj w w' NoK x a b p q A B 0 := by
  obtain ⟨U, hU⟩ : ∃ U, U = w.alloc (.cells #[.pointer none, .pointer none, .pointer none, .pointer none, .slice none 0 0, .slice none 0 0] 74) := ⟨_, rfl⟩
  have hbU : RowKit.Below w.heap.size w U := by rw [hU]; exact (Below.refl _ _).alloc (Nat.le_refl _) _
  have zU : U.heap.size = w.heap.size + 1 := by rw [hU]; simp
  have hg : U.heap[w.heap.size]? = some (.cells #[.pointer none, .pointer none, .pointer none, .pointer none, .slice none 0 0, .slice none 0 0] 74 (0, 0)) := by rw [hU]; exact heap_alloc_new w _
  have H0 := hd (mo_adds (MO.nil' w) hbU)
  have HG := hd (And.intro hg (And.intro zU hU))
  clear hU hbU zU hg
  go_enter Try.func25, Try.ntmps25
  go_wp2_with fail
  rw [← HG.out.2.2]
  refine (i_new_bad r _ hr).mono ?_
  rintro _ _ ⟨rfl, rfl⟩
  go_wp2_with fail
  refine (r_new_bad r _ hr).mono ?_
  rintro _ _ ⟨rfl, rfl⟩
  go_wp2_with fail
  refine (mk_new H0.out 0 3 (by omega) (by omega)).mono ?_
  rintro _ w1 ⟨x1, rfl, M1, B1⟩
  have H1 := hd M1
  have D1 := hd B1
  clear M1 B1 H0
  go_wp2_with fail
  refine (mr_new H1.out 2 3 (by omega) (by omega)).mono ?_
  rintro _ w2 ⟨x2, rfl, M2, B2⟩
  have H2 := hd M2
  have D2 := hd B2
  clear M2 B2 H1
  go_wp2_with fail
  refine (mq_new H2.out 1 s hs1 hs2).mono ?_
  rintro _ w3 ⟨x3, rfl, M3, B3⟩
  have H3 := hd M3
  have D3 := hd B3
  clear M3 B3 H2
  go_wp2_with fail
  refine (mr_new H3.out 3 s hs1 hs2).mono ?_
  rintro _ w4 ⟨x4, rfl, M4, B4⟩
  have H4 := hd M4
  have D4 := hd B4
  clear M4 B4 H3
  have z0 := HG.out.2.1
  have z1 := D1.out.size
  have z2 := D2.out.size
  have z3 := D3.out.size
  have hbx : w4.heap[w.heap.size]? = some (.cells #[.pointer none, .pointer none, .pointer none, .pointer none, .slice none 0 0, .slice none 0 0] 74 (0, 0)) := (D4.out.block _ (by omega)).trans ((D3.out.block _ (by omega)).trans ((D2.out.block _ (by omega)).trans ((D1.out.block _ (by omega)).trans HG.out.1)))
  have HD := hd (box_done H4.out (.inr ⟨Nat.le_refl _, by omega⟩) (Nat.le_refl _) hbx)
  have c0 := cell_row hbx 0
  have c1 := cell_row hbx 1
  have c2 := cell_row hbx 2
  have c3 := cell_row hbx 3
  have f0 := frozen_row hbx 0
  have f1 := frozen_row hbx 1
  have f2 := frozen_row hbx 2
  have f3 := frozen_row hbx 3
  simp at c0 c1 c2 c3
  clear hbx HG D1 D2 D3 D4 H4 z0 z1 z2 z3
  go_wp2_with fail
  refine bodyPost_ret (v := .tuple #[pt w.heap.size, .bool true]) (by simp [results, Try.results25, go_sem]) rfl ?_
  exact ⟨_, _, _, _, _, _, _, rfl, HD.out⟩

set_option maxRecDepth 100000 in
set_option maxHeartbeats 4000000 in
theorem boxed_bb (r : Int) (hr : r < 1 ∨ 4096 < r) (s : Int) (hs : s < 1 ∨ 4096 < s) (w : World) : Calls Try.prog 25 #[.int .i64 r, .int .i64 s] w fun ex w' => ∃ x a b p q A B, ex = .returned (.tuple #[pt x, .bool true]) ∧ PB noObj w w' NoK x a b p q A B 0 := by
  obtain ⟨U, hU⟩ : ∃ U, U = w.alloc (.cells #[.pointer none, .pointer none, .pointer none, .pointer none, .slice none 0 0, .slice none 0 0] 74) := ⟨_, rfl⟩
  have hbU : RowKit.Below w.heap.size w U := by rw [hU]; exact (Below.refl _ _).alloc (Nat.le_refl _) _
  have zU : U.heap.size = w.heap.size + 1 := by rw [hU]; simp
  have hg : U.heap[w.heap.size]? = some (.cells #[.pointer none, .pointer none, .pointer none, .pointer none, .slice none 0 0, .slice none 0 0] 74 (0, 0)) := by rw [hU]; exact heap_alloc_new w _
  have H0 := hd (mo_adds (MO.nil' w) hbU)
  have HG := hd (And.intro hg (And.intro zU hU))
  clear hU hbU zU hg
  go_enter Try.func25, Try.ntmps25
  go_wp2_with fail
  rw [← HG.out.2.2]
  refine (i_new_bad r _ hr).mono ?_
  rintro _ _ ⟨rfl, rfl⟩
  go_wp2_with fail
  refine (r_new_bad r _ hr).mono ?_
  rintro _ _ ⟨rfl, rfl⟩
  go_wp2_with fail
  refine (mk_new H0.out 0 3 (by omega) (by omega)).mono ?_
  rintro _ w1 ⟨x1, rfl, M1, B1⟩
  have H1 := hd M1
  have D1 := hd B1
  clear M1 B1 H0
  go_wp2_with fail
  refine (mr_new H1.out 2 3 (by omega) (by omega)).mono ?_
  rintro _ w2 ⟨x2, rfl, M2, B2⟩
  have H2 := hd M2
  have D2 := hd B2
  clear M2 B2 H1
  go_wp2_with fail
  refine (q_new_bad s _ hs).mono ?_
  rintro _ _ ⟨rfl, rfl⟩
  go_wp2_with fail
  refine (r_new_bad s _ hs).mono ?_
  rintro _ _ ⟨rfl, rfl⟩
  go_wp2_with fail
  refine (mq_new H2.out 1 3 (by omega) (by omega)).mono ?_
  rintro _ w3 ⟨x3, rfl, M3, B3⟩
  have H3 := hd M3
  have D3 := hd B3
  clear M3 B3 H2
  go_wp2_with fail
  refine (mr_new H3.out 3 3 (by omega) (by omega)).mono ?_
  rintro _ w4 ⟨x4, rfl, M4, B4⟩
  have H4 := hd M4
  have D4 := hd B4
  clear M4 B4 H3
  have z0 := HG.out.2.1
  have z1 := D1.out.size
  have z2 := D2.out.size
  have z3 := D3.out.size
  have hbx : w4.heap[w.heap.size]? = some (.cells #[.pointer none, .pointer none, .pointer none, .pointer none, .slice none 0 0, .slice none 0 0] 74 (0, 0)) := (D4.out.block _ (by omega)).trans ((D3.out.block _ (by omega)).trans ((D2.out.block _ (by omega)).trans ((D1.out.block _ (by omega)).trans HG.out.1)))
  have HD := hd (box_done H4.out (.inr ⟨Nat.le_refl _, by omega⟩) (Nat.le_refl _) hbx)
  have c0 := cell_row hbx 0
  have c1 := cell_row hbx 1
  have c2 := cell_row hbx 2
  have c3 := cell_row hbx 3
  have f0 := frozen_row hbx 0
  have f1 := frozen_row hbx 1
  have f2 := frozen_row hbx 2
  have f3 := frozen_row hbx 3
  simp at c0 c1 c2 c3
  clear hbx HG D1 D2 D3 D4 H4 z0 z1 z2 z3
  go_wp2_with fail
  refine bodyPost_ret (v := .tuple #[pt w.heap.size, .bool true]) (by simp [results, Try.results25, go_sem]) rfl ?_
  exact ⟨_, _, _, _, _, _, _, rfl, HD.out⟩

theorem boxed_any (r s : Int) (w : World) : Calls Try.prog 25 #[.int .i64 r, .int .i64 s] w fun ex w' => ∃ x a b p q A B, ex = .returned (.tuple #[pt x, .bool true]) ∧ PB noObj w w' NoK x a b p q A B 0 := by
  by_cases hr : r < 1 ∨ 4096 < r
  · by_cases hs : s < 1 ∨ 4096 < s
    · exact boxed_bb r hr s hs w
    · obtain ⟨S, rfl⟩ : ∃ S : Nat, s = S := ⟨s.toNat, by omega⟩
      exact boxed_bg r hr S (by omega) (by omega) w
  · obtain ⟨R, rfl⟩ : ∃ R : Nat, r = R := ⟨r.toNat, by omega⟩
    by_cases hs : s < 1 ∨ 4096 < s
    · exact boxed_gb R (by omega) (by omega) s hs w
    · obtain ⟨S, rfl⟩ : ∃ S : Nat, s = S := ⟨s.toNat, by omega⟩
      exact boxed_gg R (by omega) (by omega) S (by omega) (by omega) w

end Go.Proofs.Ytpjnhjijipcjkaa
