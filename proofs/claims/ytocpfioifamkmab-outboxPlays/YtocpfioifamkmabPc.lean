/-
  lists.
-/
import Derived.Test.YtocpfioifamkmabPb
namespace Go.Proofs.Ytocpfioifamkmab
open Go.RowKit
set_option linter.unusedVariables false

/-- The blocks of K, and those that a call has made. -/
def KN (K : Nat → Prop) (a b : Nat) : Nat → Prop := fun k => K k ∨ (a ≤ k ∧ k < b)

theorem PA.sameX {w0 w : World} {K : Nat → Prop} {N : Nat} {X Y : Nat → Nat} {px py : Nat → St} (h : PA w0 w K N X Y px py) {i : Nat} (hi : i < N) : ∃ S, BoxAt w (X i) (px i) S ∧ ∀ p' w', BoxAt w' (X i) p' S → Fr S w w' → PA w0 w' (KN K w.heap.size w'.heap.size) N X Y (upd px i p') py ∧ KP K w w' := by
  obtain ⟨T, hx, hy, hk⟩ := h.tags
  obtain ⟨S, h1, h2⟩ := hx i hi
  refine ⟨S, h1, fun p' w' h3 h5 => ?_⟩
  have hs := h.base.size
  refine ⟨⟨⟨tagN w.heap.size 0 T, fun j hj => ?_, fun j hj => ?_, fun k hk' => ?_⟩, h.base.trans (h5.below hs (fun k hk => (h2 k hk).2)), ?_⟩, fun k hk' => h5.block k (h.old k hk') (fun hS => by have := (h2 k hS).1; have := hk k hk'; omega)⟩
  · by_cases hji : j = i
    · subst hji
      rw [upd_same]
      refine ⟨S, h3, fun k hk => ?_⟩
      have := h1.old k hk
      rw [tag_old (by omega)]
      exact h2 k hk
    · obtain ⟨Sj, h6, h7⟩ := hx j hj
      refine ⟨Sj, ?_, fun k hk => ?_⟩
      · rw [show upd px i p' j = px j by simp [upd, hji]]
        exact h6.fr h5 (fun k hk hs => by have := (h2 k hs).1; have := (h7 k hk).1; omega)
      · have := h6.old k hk
        rw [tag_old (by omega)]
        exact h7 k hk
  · obtain ⟨Sj, h6, h7⟩ := hy j hj
    refine ⟨Sj, h6.fr h5 (fun k hk hs => by have := (h2 k hs).1; have := (h7 k hk).1; omega), fun k hk => ?_⟩
    have := h6.old k hk
    rw [tag_old (by omega)]
    exact h7 k hk
  · rcases hk' with hk' | hk'
    · have := h.old k hk'
      rw [tag_old (by omega)]
      exact hk k hk'
    · rw [tag_new hk'.1]
  · rintro k (hk | hk)
    · exact Nat.lt_of_lt_of_le (h.old k hk) h5.size
    · exact hk.2

section
variable {w0 w : World} {P : Nat} {K : Nat → Prop} {X Y : Nat → Nat} {px py : Nat → St}
theorem pp_due (h : PP w0 w P K X Y px py) {i : Nat} (hi : i < 2) : Calls Try.prog 22 #[.pointer (some ⟨X i, 0, none⟩)] w fun e w' => ∃ u, e = .returned u ∧ IL w' w.heap.size u (dueL (px i)) ∧ PP w0 w' P (KN K w.heap.size w'.heap.size) X Y (upd px i (dueS (px i))) py ∧ KP K w w' := by
  obtain ⟨S, h1, h2⟩ := h.pa.sameX hi
  refine (due_any (X i) (px i) S w h1).mono ?_
  rintro e w' ⟨u, rfl, h3, h4, h5⟩
  obtain ⟨h6, h7⟩ := h2 _ w' h4 h5
  exact ⟨u, rfl, h3, ⟨h6, .inl h.k, h.new, (h7 P h.k).trans h.box⟩, h7⟩
theorem pp_rdue (h : PP w0 w P K X Y px py) {i : Nat} (hi : i < 2) : Calls Try.prog 24 #[.pointer (some ⟨Y i, 0, none⟩)] w fun e w' => ∃ u, e = .returned u ∧ RL w' w.heap.size u (dueL (py i)) ∧ PP w0 w' P K X Y px (upd py i (dueS (py i))) ∧ KP K w w' := by
  obtain ⟨S, h1, h2⟩ := h.pa.nowY hi
  refine (rdue_any (Y i) (py i) S w h1).mono ?_
  rintro e w' ⟨u, rfl, h3, h4⟩
  obtain ⟨h6, h7⟩ := h2 _ w' h4
  exact ⟨u, rfl, h3, h.step h6 h7, h7⟩
theorem pp_left (h : PP w0 w P K X Y px py) {i : Nat} (hi : i < 2) : Calls Try.prog 25 #[.pointer (some ⟨X i, 0, none⟩)] w fun e w' => ∃ u, e = .returned u ∧ IL w' w.heap.size u (leftL (px i)) ∧ PP w0 w' P (KN K w.heap.size w'.heap.size) X Y px py ∧ KP K w w' := by
  obtain ⟨S, ⟨v, β, h1, -⟩, -⟩ := h.pa.nowX hi
  refine (left_bk (X i) (px i) v β w h1).mono ?_
  rintro e w' ⟨u, rfl, h3, h4⟩
  have h7 := (h.pa.below h4).2
  refine ⟨u, rfl, h3, ⟨h.pa.adds h4 (fun k hk => hk.imp id (fun h => h.1)) ?_, .inl h.k, h.new, (h7 P h.k).trans h.box⟩, h7⟩
  rintro k (hk | hk)
  · exact Nat.lt_of_lt_of_le (h.pa.old k hk) h4.size
  · exact hk.2
theorem pp_rleft (h : PP w0 w P K X Y px py) {i : Nat} (hi : i < 2) : Calls Try.prog 26 #[.pointer (some ⟨Y i, 0, none⟩)] w fun e w' => ∃ u, e = .returned u ∧ RL w' w.heap.size u (leftL (py i)) ∧ PP w0 w' P K X Y px py ∧ KP K w w' := by
  obtain ⟨S, h1, h2⟩ := h.pa.nowY hi
  refine (rleft_any (Y i) (py i) S w h1).mono ?_
  rintro e w' ⟨u, rfl, h3, h4⟩
  obtain ⟨h6, h7⟩ := h2 _ w' h4
  rw [upd_self] at h6
  exact ⟨u, rfl, h3, h.step h6 h7, h7⟩
theorem PP.okX (h : PP w0 w P K X Y px py) {i : Nat} (hi : i < 2) : (px i).ok := by
  obtain ⟨S, h1, -⟩ := h.pa.nowX hi
  exact h1.ok
end

theorem IL.kp {w w' : World} {b : Nat} {v : Value} {xs : List (Int × Int)} (h : IL w b v xs) (hk : ∀ k, b ≤ k → k < w.heap.size → w'.heap[k]? = w.heap[k]?) : IL w' b v xs := by
  obtain ⟨g, ⟨cap, hv, cur, hh, r⟩, hg⟩ := h
  exact ⟨g, ⟨cap, hv, cur, (hk g hg (block_lt hh)).trans hh, r⟩, hg⟩

theorem dueL_short (p : St) (h : p.ok) : (dueL p).length ≤ 4096 := by
  have := h.w2
  unfold dueL
  rw [items_len]
  simp [dueN]
  omega
theorem leftL_short (p : St) (h : p.ok) : (leftL p).length ≤ 4096 := by
  have := h.few
  unfold leftL
  rw [items_len]
  omega

set_option maxRecDepth 100000 in
set_option maxHeartbeats 8000000 in
theorem lists_any (w0 : World) (P : Nat) (X Y : Nat → Nat) (p : Nat → St) (k s n : Int) (w : World) (h : PP w0 w P (· = P) X Y p p) :
    Calls Try.prog 6 #[.pointer (some ⟨P, 0, none⟩), .agg #[.int .i64 k, .int .i64 s, .int .i64 n]] w fun e w' => e = .returned (.bool true) ∧ ∃ p', PP w0 w' P (· = P) X Y p' p' := by
  obtain ⟨i, hi⟩ : ∃ i, (s % 2).toNat = i := ⟨_, rfl⟩
  have hi2 : i < 2 := by omega
  have H1 := hd (h.below ((Below.refl _ _).alloc (Nat.le_refl _) (.cells #[.int .i64 k, .int .i64 s, .int .i64 n] 28)))
  obtain ⟨x1, -⟩ := H1.out.boxI hi2
  clear h
  have i1 : (i : Int) < 2 := by omega
  by_cases hk : k = 2
  · subst hk
    go_enter Try.func6, Try.ntmps6
    go_wp2_with fail
    refine (site_any s _).mono ?_
    rintro e w1 ⟨rfl, hw1⟩
    rw [hi]
    rw [← hw1] at H1 x1
    have c0 : w1.cell? ⟨w.heap.size, 0, none⟩ = some (.int .i64 2) := by
      rw [hw1, cell_row (heap_alloc_new _ _)]
      rfl
    clear hi hw1
    go_wp2_with fail
    refine (pp_due H1.out hi2).mono ?_
    rintro e w2 ⟨u, rfl, h2, h3, -⟩
    obtain ⟨gu, cu, rfl, -⟩ := h2.form
    obtain ⟨-, y2⟩ := h3.boxI hi2
    have HL := hd (And.intro h2 h3)
    have OK := hd (H1.out.okX hi2)
    clear h2 h3 H1 c0 x1
    go_wp2_with fail
    refine (pp_rdue HL.out.2 hi2).mono ?_
    rintro e w3 ⟨u', rfl, h4, h5, h6⟩
    have I3 : IL w3 w1.heap.size _ (dueL (p i)) := HL.out.1.kp (fun k h1 h2 => h6 k (.inr ⟨h1, h2⟩))
    have C := hd (sameItems_true _ _ _ _ _ w3 I3 h4 (dueL_short _ OK.out))
    obtain ⟨β, hS, -⟩ := h4
    obtain ⟨a', c', rfl, -⟩ := hS.form
    have H5 := hd h5
    clear hS h5 h6 I3 HL y2
    go_wp2_with fail
    refine C.out.mono ?_
    rintro e w4 ⟨rfl, h7⟩
    have Z : Hid (∃ p', PP w0 w4 P (· = P) X Y p' p') := by
      have h8 := H5.out.below h7
      exact ⟨_, h8.pa.less (fun k hk => .inl hk), rfl, h8.new, h8.box⟩
    clear h7 C H5
    go_wp2
    go_ret
    exact ⟨rfl, Z.out⟩
  · have hk' : ¬ k = 2 := hk
    go_enter Try.func6, Try.ntmps6
    go_wp2_with fail
    refine (site_any s _).mono ?_
    rintro e w1 ⟨rfl, hw1⟩
    rw [hi]
    rw [← hw1] at H1 x1
    have c0 : w1.cell? ⟨w.heap.size, 0, none⟩ = some (.int .i64 k) := by
      rw [hw1, cell_row (heap_alloc_new _ _)]
      rfl
    clear hi hw1
    go_wp2_with fail
    refine (pp_left H1.out hi2).mono ?_
    rintro e w2 ⟨u, rfl, h2, h3, -⟩
    obtain ⟨gu, cu, rfl, -⟩ := h2.form
    obtain ⟨-, y2⟩ := h3.boxI hi2
    have HL := hd (And.intro h2 h3)
    have OK := hd (H1.out.okX hi2)
    clear h2 h3 H1 c0 x1
    go_wp2_with fail
    refine (pp_rleft HL.out.2 hi2).mono ?_
    rintro e w3 ⟨u', rfl, h4, h5, h6⟩
    have I3 : IL w3 w1.heap.size _ (leftL (p i)) := HL.out.1.kp (fun k h1 h2 => h6 k (.inr ⟨h1, h2⟩))
    have C := hd (sameItems_true _ _ _ _ _ w3 I3 h4 (leftL_short _ OK.out))
    obtain ⟨β, hS, -⟩ := h4
    obtain ⟨a', c', rfl, -⟩ := hS.form
    have H5 := hd h5
    clear hS h5 h6 I3 HL y2
    go_wp2_with fail
    refine C.out.mono ?_
    rintro e w4 ⟨rfl, h7⟩
    have Z : Hid (∃ p', PP w0 w4 P (· = P) X Y p' p') := by
      have h8 := H5.out.below h7
      exact ⟨_, h8.pa.less (fun k hk => .inl hk), rfl, h8.new, h8.box⟩
    clear h7 C H5
    go_wp2
    go_ret
    exact ⟨rfl, Z.out⟩

end Go.Proofs.Ytocpfioifamkmab
