/-
  Inboxes of operations and of the document among several objects.
-/
import Derived.Test.YtpjnhjijipcjkaaPa
namespace Go.Proofs.Ytpjnhjijipcjkaa
open Go.RowKit
set_option linter.unusedVariables false

def opO (x : Nat) (p : Rb) : Thg := fun w S => InAt 106 w x p.ob S
theorem frm_op (x : Nat) (p : Rb) : Frm (opO x p) := ⟨fun _ _ _ _ h hF hS => h.fr hF hS, fun _ _ h => h.old⟩
def iiO (x : Nat) (p : Rb) : Thg := fun w S => InAt 82 w x p.ib S
theorem frm_ii (x : Nat) (p : Rb) : Frm (iiO x p) := ⟨fun _ _ _ _ h hF hS => h.fr hF hS, fun _ _ h => h.old⟩
theorem iH_ok (L : List (Nat × Int)) : ∀ q ∈ iH L, IOk q.2 := by
  intro q hq
  obtain ⟨r, -, rfl⟩ := List.mem_map.1 hq
  exact ⟨_, rfl⟩
def rzS (p : Rb) : Rb := ⟨p.R, 0, []⟩

section
variable {w0 w : World} {K : Nat → Prop} {F : Nat → Thg} {x : Nat} {p : Rb}
theorem mk_put (h : MO w0 w K F) (i : Nat) (hi : F i = iiO x p) (n y : Int) : Calls Try.prog 14 #[.pointer (some ⟨x, 0, none⟩), .int .i64 n, .int .i64 y] w fun e w' => e = .returned (.int .i64 (iputE p.ib n)) ∧ MO w0 w' K (setO F i (iiO x (rputS p n y))) ∧ KP K w w' := by
  obtain ⟨S, h1, h2⟩ := h.now i
  rw [hi] at h1
  refine (i_put x p.ib n y S w h1).mono ?_
  rintro e w' ⟨rfl, h3, h5⟩
  exact ⟨rfl, h2 _ w' S (frm_ii _ _) (by unfold iiO; rw [rputS_ib]; exact h3) (fun k hk => .inl hk) h5⟩
theorem mk_toss (h : MO w0 w K F) (i : Nat) (hi : F i = iiO x p) : Calls Try.prog 38 #[.pointer (some ⟨x, 0, none⟩)] w fun e w' => e = .returned (.int .i64 (itossE p.ib)) ∧ MO w0 w' K (setO F i (iiO x (rtossS p))) ∧ KP K w w' := by
  obtain ⟨S, h1, h2⟩ := h.now i
  rw [hi] at h1
  have ho := h1.ok
  refine (i_toss x p.ib S w h1).mono ?_
  rintro e w' ⟨rfl, h3, h5⟩
  exact ⟨rfl, h2 _ w' S (frm_ii _ _) (by unfold iiO; rw [rtossS_ib ho]; exact h3) (fun k hk => .inl hk) h5⟩
theorem mk_pop (h : MO w0 w K F) (i : Nat) (hi : F i = iiO x p) : Calls Try.prog 16 #[.pointer (some ⟨x, 0, none⟩)] w fun e w' => e = .returned (.int .i64 (itossE p.ib)) ∧ MO w0 w' K (setO F i (iiO x (rpopS p))) ∧ KP K w w' := by
  obtain ⟨S, h1, h2⟩ := h.now i
  rw [hi] at h1
  have ho := h1.ok
  refine (i_pop x p.ib S w h1).mono ?_
  rintro e w' ⟨rfl, h3, h5⟩
  exact ⟨rfl, h2 _ w' S (frm_ii _ _) (by unfold iiO; rw [rpopS_ib ho]; exact h3) (fun k hk => .inl hk) h5⟩
theorem mk_reset (h : MO w0 w K F) (i : Nat) (hi : F i = iiO x p) : Calls Try.prog 64 #[.pointer (some ⟨x, 0, none⟩)] w fun e w' => e = .returned (.tuple #[]) ∧ MO w0 w' K (setO F i (iiO x (rzS p))) ∧ KP K w w' := by
  obtain ⟨S, h1, h2⟩ := h.now i
  rw [hi] at h1
  refine (i_reset x p.ib S w h1).mono ?_
  rintro e w' ⟨rfl, h3, h5⟩
  exact ⟨rfl, h2 _ w' S (frm_ii _ _) h3 (fun k hk => .inl hk) h5⟩
theorem mk_cum (h : MO w0 w K F) (i : Nat) (hi : F i = iiO x p) : Calls Try.prog 17 #[.pointer (some ⟨x, 0, none⟩)] w fun e w' => e = .returned (.int .i64 p.c) ∧ w' = w := by
  obtain ⟨S, h1, -⟩ := h.now i
  rw [hi] at h1
  obtain ⟨b, hK, -⟩ := h1
  exact i_cum x b p.ib w hK
theorem mk_head (h : MO w0 w K F) (i : Nat) (hi : F i = iiO x p) : Calls Try.prog 15 #[.pointer (some ⟨x, 0, none⟩)] w fun e w' => e = .returned (.tuple #[atK p.ib.H (p.c + 1) iz, .bool p.ib.hd]) ∧ MO w0 w' K F ∧ RowKit.Below w.heap.size w w' := by
  obtain ⟨S, h1, -⟩ := h.now i
  rw [hi] at h1
  obtain ⟨b, hK, -⟩ := h1
  refine (i_head x b p.ib w hK (iH_ok _)).mono ?_
  rintro e w' ⟨rfl, z, rfl⟩
  exact ⟨rfl, h.below (below_drewN' _ _), below_drewN' _ _⟩
theorem mo_adds {w' : World} (h : MO w0 w K F) (hb : RowKit.Below w.heap.size w w') : MO w0 w' (fun k => K k ∨ (w.heap.size ≤ k ∧ k < w'.heap.size)) F := by
  refine h.adds hb (fun k hk => hk.imp id (fun h => h.1)) ?_
  rintro k (hk | hk)
  · exact Nat.lt_of_lt_of_le (h.old k hk) hb.size
  · exact hk.2
theorem mk_held (h : MO w0 w K F) (i : Nat) (hi : F i = iiO x p) : Calls Try.prog 21 #[.pointer (some ⟨x, 0, none⟩)] w fun e w' => ∃ v, e = .returned v ∧ IV w' w.heap.size v (heldL p.ib) ∧ MO w0 w' (fun k => K k ∨ (w.heap.size ≤ k ∧ k < w'.heap.size)) F ∧ RowKit.Below w.heap.size w w' := by
  obtain ⟨S, h1, -⟩ := h.now i
  rw [hi] at h1
  obtain ⟨b, hK, -⟩ := h1
  refine (i_held x b p.ib w hK).mono ?_
  rintro e w' ⟨u, rfl, h3, hb⟩
  exact ⟨u, rfl, h3, mo_adds h hb, hb⟩

theorem mq_put (h : MO w0 w K F) (i : Nat) (hi : F i = opO x p) (n y : Int) : Calls Try.prog 58 #[.pointer (some ⟨x, 0, none⟩), .int .i64 n, opV y] w fun e w' => e = .returned (.int .i64 (iputE p.ib n)) ∧ MO w0 w' K (setO F i (opO x (rputS p n y))) ∧ KP K w w' := by
  obtain ⟨S, h1, h2⟩ := h.now i
  rw [hi] at h1
  refine (q_put x p.ob n _ _ _ _ _ S w h1 (oH_ok _)).mono ?_
  rintro e w' ⟨rfl, h3, h5⟩
  rw [ob_putE]
  exact ⟨rfl, h2 _ w' S (frm_op _ _) (by unfold opO; rw [ob_putS]; exact h3) (fun k hk => .inl hk) h5⟩
theorem mq_ok (h : MO w0 w K F) (j : Nat) {r : Nat} (hj : F j = refO r p) : p.ib.ok := by
  obtain ⟨S, h1, -⟩ := h.now j
  rw [hj] at h1
  obtain ⟨v, β, hK, -⟩ := h1
  exact hK.ok
theorem mq_toss (h : MO w0 w K F) (i : Nat) (hi : F i = opO x p) (ho : p.ib.ok) : Calls Try.prog 62 #[.pointer (some ⟨x, 0, none⟩)] w fun e w' => e = .returned (.int .i64 (itossE p.ib)) ∧ MO w0 w' K (setO F i (opO x (rtossS p))) ∧ KP K w w' := by
  obtain ⟨S, h1, h2⟩ := h.now i
  rw [hi] at h1
  refine (q_toss x p.ob S w h1 (oH_ok _)).mono ?_
  rintro e w' ⟨rfl, h3, h5⟩
  rw [ob_tossE]
  exact ⟨rfl, h2 _ w' S (frm_op _ _) (by unfold opO; rw [ob_tossS ho]; exact h3) (fun k hk => .inl hk) h5⟩
theorem mq_pop (h : MO w0 w K F) (i : Nat) (hi : F i = opO x p) (ho : p.ib.ok) : Calls Try.prog 60 #[.pointer (some ⟨x, 0, none⟩)] w fun e w' => e = .returned (.int .i64 (itossE p.ib)) ∧ MO w0 w' K (setO F i (opO x (rpopS p))) ∧ KP K w w' := by
  obtain ⟨S, h1, h2⟩ := h.now i
  rw [hi] at h1
  refine (q_pop x p.ob S w h1 (oH_ok _)).mono ?_
  rintro e w' ⟨rfl, h3, h5⟩
  rw [ob_tossE]
  exact ⟨rfl, h2 _ w' S (frm_op _ _) (by unfold opO; rw [ob_popS ho]; exact h3) (fun k hk => .inl hk) h5⟩
theorem mq_reset (h : MO w0 w K F) (i : Nat) (hi : F i = opO x p) : Calls Try.prog 65 #[.pointer (some ⟨x, 0, none⟩)] w fun e w' => e = .returned (.tuple #[]) ∧ MO w0 w' K (setO F i (opO x (rzS p))) ∧ KP K w w' := by
  obtain ⟨S, h1, h2⟩ := h.now i
  rw [hi] at h1
  refine (q_reset x p.ob S w h1).mono ?_
  rintro e w' ⟨rfl, h3, h5⟩
  exact ⟨rfl, h2 _ w' S (frm_op _ _) h3 (fun k hk => .inl hk) h5⟩
theorem mq_cum (h : MO w0 w K F) (i : Nat) (hi : F i = opO x p) : Calls Try.prog 45 #[.pointer (some ⟨x, 0, none⟩)] w fun e w' => e = .returned (.int .i64 p.c) ∧ w' = w := by
  obtain ⟨S, h1, -⟩ := h.now i
  rw [hi] at h1
  obtain ⟨b, hK, -⟩ := h1
  exact q_cum x b p.ob w hK
theorem mq_head (h : MO w0 w K F) (i : Nat) (hi : F i = opO x p) : Calls Try.prog 47 #[.pointer (some ⟨x, 0, none⟩)] w fun e w' => e = .returned (.tuple #[atK (oH p.L) (p.c + 1) oz, .bool p.ib.hd]) ∧ MO w0 w' K F ∧ RowKit.Below w.heap.size w w' := by
  obtain ⟨S, h1, -⟩ := h.now i
  rw [hi] at h1
  obtain ⟨b, hK, -⟩ := h1
  refine (q_head x b p.ob w hK (oH_ok _)).mono ?_
  rintro e w' ⟨rfl, hb⟩
  rw [ob_hd]
  exact ⟨rfl, h.below hb, hb⟩
theorem mq_held (h : MO w0 w K F) (i : Nat) (hi : F i = opO x p) : Calls Try.prog 49 #[.pointer (some ⟨x, 0, none⟩)] w fun e w' => ∃ v, e = .returned v ∧ IV w' w.heap.size v (heldL p.ib) ∧ MO w0 w' (fun k => K k ∨ (w.heap.size ≤ k ∧ k < w'.heap.size)) F ∧ RowKit.Below w.heap.size w w' := by
  obtain ⟨S, h1, -⟩ := h.now i
  rw [hi] at h1
  obtain ⟨b, hK, -⟩ := h1
  refine (q_held x b p.ob w hK).mono ?_
  rintro e w' ⟨u, rfl, h3, hb⟩
  rw [ob_held] at h3
  exact ⟨u, rfl, h3, mo_adds h hb, hb⟩

theorem mr_put (h : MO w0 w K F) (i : Nat) (hi : F i = refO x p) (n y : Int) : Calls Try.prog 57 #[.pointer (some ⟨x, 0, none⟩), .int .i64 n, .int .i64 y] w fun e w' => e = .returned (.int .i64 (iputE p.ib n)) ∧ MO w0 w' K (setO F i (refO x (rputS p n y))) ∧ KP K w w' := by
  obtain ⟨S, h1, h2⟩ := h.now i
  rw [hi] at h1
  refine (r_put x p n y S w h1).mono ?_
  rintro e w' ⟨rfl, S', h3, h4, h5⟩
  exact ⟨rfl, h2 _ w' S' (frm_ref _ _) h3 h4 h5⟩
theorem mr_toss (h : MO w0 w K F) (i : Nat) (hi : F i = refO x p) : Calls Try.prog 61 #[.pointer (some ⟨x, 0, none⟩)] w fun e w' => e = .returned (.int .i64 (itossE p.ib)) ∧ MO w0 w' K (setO F i (refO x (rtossS p))) ∧ KP K w w' := by
  obtain ⟨S, h1, h2⟩ := h.now i
  rw [hi] at h1
  refine (r_toss x p S w h1).mono ?_
  rintro e w' ⟨rfl, S', h3, h4, h5⟩
  exact ⟨rfl, h2 _ w' S' (frm_ref _ _) h3 h4 h5⟩
theorem mr_pop (h : MO w0 w K F) (i : Nat) (hi : F i = refO x p) : Calls Try.prog 59 #[.pointer (some ⟨x, 0, none⟩)] w fun e w' => e = .returned (.int .i64 (itossE p.ib)) ∧ MO w0 w' K (setO F i (refO x (rpopS p))) ∧ KP K w w' := by
  obtain ⟨S, h1, h2⟩ := h.now i
  rw [hi] at h1
  refine (r_pop x p S w h1).mono ?_
  rintro e w' ⟨rfl, S', h3, h4, h5⟩
  exact ⟨rfl, h2 _ w' S' (frm_ref _ _) h3 h4 h5⟩
theorem mr_reset (h : MO w0 w K F) (i : Nat) (hi : F i = refO x p) : Calls Try.prog 63 #[.pointer (some ⟨x, 0, none⟩)] w fun e w' => e = .returned (.tuple #[]) ∧ MO w0 w' K (setO F i (refO x (rzS p))) ∧ KP K w w' := by
  obtain ⟨S, h1, h2⟩ := h.now i
  rw [hi] at h1
  refine (r_reset x p S w h1).mono ?_
  rintro e w' ⟨rfl, S', h3, h4, h5⟩
  exact ⟨rfl, h2 _ w' S' (frm_ref _ _) h3 h4 h5⟩
theorem mr_cum (h : MO w0 w K F) (i : Nat) (hi : F i = refO x p) : Calls Try.prog 33 #[.pointer (some ⟨x, 0, none⟩)] w fun e w' => e = .returned (.int .i64 p.c) ∧ w' = w := by
  obtain ⟨S, h1, -⟩ := h.now i
  rw [hi] at h1
  obtain ⟨v, β, hK, -⟩ := h1
  exact r_cum x p v β w hK
theorem mr_head (h : MO w0 w K F) (i : Nat) (hi : F i = refO x p) : Calls Try.prog 46 #[.pointer (some ⟨x, 0, none⟩)] w fun e w' => e = .returned (.tuple #[atK p.ib.H (p.c + 1) iz, .bool p.ib.hd]) ∧ w' = w := by
  obtain ⟨S, h1, -⟩ := h.now i
  rw [hi] at h1
  obtain ⟨v, β, hK, -⟩ := h1
  exact r_head x p v β w hK
theorem mr_held (h : MO w0 w K F) (i : Nat) (hi : F i = refO x p) : Calls Try.prog 50 #[.pointer (some ⟨x, 0, none⟩)] w fun e w' => ∃ v, e = .returned v ∧ IV w' w.heap.size v (heldL p.ib) ∧ MO w0 w' (fun k => K k ∨ (w.heap.size ≤ k ∧ k < w'.heap.size)) F ∧ RowKit.Below w.heap.size w w' := by
  obtain ⟨S, h1, -⟩ := h.now i
  rw [hi] at h1
  obtain ⟨v, β, hK, -⟩ := h1
  refine (r_held x p v β w hK (fun g hg => hK.row.lt g hg)).mono ?_
  rintro e w' ⟨u, rfl, h3, hb⟩
  exact ⟨u, rfl, h3, mo_adds h hb, hb⟩
end

end Go.Proofs.Ytpjnhjijipcjkaa
