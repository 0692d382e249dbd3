/-
  Several objects that share nothing.
-/
import Derived.Test.YtpjnhjijipcjkaaMA
namespace Go.Proofs.Ytpjnhjijipcjkaa
open Go.RowKit
set_option linter.unusedVariables false

/-- What an object is, in a world, with its blocks: it stays where they stay. -/
structure Frm (F : World → (Nat → Prop) → Prop) : Prop where
  fr : ∀ w w' S T, F w S → Fr T w w' → (∀ k, S k → ¬ T k) → F w' S
  old : ∀ w S, F w S → ∀ k, S k → k < w.heap.size

abbrev Thg := World → (Nat → Prop) → Prop
def noObj : Thg := fun _ S => ∀ k, ¬ S k
theorem frm_no : Frm noObj := ⟨fun _ _ _ _ h _ _ => h, fun _ _ h k hk => (h k hk).elim⟩
def boxO (x : Nat) (p : St) : Thg := fun w S => BoxAt w x p S
theorem frm_box (x : Nat) (p : St) : Frm (boxO x p) := ⟨fun _ _ _ _ h hF hS => h.fr hF hS, fun _ _ h => h.old⟩

/-- The objects F, that share nothing; the blocks of K are none of theirs. -/
structure MO (w0 w : World) (K : Nat → Prop) (F : Nat → Thg) : Prop where
  tags : ∃ T : Nat → Nat, (∀ i, ∃ S, F i w S ∧ ∀ k, S k → T k = i + 1 ∧ w0.heap.size ≤ k) ∧ ∀ k, K k → T k = 0
  base : Below w0.heap.size w0 w
  old : ∀ k, K k → k < w.heap.size
  frm : ∀ i, Frm (F i)

def setO (F : Nat → Thg) (i : Nat) (G : Thg) : Nat → Thg := fun j => if j = i then G else F j
theorem setO_same (F : Nat → Thg) (i : Nat) (G : Thg) : setO F i G i = G := by simp [setO]
theorem setO_other (F : Nat → Thg) {i j : Nat} (G : Thg) (h : j ≠ i) : setO F i G j = F j := by simp [setO, h]

def tagN (n i : Nat) (T : Nat → Nat) : Nat → Nat := fun k => if n ≤ k then i else T k
theorem tag_new {n i k : Nat} {T : Nat → Nat} (h : n ≤ k) : tagN n i T k = i := by simp [tagN, h]
theorem tag_old {n i k : Nat} {T : Nat → Nat} (h : k < n) : tagN n i T k = T k := by simp [tagN]; omega

theorem MO.nil (w : World) : MO w w NoK (fun _ => noObj) := ⟨⟨fun _ => 0, fun i => ⟨fun _ => False, fun k h => h, fun k h => h.elim⟩, fun k hk => hk.elim⟩, Below.refl _ _, fun k hk => hk.elim, fun _ => frm_no⟩

section
variable {w0 w w' : World} {K : Nat → Prop} {F : Nat → Thg}

theorem MO.adds {K' : Nat → Prop} (h : MO w0 w K F) (hb : Below w.heap.size w w') (h1 : ∀ k, K' k → K k ∨ w.heap.size ≤ k) (h2 : ∀ k, K' k → k < w'.heap.size) : MO w0 w' K' F := by
  obtain ⟨T, hx, hk⟩ := h.tags
  refine ⟨⟨tagN w.heap.size 0 T, fun i => ?_, fun k hk' => ?_⟩, h.base.trans (hb.mono h.base.size), h2, h.frm⟩
  · obtain ⟨S, h3, h4⟩ := hx i
    refine ⟨S, (h.frm i).fr _ _ S (fun _ => False) h3 (Fr.of_below hb) (fun _ _ h => h), fun k hk => ?_⟩
    rw [tag_old ((h.frm i).old _ _ h3 k hk)]
    exact h4 k hk
  · by_cases hn : w.heap.size ≤ k
    · rw [tag_new hn]
    · rw [tag_old (by omega)]
      rcases h1 k hk' with h5 | h5
      · exact hk k h5
      · exact absurd h5 hn
theorem MO.below (h : MO w0 w K F) (hb : Below w.heap.size w w') : MO w0 w' K F := h.adds hb (fun k hk => .inl hk) (fun k hk => Nat.lt_of_lt_of_le (h.old k hk) hb.size)
theorem MO.kp (h : MO w0 w K F) (hb : Below w.heap.size w w') : KP K w w' := fun k hk => hb.block k (h.old k hk)
theorem MO.less {K' : Nat → Prop} (h : MO w0 w K F) (h1 : ∀ k, K' k → K k) : MO w0 w K' F := h.adds (Below.refl _ _) (fun k hk => .inl (h1 k hk)) (fun k hk => h.old k (h1 k hk))

theorem MO.now (h : MO w0 w K F) (i : Nat) : ∃ S, F i w S ∧ ∀ (G : Thg) w' S', Frm G → G w' S' → (∀ k, S' k → S k ∨ w.heap.size ≤ k) → Fr S w w' → MO w0 w' K (setO F i G) ∧ KP K w w' := by
  obtain ⟨T, hx, hk⟩ := h.tags
  obtain ⟨S, h1, h2⟩ := hx i
  refine ⟨S, h1, fun G w' S' hG h3 h4 h5 => ?_⟩
  have hs := h.base.size
  refine ⟨⟨⟨tagN w.heap.size (i + 1) T, fun j => ?_, fun k hk' => ?_⟩, h.base.trans (h5.below hs (fun k hk => (h2 k hk).2)), fun k hk => Nat.lt_of_lt_of_le (h.old k hk) h5.size, fun j => ?_⟩, fun k hk' => h5.block k (h.old k hk') (fun hS => by have := (h2 k hS).1; have := hk k hk'; omega)⟩
  · by_cases hji : j = i
    · subst hji
      rw [setO_same]
      refine ⟨S', h3, fun k hk => ?_⟩
      rcases h4 k hk with h6 | h6
      · rw [tag_old ((h.frm j).old _ _ h1 k h6)]
        exact h2 k h6
      · rw [tag_new h6]
        exact ⟨rfl, by omega⟩
    · obtain ⟨Sj, h6, h7⟩ := hx j
      rw [setO_other F G hji]
      refine ⟨Sj, (h.frm j).fr _ _ _ _ h6 h5 (fun k hk hs => by have := (h2 k hs).1; have := (h7 k hk).1; omega), fun k hk => ?_⟩
      rw [tag_old ((h.frm j).old _ _ h6 k hk)]
      exact h7 k hk
  · rw [tag_old (h.old k hk')]
    exact hk k hk'
  · by_cases hji : j = i
    · subst hji
      rw [setO_same]
      exact hG
    · rw [setO_other F G hji]
      exact h.frm j

/-- A new object at the place i. -/
theorem MO.put (h : MO w0 w K F) (i : Nat) {G : Thg} {S' : Nat → Prop} (hG : Frm G) (hg : G w' S') (hS : ∀ k, S' k → w.heap.size ≤ k) (hb : Below w.heap.size w w') : MO w0 w' K (setO F i G) := by
  obtain ⟨S, h1, h2⟩ := h.now i
  exact (h2 G w' S' hG hg (fun k hk => .inr (hS k hk)) (Fr.of_below hb)).1

/-- The object blocks stay the same: what the call has made besides may be kept. -/
theorem MO.same (h : MO w0 w K F) (i : Nat) : ∃ S, F i w S ∧ ∀ (G : Thg) w', Frm G → G w' S → Fr S w w' → MO w0 w' (fun k => K k ∨ (w.heap.size ≤ k ∧ k < w'.heap.size)) (setO F i G) ∧ KP K w w' := by
  obtain ⟨T, hx, hk⟩ := h.tags
  obtain ⟨S, h1, h2⟩ := hx i
  refine ⟨S, h1, fun G w' hG h3 h5 => ?_⟩
  have hs := h.base.size
  refine ⟨⟨⟨tagN w.heap.size 0 T, fun j => ?_, fun k hk' => ?_⟩, h.base.trans (h5.below hs (fun k hk => (h2 k hk).2)), ?_, fun j => ?_⟩, fun k hk' => h5.block k (h.old k hk') (fun hS => by have := (h2 k hS).1; have := hk k hk'; omega)⟩
  · by_cases hji : j = i
    · subst hji
      rw [setO_same]
      refine ⟨S, h3, fun k hk => ?_⟩
      rw [tag_old ((h.frm j).old _ _ h1 k hk)]
      exact h2 k hk
    · obtain ⟨Sj, h6, h7⟩ := hx j
      rw [setO_other F G hji]
      refine ⟨Sj, (h.frm j).fr _ _ _ _ h6 h5 (fun k hk hs => by have := (h2 k hs).1; have := (h7 k hk).1; omega), fun k hk => ?_⟩
      rw [tag_old ((h.frm j).old _ _ h6 k hk)]
      exact h7 k hk
  · rcases hk' with hk' | hk'
    · rw [tag_old (h.old k hk')]
      exact hk k hk'
    · rw [tag_new hk'.1]
  · rintro k (hk | hk)
    · exact Nat.lt_of_lt_of_le (h.old k hk) h5.size
    · exact hk.2
  · by_cases hji : j = i
    · subst hji
      rw [setO_same]
      exact hG
    · rw [setO_other F G hji]
      exact h.frm j

/-- A write into a block of K. -/
theorem MO.write {T : Nat → Prop} (h : MO w0 w K F) (hF : Fr T w w') (hT : ∀ k, T k → K k ∧ w0.heap.size ≤ k) : MO w0 w' K F := by
  obtain ⟨U, hx, hk⟩ := h.tags
  refine ⟨⟨U, fun j => ?_, hk⟩, h.base.trans (hF.below h.base.size (fun k hk => (hT k hk).2)), fun k hk => Nat.lt_of_lt_of_le (h.old k hk) hF.size, h.frm⟩
  obtain ⟨S, h3, h4⟩ := hx j
  exact ⟨S, (h.frm j).fr _ _ _ _ h3 hF (fun k hk' ht => by have := (h4 k hk').1; have := hk k (hT k ht).1; omega), h4⟩

section
variable {x : Nat} {p : St}
theorem mo_push (h : MO w0 w K F) (i : Nat) (hi : F i = boxO x p) (y : Int) : Calls Try.prog 12 #[.pointer (some ⟨x, 0, none⟩), .int .i64 y] w fun e w' => e = .returned (.tuple #[.int .i64 (pushN p), .int .i64 (pushE p)]) ∧ MO w0 w' K (setO F i (boxO x (pushS p y))) ∧ KP K w w' := by
  obtain ⟨S, h1, h2⟩ := h.now i
  rw [hi] at h1
  refine (push_any x p y S w h1).mono ?_
  rintro e w' ⟨rfl, S', h3, h4, h5⟩
  exact ⟨rfl, h2 _ w' S' (frm_box _ _) h3 h4 h5⟩
theorem mo_ack (h : MO w0 w K F) (i : Nat) (hi : F i = boxO x p) (n : Int) : Calls Try.prog 19 #[.pointer (some ⟨x, 0, none⟩), .int .i64 n] w fun e w' => e = .returned (.int .i64 (ackE p n)) ∧ MO w0 w' K (setO F i (boxO x (ackS p n))) ∧ KP K w w' := by
  obtain ⟨S, h1, h2⟩ := h.now i
  rw [hi] at h1
  refine (ack_any x p n S w h1).mono ?_
  rintro e w' ⟨rfl, S', h3, h4, h5⟩
  exact ⟨rfl, h2 _ w' S' (frm_box _ _) h3 h4 h5⟩
theorem mo_last (h : MO w0 w K F) (i : Nat) (hi : F i = boxO x p) : Calls Try.prog 34 #[.pointer (some ⟨x, 0, none⟩)] w fun e w' => e = .returned (.int .i64 p.last) ∧ MO w0 w' K F ∧ KP K w w' := by
  obtain ⟨S, h1, -⟩ := h.now i
  rw [hi] at h1
  obtain ⟨v, β, hK, -⟩ := h1
  refine (last_bk x p v β w hK).mono ?_
  rintro e w' ⟨rfl, hb⟩
  exact ⟨rfl, h.below hb, h.kp hb⟩
theorem mo_acked (h : MO w0 w K F) (i : Nat) (hi : F i = boxO x p) : Calls Try.prog 20 #[.pointer (some ⟨x, 0, none⟩)] w fun e w' => e = .returned (.int .i64 p.a) ∧ w' = w := by
  obtain ⟨S, h1, -⟩ := h.now i
  rw [hi] at h1
  obtain ⟨v, β, hK, -⟩ := h1
  exact acked_bk x p v β w hK
theorem mo_due (h : MO w0 w K F) (i : Nat) (hi : F i = boxO x p) : Calls Try.prog 13 #[.pointer (some ⟨x, 0, none⟩)] w fun e w' => ∃ u, e = .returned u ∧ IL w' w.heap.size u (dueL p) ∧ MO w0 w' (fun k => K k ∨ (w.heap.size ≤ k ∧ k < w'.heap.size)) (setO F i (boxO x (dueS p))) ∧ KP K w w' := by
  obtain ⟨S, h1, h2⟩ := h.same i
  rw [hi] at h1
  refine (due_any x p S w h1).mono ?_
  rintro e w' ⟨u, rfl, h3, h4, h5⟩
  obtain ⟨h6, h7⟩ := h2 _ w' (frm_box x (dueS p)) h4 h5
  exact ⟨u, rfl, h3, h6, h7⟩
theorem mo_ok (h : MO w0 w K F) (i : Nat) (hi : F i = boxO x p) : p.ok := by
  obtain ⟨S, h1, -⟩ := h.now i
  rw [hi] at h1
  exact h1.ok
end
end

theorem IL.kp {w w' : World} {b : Nat} {v : Value} {xs : List (Int × Int)} (h : IL w b v xs) (hk : ∀ k, b ≤ k → k < w.heap.size → w'.heap[k]? = w.heap[k]?) : IL w' b v xs := by
  obtain ⟨g, ⟨cap, hv, cur, hh, r⟩, hg⟩ := h
  exact ⟨g, ⟨cap, hv, cur, (hk g hg (block_lt hh)).trans hh, r⟩, hg⟩

end Go.Proofs.Ytpjnhjijipcjkaa
