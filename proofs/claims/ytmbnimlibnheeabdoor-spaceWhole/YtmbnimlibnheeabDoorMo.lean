/-
  Several objects that share nothing: spaces among them.
-/
import Derived.Test.YtmbnimlibnheeabDoorSc
import Derived.Test.YtmbnimlibnheeabDoorSd
namespace Go.Proofs.YtmbnimlibnheeabDoor
open Go.RowKit
set_option linter.unusedVariables false

/-- The blocks of K are as they were. -/
def KP (K : Nat → Prop) (w w' : World) : Prop := ∀ k, K k → w'.heap[k]? = w.heap[k]?
theorem KP.refl (K : Nat → Prop) (w : World) : KP K w w := fun _ _ => rfl
theorem KP.trans {K : Nat → Prop} {a b c : World} (h : KP K a b) (h2 : KP K b c) : KP K a c := fun k hk => (h2 k hk).trans (h k hk)
def NoK : Nat → Prop := fun _ => False

/-- What an object is, in a world, with its blocks: it stays where they stay. -/
structure Frm (F : World → (Nat → Prop) → Prop) : Prop where
  fr : ∀ w w' S T, F w S → Fr T w w' → (∀ k, S k → ¬ T k) → F w' S
  old : ∀ w S, F w S → ∀ k, S k → k < w.heap.size

abbrev Thg := World → (Nat → Prop) → Prop
def noObj : Thg := fun _ S => ∀ k, ¬ S k
theorem frm_no : Frm noObj := ⟨fun _ _ _ _ h _ _ => h, fun _ _ h k hk => (h k hk).elim⟩
/-- The objects F, that share nothing; the blocks of K are none of theirs. -/
structure MO (w0 w : World) (K : Nat → Prop) (F : Nat → Thg) : Prop where
  tags : ∃ T : Nat → Nat, (∀ i, ∃ S, F i w S ∧ ∀ k, S k → T k = i + 1 ∧ w0.heap.size ≤ k) ∧ ∀ k, K k → T k = 0
  base : Below w0.heap.size w0 w
  old : ∀ k, K k → k < w.heap.size
  frm : ∀ i, Frm (F i)

def setO (F : Nat → Thg) (i : Nat) (G : Thg) : Nat → Thg := fun j => if j = i then G else F j
theorem setO_same (F : Nat → Thg) (i : Nat) (G : Thg) : setO F i G i = G := by simp [setO]
theorem setO_other (F : Nat → Thg) {i j : Nat} (G : Thg) (h : j ≠ i) : setO F i G j = F j := by simp [setO, h]

def tagN (n i : Nat) (T : Nat → Nat) : Nat → Nat := fun k => if n ≤ k then i else T k
theorem tag_new {n i k : Nat} {T : Nat → Nat} (h : n ≤ k) : tagN n i T k = i := by simp [tagN, h]
theorem tag_old {n i k : Nat} {T : Nat → Nat} (h : k < n) : tagN n i T k = T k := by simp [tagN]; omega

theorem MO.nil (w : World) : MO w w NoK (fun _ => noObj) := ⟨⟨fun _ => 0, fun i => ⟨fun _ => False, fun k h => h, fun k h => h.elim⟩, fun k hk => hk.elim⟩, Below.refl _ _, fun k hk => hk.elim, fun _ => frm_no⟩

section
variable {w0 w w' : World} {K : Nat → Prop} {F : Nat → Thg}

theorem MO.adds {K' : Nat → Prop} (h : MO w0 w K F) (hb : Below w.heap.size w w') (h1 : ∀ k, K' k → K k ∨ w.heap.size ≤ k) (h2 : ∀ k, K' k → k < w'.heap.size) : MO w0 w' K' F := by
  obtain ⟨T, hx, hk⟩ := h.tags
  refine ⟨⟨tagN w.heap.size 0 T, fun i => ?_, fun k hk' => ?_⟩, h.base.trans (hb.mono h.base.size), h2, h.frm⟩
  · obtain ⟨S, h3, h4⟩ := hx i
    refine ⟨S, (h.frm i).fr _ _ S (fun _ => False) h3 (Fr.of_below hb) (fun _ _ h => h), fun k hk => ?_⟩
    rw [tag_old ((h.frm i).old _ _ h3 k hk)]
    exact h4 k hk
  · by_cases hn : w.heap.size ≤ k
    · rw [tag_new hn]
    · rw [tag_old (by omega)]
      rcases h1 k hk' with h5 | h5
      · exact hk k h5
      · exact absurd h5 hn
theorem MO.below (h : MO w0 w K F) (hb : Below w.heap.size w w') : MO w0 w' K F := h.adds hb (fun k hk => .inl hk) (fun k hk => Nat.lt_of_lt_of_le (h.old k hk) hb.size)
theorem MO.kp (h : MO w0 w K F) (hb : Below w.heap.size w w') : KP K w w' := fun k hk => hb.block k (h.old k hk)
theorem MO.less {K' : Nat → Prop} (h : MO w0 w K F) (h1 : ∀ k, K' k → K k) : MO w0 w K' F := h.adds (Below.refl _ _) (fun k hk => .inl (h1 k hk)) (fun k hk => h.old k (h1 k hk))

theorem MO.now (h : MO w0 w K F) (i : Nat) : ∃ S, F i w S ∧ ∀ (G : Thg) w' S', Frm G → G w' S' → (∀ k, S' k → S k ∨ w.heap.size ≤ k) → Fr S w w' → MO w0 w' K (setO F i G) ∧ KP K w w' := by
  obtain ⟨T, hx, hk⟩ := h.tags
  obtain ⟨S, h1, h2⟩ := hx i
  refine ⟨S, h1, fun G w' S' hG h3 h4 h5 => ?_⟩
  have hs := h.base.size
  refine ⟨⟨⟨tagN w.heap.size (i + 1) T, fun j => ?_, fun k hk' => ?_⟩, h.base.trans (h5.below hs (fun k hk => (h2 k hk).2)), fun k hk => Nat.lt_of_lt_of_le (h.old k hk) h5.size, fun j => ?_⟩, fun k hk' => h5.block k (h.old k hk') (fun hS => by have := (h2 k hS).1; have := hk k hk'; omega)⟩
  · by_cases hji : j = i
    · subst hji
      rw [setO_same]
      refine ⟨S', h3, fun k hk => ?_⟩
      rcases h4 k hk with h6 | h6
      · rw [tag_old ((h.frm j).old _ _ h1 k h6)]
        exact h2 k h6
      · rw [tag_new h6]
        exact ⟨rfl, by omega⟩
    · obtain ⟨Sj, h6, h7⟩ := hx j
      rw [setO_other F G hji]
      refine ⟨Sj, (h.frm j).fr _ _ _ _ h6 h5 (fun k hk hs => by have := (h2 k hs).1; have := (h7 k hk).1; omega), fun k hk => ?_⟩
      rw [tag_old ((h.frm j).old _ _ h6 k hk)]
      exact h7 k hk
  · rw [tag_old (h.old k hk')]
    exact hk k hk'
  · by_cases hji : j = i
    · subst hji
      rw [setO_same]
      exact hG
    · rw [setO_other F G hji]
      exact h.frm j

/-- A new object at the place i. -/
theorem MO.put (h : MO w0 w K F) (i : Nat) {G : Thg} {S' : Nat → Prop} (hG : Frm G) (hg : G w' S') (hS : ∀ k, S' k → w.heap.size ≤ k) (hb : Below w.heap.size w w') : MO w0 w' K (setO F i G) := by
  obtain ⟨S, h1, h2⟩ := h.now i
  exact (h2 G w' S' hG hg (fun k hk => .inr (hS k hk)) (Fr.of_below hb)).1

/-- The object blocks stay the same: what the call has made besides may be kept. -/
theorem MO.same (h : MO w0 w K F) (i : Nat) : ∃ S, F i w S ∧ ∀ (G : Thg) w', Frm G → G w' S → Fr S w w' → MO w0 w' (fun k => K k ∨ (w.heap.size ≤ k ∧ k < w'.heap.size)) (setO F i G) ∧ KP K w w' := by
  obtain ⟨T, hx, hk⟩ := h.tags
  obtain ⟨S, h1, h2⟩ := hx i
  refine ⟨S, h1, fun G w' hG h3 h5 => ?_⟩
  have hs := h.base.size
  refine ⟨⟨⟨tagN w.heap.size 0 T, fun j => ?_, fun k hk' => ?_⟩, h.base.trans (h5.below hs (fun k hk => (h2 k hk).2)), ?_, fun j => ?_⟩, fun k hk' => h5.block k (h.old k hk') (fun hS => by have := (h2 k hS).1; have := hk k hk'; omega)⟩
  · by_cases hji : j = i
    · subst hji
      rw [setO_same]
      refine ⟨S, h3, fun k hk => ?_⟩
      rw [tag_old ((h.frm j).old _ _ h1 k hk)]
      exact h2 k hk
    · obtain ⟨Sj, h6, h7⟩ := hx j
      rw [setO_other F G hji]
      refine ⟨Sj, (h.frm j).fr _ _ _ _ h6 h5 (fun k hk hs => by have := (h2 k hs).1; have := (h7 k hk).1; omega), fun k hk => ?_⟩
      rw [tag_old ((h.frm j).old _ _ h6 k hk)]
      exact h7 k hk
  · rcases hk' with hk' | hk'
    · rw [tag_old (h.old k hk')]
      exact hk k hk'
    · rw [tag_new hk'.1]
  · rintro k (hk | hk)
    · exact Nat.lt_of_lt_of_le (h.old k hk) h5.size
    · exact hk.2
  · by_cases hji : j = i
    · subst hji
      rw [setO_same]
      exact hG
    · rw [setO_other F G hji]
      exact h.frm j

/-- A write into a block of K. -/
theorem MO.write {T : Nat → Prop} (h : MO w0 w K F) (hF : Fr T w w') (hT : ∀ k, T k → K k ∧ w0.heap.size ≤ k) : MO w0 w' K F := by
  obtain ⟨U, hx, hk⟩ := h.tags
  refine ⟨⟨U, fun j => ?_, hk⟩, h.base.trans (hF.below h.base.size (fun k hk => (hT k hk).2)), fun k hk => Nat.lt_of_lt_of_le (h.old k hk) hF.size, h.frm⟩
  obtain ⟨S, h3, h4⟩ := hx j
  exact ⟨S, (h.frm j).fr _ _ _ _ h3 hF (fun k hk' ht => by have := (h4 k hk').1; have := hk k (hT k ht).1; omega), h4⟩


end

def spO (x : Nat) (p : Sp) : Thg := fun w S => SpAt w x p S
theorem frm_sp (x : Nat) (p : Sp) : Frm (spO x p) := ⟨fun _ _ _ _ h hF hS => h.fr hF hS, fun _ _ h => h.1.old⟩

section
variable {w0 w w' : World} {K : Nat → Prop} {F : Nat → Thg} {x : Nat} {p : Sp}
theorem mo_ok (h : MO w0 w K F) (i : Nat) (hi : F i = spO x p) : p.ok := by
  obtain ⟨S, h1, -⟩ := h.now i
  rw [hi] at h1
  exact h1.2
theorem mo_new (h : MO w0 w K F) (i : Nat) (f : Bool) : Calls Tryd.prog 11 #[.bool f] w fun e w' => ∃ x, e = .returned (.pointer (some ⟨x, 0, none⟩)) ∧ MO w0 w' K (setO F i (spO x ⟨f, [], 0⟩)) ∧ Below w.heap.size w w' := by
  refine (new_any f w).mono ?_
  rintro e w' ⟨x, rfl, S, h1, h2, h3⟩
  exact ⟨x, rfl, h.put i (frm_sp _ _) h1 h2 h3, h3⟩
theorem mo_last (h : MO w0 w K F) (i : Nat) (hi : F i = spO x p) : Calls Tryd.prog 14 #[.pointer (some ⟨x, 0, none⟩)] w fun e w' => e = .returned (.int .i64 p.last) ∧ w' = w := by
  obtain ⟨S, h1, -⟩ := h.now i
  rw [hi] at h1
  exact last_any x p S w h1
theorem mo_keep (h : MO w0 w K F) (i : Nat) (hi : F i = spO x p) (m : Int) (o : OpE) (ho : OkOp o) : Calls Tryd.prog 25 #[.pointer (some ⟨x, 0, none⟩), .int .i64 m, o.val] w fun e w' => e = .returned (.int .i64 (keepE p m o)) ∧ MO w0 w' K (setO F i (spO x (keepS p m o))) ∧ KP K w w' := by
  obtain ⟨S, h1, h2⟩ := h.now i
  rw [hi] at h1
  refine (keep_any x p m o S w h1 ho).mono ?_
  rintro e w' ⟨rfl, S', h3, h4, h5⟩
  exact ⟨rfl, h2 _ w' S' (frm_sp _ _) h3 h4 h5⟩
theorem mo_drop (h : MO w0 w K F) (i : Nat) (hi : F i = spO x p) (m : Int) : Calls Tryd.prog 21 #[.pointer (some ⟨x, 0, none⟩), .int .i64 m] w fun e w' => e = .returned (.int .i64 (dropN p m)) ∧ MO w0 w' K (setO F i (spO x (dropS p m))) ∧ KP K w w' := by
  obtain ⟨S, h1, h2⟩ := h.now i
  rw [hi] at h1
  refine (dropTo_any x p m S w h1).mono ?_
  rintro e w' ⟨rfl, h3, h5⟩
  exact ⟨rfl, h2 _ w' S (frm_sp _ _) h3 (fun k hk => .inl hk) h5⟩
theorem mo_queue (h : MO w0 w K F) (i : Nat) (hi : F i = spO x p) : Calls Tryd.prog 17 #[.pointer (some ⟨x, 0, none⟩)] w fun e w' => ∃ u, e = .returned u ∧ ML w' w.heap.size u p.q ∧ MO w0 w' (fun k => K k ∨ (w.heap.size ≤ k ∧ k < w'.heap.size)) F ∧ KP K w w' ∧ Below w.heap.size w w' := by
  obtain ⟨S, h1, -⟩ := h.now i
  rw [hi] at h1
  refine (queue_any x p S w h1).mono ?_
  rintro e w' ⟨u, rfl, h3, hb⟩
  refine ⟨u, rfl, h3, h.adds hb (fun k hk => hk.imp id (fun h => h.1)) ?_, h.kp hb, hb⟩
  rintro k (hk | hk)
  · exact Nat.lt_of_lt_of_le (h.old k hk) hb.size
  · exact hk.2
end

theorem ML.kp {w w' : World} {b : Nat} {v : Value} {xs : List (Int × OpE)} (h : ML w b v xs) (hk : ∀ k, b ≤ k → k < w.heap.size → w'.heap[k]? = w.heap[k]?) : ML w' b v xs := by
  obtain ⟨g, ⟨cap, hv, cur, hh, r⟩, hg⟩ := h
  exact ⟨g, ⟨cap, hv, cur, (hk g hg (block_lt hh)).trans hh, r⟩, hg⟩

end Go.Proofs.YtmbnimlibnheeabDoor
