/-
  Kept blocks, taken into an object and back.
-/
import Derived.Test.YtpjnhjijipcjkaaQc
namespace Go.Proofs.Ytpjnhjijipcjkaa
open Go.RowKit
set_option linter.unusedVariables false

/-- G, and the blocks of K as they are in Wr. -/
def pinO (G : Thg) (K : Nat → Prop) (Wr : World) : Thg := fun w S => ∃ S1, G w S1 ∧ (∀ k, S k ↔ S1 k ∨ K k) ∧ (∀ k, S1 k → ¬ K k) ∧ (∀ k, K k → k < w.heap.size) ∧ ∀ k, K k → w.heap[k]? = Wr.heap[k]?
theorem frm_pin {G : Thg} (hG : Frm G) (K : Nat → Prop) (Wr : World) : Frm (pinO G K Wr) := ⟨fun w w' S T h hF hS => by
  obtain ⟨S1, h1, h2, h3, h4, h5⟩ := h
  refine ⟨S1, hG.fr _ _ _ _ h1 hF (fun k hk => hS k ((h2 k).2 (.inl hk))), h2, h3, fun k hk => Nat.lt_of_lt_of_le (h4 k hk) hF.size, fun k hk => ?_⟩
  rw [hF.block k (h4 k hk) (hS k ((h2 k).2 (.inr hk)))]
  exact h5 k hk, fun w S h k hk => by
  obtain ⟨S1, h1, h2, h3, h4, h5⟩ := h
  rcases (h2 k).1 hk with h | h
  · exact hG.old _ _ h1 k h
  · exact h4 k h⟩

section
variable {w0 w : World} {K : Nat → Prop} {F : Nat → Thg}
open Classical in
theorem MO.pin (h : MO w0 w K F) (i : Nat) (hK : ∀ k, K k → w0.heap.size ≤ k) : MO w0 w NoK (setO F i (pinO (F i) K w)) := by
  obtain ⟨T, hx, hk⟩ := h.tags
  refine ⟨⟨fun k => if K k then i + 1 else T k, fun j => ?_, fun k hk => hk.elim⟩, h.base, fun k hk => hk.elim, fun j => ?_⟩
  · obtain ⟨S, h1, h2⟩ := hx j
    have hd : ∀ k, S k → ¬ K k := fun k hs hkk => by have := (h2 k hs).1; have := hk k hkk; omega
    by_cases hji : j = i
    · subst hji
      rw [setO_same]
      refine ⟨fun k => S k ∨ K k, ⟨S, h1, fun k => Iff.rfl, hd, h.old, fun k _ => rfl⟩, fun k hs => ?_⟩
      rcases hs with hs | hs
      · exact ⟨(if_neg (hd k hs)).trans (h2 k hs).1, (h2 k hs).2⟩
      · exact ⟨if_pos hs, hK k hs⟩
    · rw [setO_other F _ hji]
      refine ⟨S, h1, fun k hs => ?_⟩
      exact ⟨(if_neg (hd k hs)).trans (h2 k hs).1, (h2 k hs).2⟩
  · by_cases hji : j = i
    · subst hji
      rw [setO_same]
      exact frm_pin (h.frm j) _ _
    · rw [setO_other F _ hji]
      exact h.frm j
open Classical in
theorem MO.unpin {G : Thg} {Wr : World} (h : MO w0 w NoK F) (i : Nat) (hi : F i = pinO G K Wr) (hG : Frm G) : MO w0 w K (setO F i G) ∧ KP K Wr w := by
  obtain ⟨T, hx, -⟩ := h.tags
  obtain ⟨S, h1, h2⟩ := hx i
  rw [hi] at h1
  obtain ⟨S1, g1, g2, g3, g4, g5⟩ := h1
  have hT : ∀ k, K k → T k = i + 1 := fun k hk => (h2 k ((g2 k).2 (.inr hk))).1
  refine ⟨⟨⟨fun k => if K k then 0 else T k, fun j => ?_, fun k hk => if_pos hk⟩, h.base, g4, fun j => ?_⟩, g5⟩
  · by_cases hji : j = i
    · subst hji
      rw [setO_same]
      refine ⟨S1, g1, fun k hs => ?_⟩
      have h5 := h2 k ((g2 k).2 (.inl hs))
      exact ⟨(if_neg (g3 k hs)).trans h5.1, h5.2⟩
    · rw [setO_other F G hji]
      obtain ⟨Sj, h3, h4⟩ := hx j
      refine ⟨Sj, h3, fun k hs => ?_⟩
      exact ⟨(if_neg (fun hk => by have := hT k hk; have := (h4 k hs).1; omega)).trans (h4 k hs).1, (h4 k hs).2⟩
  · by_cases hji : j = i
    · subst hji
      rw [setO_same]
      exact hG
    · rw [setO_other F G hji]
      exact h.frm j
end

theorem FP_5 (G G' : Thg) (x a b r q : Nat) (A B A' B' : Rb) (m : Nat) : setO (FP G x a b r q A B A' B' m) 5 G' = FP G' x a b r q A B A' B' m := by
  funext j
  rcases j with _ | _ | _ | _ | _ | _ | j <;> rfl

/-- What holds at no kept block holds at any. -/
theorem lift {G : Thg} {w0 w : World} {K : Nat → Prop} {x a b r q : Nat} {A B : Rb} {m : Nat} {f : FuncId} {args : Array Value} {v : Value}
    (C : ∀ G, PB G w0 w NoK x a b r q A B m → Calls Try.prog f args w fun ex w' => ex = .returned v ∧ ∃ A' B' m', m' ≤ 44 ∧ PB G w0 w' NoK x a b r q A' B' m')
    (h : PB G w0 w K x a b r q A B m) (hK : ∀ k, K k → w0.heap.size ≤ k) : Calls Try.prog f args w fun ex w' => ex = .returned v ∧ ∃ A' B' m', m' ≤ 44 ∧ PB G w0 w' K x a b r q A' B' m' ∧ KP K w w' := by
  have h1 := MO.pin h 5 hK
  rw [FP_5] at h1
  refine (C _ h1).mono ?_
  rintro e w' ⟨rfl, A', B', m', hm', h2⟩
  obtain ⟨h3, h4⟩ := MO.unpin h2 5 (G := G) (K := K) (Wr := w) rfl (h.frm 5)
  rw [FP_5] at h3
  exact ⟨rfl, A', B', m', hm', h3, h4⟩

section
variable {G : Thg} {w0 w : World} {K : Nat → Prop} {x a b r q : Nat} {A B : Rb} {m : Nat}
theorem step_k (h : PB G w0 w K x a b r q A B m) (hK : ∀ k, K k → w0.heap.size ≤ k) (hm : m ≤ 44) (k s n v : Int) (ia : Option Addr) (il ic : Nat) :
    Calls Try.prog 26 #[pt x, opA k s n v ia il ic] w fun ex w' => ex = .returned (.bool true) ∧ ∃ A' B' m', m' ≤ 44 ∧ PB G w0 w' K x a b r q A' B' m' ∧ KP K w w' :=
  lift (fun G' h' => step_any h' hm k s n v ia il ic) h hK
end

end Go.Proofs.Ytpjnhjijipcjkaa
