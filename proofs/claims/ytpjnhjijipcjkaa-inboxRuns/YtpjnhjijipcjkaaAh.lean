/-
  An outbox that the call has made.
-/
import Derived.Test.YtpjnhjijipcjkaaAg
namespace Go.Proofs.Ytpjnhjijipcjkaa
open Go.RowKit
set_option linter.unusedVariables false

/-- A list of ints that came in. -/
def IsI (w : World) (a : Option Addr) (n c : Nat) (X : Nat → Int) : Prop :=
  n ≤ c ∧ c ≤ 9223372036854775807 ∧ (0 < n → ∃ b off, a = some ⟨b, off, none⟩ ∧ b < w.heap.size ∧ ∀ i, i < n → w.cell? ⟨b, off + i, none⟩ = some (.int .i64 (X i)))
theorem IsI.below {w w' : World} {B : Nat} {a : Option Addr} {n c : Nat} {X : Nat → Int} (h : IsI w a n c X) (hb : Below B w w') (hB : w.heap.size ≤ B) : IsI w' a n c X := by
  obtain ⟨h2, h3, h4⟩ := h
  refine ⟨h2, h3, fun hn => ?_⟩
  obtain ⟨b, off, e, hlt, hc⟩ := h4 hn
  refine ⟨b, off, e, Nat.lt_of_lt_of_le hlt hb.size, fun i hi => ?_⟩
  rw [hb.cell (p := ⟨b, off + i, none⟩) (Nat.lt_of_lt_of_le hlt hB)]
  exact hc i hi

/-- The call, begun at w0, has made an outbox at block x; all that was there is as it was; the blocks of K are not the outbox. -/
structure BX (w0 w : World) (x : Nat) (p : St) (K : Nat → Prop) : Prop where
  at_ : ∃ S, BoxAt w x p S ∧ ∀ k, S k → w0.heap.size ≤ k ∧ ¬ K k
  base : Below w0.heap.size w0 w
  old : ∀ k, K k → k < w.heap.size

/-- The blocks of K are as they were. -/
def KP (K : Nat → Prop) (w w' : World) : Prop := ∀ k, K k → w'.heap[k]? = w.heap[k]?
theorem KP.refl (K : Nat → Prop) (w : World) : KP K w w := fun _ _ => rfl
theorem KP.trans {K : Nat → Prop} {a b c : World} (h : KP K a b) (h2 : KP K b c) : KP K a c := fun k hk => (h2 k hk).trans (h k hk)

def NoK : Nat → Prop := fun _ => False

theorem BX.ok {w0 w : World} {x : Nat} {p : St} {K : Nat → Prop} (h : BX w0 w x p K) : p.ok := by
  obtain ⟨S, h1, h2⟩ := h.at_
  exact h1.ok
theorem BX.adds {w0 w w' : World} {x : Nat} {p : St} {K K' : Nat → Prop} (h : BX w0 w x p K) (hb : Below w.heap.size w w') (h1 : ∀ k, K' k → K k ∨ w.heap.size ≤ k) (h2 : ∀ k, K' k → k < w'.heap.size) : BX w0 w' x p K' := by
  obtain ⟨S, h3, h4⟩ := h.at_
  refine ⟨⟨S, h3.below hb, fun k hk => ⟨(h4 k hk).1, fun hn => ?_⟩⟩, h.base.trans (hb.mono h.base.size), h2⟩
  rcases h1 k hn with h5 | h5
  · exact (h4 k hk).2 h5
  · have := h3.old k hk; omega
theorem BX.below {w0 w w' : World} {x : Nat} {p : St} {K : Nat → Prop} (h : BX w0 w x p K) (hb : Below w.heap.size w w') : BX w0 w' x p K := h.adds hb (fun k hk => .inl hk) (fun k hk => Nat.lt_of_lt_of_le (h.old k hk) hb.size)
theorem BX.less {w0 w : World} {x : Nat} {p : St} {K K' : Nat → Prop} (h : BX w0 w x p K) (h1 : ∀ k, K' k → K k) : BX w0 w x p K' := h.adds (Below.refl _ _) (fun k hk => .inl (h1 k hk)) (fun k hk => h.old k (h1 k hk))
theorem BX.free {w0 w : World} {x : Nat} {p : St} {K : Nat → Prop} (h : BX w0 w x p K) : BX w0 w x p NoK := h.less (fun k hk => hk.elim)
theorem BX.kp {w0 w w' : World} {x : Nat} {p : St} {K : Nat → Prop} (h : BX w0 w x p K) (hb : Below w.heap.size w w') : KP K w w' := fun k hk => hb.block k (h.old k hk)
theorem BX.now {w0 w w' : World} {x : Nat} {p p' : St} {K S : Nat → Prop} (h : BX w0 w x p K) (h2 : ∀ k, S k → w0.heap.size ≤ k ∧ ¬ K k) (hN : Now w w' x p' S) : BX w0 w' x p' K ∧ KP K w w' := by
  obtain ⟨S', h3, h4, h5⟩ := hN
  have hs := h.base.size
  refine ⟨⟨⟨S', h3, fun k hk => ?_⟩, h.base.trans (h5.below hs (fun k hk => (h2 k hk).1)), fun k hk => Nat.lt_of_lt_of_le (h.old k hk) h5.size⟩, fun k hk => h5.block k (h.old k hk) (fun hs => (h2 k hs).2 hk)⟩
  rcases h4 k hk with h6 | h6
  · exact h2 k h6
  · exact ⟨by omega, fun hn => by have := h.old k hn; omega⟩

theorem bx_new (W : Nat) (w : World) (h1 : 1 ≤ W) (h2 : W ≤ 4096) : Calls Try.prog 10 #[.int .i64 W] w fun e w' => ∃ x, e = .returned (.tuple #[.pointer (some ⟨x, 0, none⟩), .int .i64 0]) ∧ BX w w' x ⟨W, 0, 0, []⟩ NoK := by
  refine (new_good W w h1 h2).mono ?_
  rintro e w' ⟨x, rfl, S, h1, h2, h3⟩
  exact ⟨x, rfl, ⟨S, h1, fun k hk => ⟨h2 k hk, fun h => h⟩⟩, h3, fun k hk => hk.elim⟩
section
variable {w0 w : World} {x : Nat} {p : St} {K : Nat → Prop}
theorem bx_push (h : BX w0 w x p K) (y : Int) : Calls Try.prog 12 #[.pointer (some ⟨x, 0, none⟩), .int .i64 y] w fun e w' => e = .returned (.tuple #[.int .i64 (pushN p), .int .i64 (pushE p)]) ∧ BX w0 w' x (pushS p y) K ∧ KP K w w' := by
  obtain ⟨S, h1, h2⟩ := h.at_
  refine (push_any x p y S w h1).mono ?_
  rintro e w' ⟨rfl, h3⟩
  exact ⟨rfl, h.now h2 h3⟩
theorem bx_ack (h : BX w0 w x p K) (n : Int) : Calls Try.prog 19 #[.pointer (some ⟨x, 0, none⟩), .int .i64 n] w fun e w' => e = .returned (.int .i64 (ackE p n)) ∧ BX w0 w' x (ackS p n) K ∧ KP K w w' := by
  obtain ⟨S, h1, h2⟩ := h.at_
  refine (ack_any x p n S w h1).mono ?_
  rintro e w' ⟨rfl, h3⟩
  exact ⟨rfl, h.now h2 h3⟩
theorem bx_due (h : BX w0 w x p K) : Calls Try.prog 13 #[.pointer (some ⟨x, 0, none⟩)] w fun e w' => ∃ u, e = .returned u ∧ IL w' w.heap.size u (dueL p) ∧ BX w0 w' x (dueS p) (fun k => K k ∨ (w.heap.size ≤ k ∧ k < w'.heap.size)) ∧ KP K w w' := by
  obtain ⟨S, h1, h2⟩ := h.at_
  refine (due_any x p S w h1).mono ?_
  rintro e w' ⟨u, rfl, h3, h4, h5⟩
  obtain ⟨h6, h7⟩ := h.now h2 ⟨S, h4, fun k hk => .inl hk, h5⟩
  refine ⟨u, rfl, h3, ⟨⟨S, h4, fun k hk => ⟨(h2 k hk).1, ?_⟩⟩, h6.base, ?_⟩, h7⟩
  · rintro (h8 | h8)
    · exact (h2 k hk).2 h8
    · have := h1.old k hk; omega
  · rintro k (h8 | h8)
    · exact h6.old k h8
    · exact h8.2
theorem bx_last (h : BX w0 w x p K) : Calls Try.prog 34 #[.pointer (some ⟨x, 0, none⟩)] w fun e w' => e = .returned (.int .i64 p.last) ∧ BX w0 w' x p K ∧ KP K w w' := by
  obtain ⟨S, ⟨v, β, h1, h3⟩, h2⟩ := h.at_
  refine (last_bk x p v β w h1).mono ?_
  rintro e w' ⟨rfl, h4⟩
  exact ⟨rfl, h.below h4, h.kp h4⟩
theorem bx_acked (h : BX w0 w x p K) : Calls Try.prog 20 #[.pointer (some ⟨x, 0, none⟩)] w fun e w' => e = .returned (.int .i64 p.a) ∧ w' = w := by
  obtain ⟨S, ⟨v, β, h1, h3⟩, h2⟩ := h.at_
  exact acked_bk x p v β w h1
end

theorem Now.after {w w1 w' : World} {x : Nat} {p : St} {S : Nat → Prop} (h : Now w1 w' x p S) (hb : Below w.heap.size w w1) : Now w w' x p S := by
  obtain ⟨S', h1, h2, h3⟩ := h
  have := hb.size
  exact ⟨S', h1, fun k hk => (h2 k hk).imp id (fun h => by omega), (Fr.of_below hb).trans h3⟩

end Go.Proofs.Ytpjnhjijipcjkaa
