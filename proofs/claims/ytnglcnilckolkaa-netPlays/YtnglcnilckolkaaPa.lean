/-
  Both nets beside one another.
-/
import Derived.Test.YtnglcnilckolkaaRa
import Derived.Test.YtnglcnilckolkaaCa
namespace Go.Proofs.Ytnglcnilckolkaa
open Go.RowKit
set_option linter.unusedVariables false

/-- A net and the net of the document, with the same in flight, that share nothing; T: the blocks of both. -/
def PS (w : World) (x y : Nat) (cl : Int) (G : List DG) (B : Nat) (T : Nat → Prop) : Prop :=
  ∃ S S', NB w x cl G B S ∧ RB w y cl G S' ∧ (∀ k, S k → ¬ S' k) ∧ ∀ k, T k ↔ S k ∨ S' k
def NowP (w w' : World) (x y : Nat) (cl : Int) (G : List DG) (B : Nat) (T : Nat → Prop) : Prop := ∃ T', PS w' x y cl G B T' ∧ (∀ k, T' k → T k ∨ w.heap.size ≤ k) ∧ Fr T w w'

theorem PS.fr {T Q : Nat → Prop} {w w' : World} {x y : Nat} {cl : Int} {G : List DG} {B : Nat} (h : PS w x y cl G B T) (hF : Fr Q w w') (hT : ∀ k, T k → ¬ Q k) : PS w' x y cl G B T := by
  obtain ⟨S, S', h1, h2, h3, h4⟩ := h
  exact ⟨S, S', h1.fr hF (fun k hk => hT k ((h4 k).2 (.inl hk))), h2.fr hF (fun k hk => hT k ((h4 k).2 (.inr hk))), h3, h4⟩
theorem PS.below {T : Nat → Prop} {w w' : World} {x y : Nat} {cl : Int} {G : List DG} {B : Nat} (h : PS w x y cl G B T) (hb : Below w.heap.size w w') : PS w' x y cl G B T :=
  h.fr (Q := fun _ => False) (Fr.of_below hb) (fun _ _ h => h)
theorem PS.mono {T : Nat → Prop} {w : World} {x y : Nat} {cl : Int} {G : List DG} {B B' : Nat} (h : PS w x y cl G B T) (hB : B ≤ B') : PS w x y cl G B' T := by
  obtain ⟨S, S', h1, h2, h3, h4⟩ := h
  exact ⟨S, S', h1.mono hB, h2, h3, h4⟩
theorem PS.old {T : Nat → Prop} {w : World} {x y : Nat} {cl : Int} {G : List DG} {B : Nat} (h : PS w x y cl G B T) : ∀ k, T k → k < w.heap.size := by
  obtain ⟨S, S', h1, h2, h3, h4⟩ := h
  intro k hk
  rcases (h4 k).1 hk with h | h
  · exact h1.old k h
  · exact h2.old k h
theorem NowP.same {T : Nat → Prop} {w w' : World} {x y : Nat} {cl : Int} {G : List DG} {B B' : Nat} (h : PS w x y cl G B T) (hB : B ≤ B') (hb : Below w.heap.size w w') : NowP w w' x y cl G B' T :=
  ⟨T, (h.below hb).mono hB, fun k hk => .inl hk, Fr.of_below hb⟩
theorem NowP.trans {T : Nat → Prop} {w u w' : World} {x y : Nat} {cl : Int} {G G' : List DG} {B B' : Nat} (h : NowP w u x y cl G B T) (h' : ∀ T', PS u x y cl G B T' → NowP u w' x y cl G' B' T') : NowP w w' x y cl G' B' T := by
  obtain ⟨T1, h1, h2, h3⟩ := h
  obtain ⟨T2, k1, k2, k3⟩ := h' T1 h1
  have hs := h3.size
  refine ⟨T2, k1, fun k hk => (k2 k hk).elim (h2 k) (fun h => .inr (by omega)), Fr.next h3 k3 (fun i hi hs' => (h2 i hs').elim id (fun h => by omega))⟩
theorem NowP.on {T : Nat → Prop} {w u w' : World} {x y : Nat} {cl : Int} {G : List DG} {B : Nat} (h : NowP w u x y cl G B T) (hb : Below u.heap.size u w') : NowP w w' x y cl G B T :=
  h.trans (fun T' h' => NowP.same h' (Nat.le_refl _) hb)
theorem NowP.from {T : Nat → Prop} {w u w' : World} {x y : Nat} {cl : Int} {G : List DG} {B : Nat} (h : NowP u w' x y cl G B T) (hb : Below w.heap.size w u) : NowP w w' x y cl G B T := by
  obtain ⟨T1, h1, h2, h3⟩ := h
  have := hb.size
  exact ⟨T1, h1, fun k hk => (h2 k hk).imp id (fun h => by omega), (Fr.of_below hb).trans h3⟩
theorem NowP.mono {T : Nat → Prop} {w w' : World} {x y : Nat} {cl : Int} {G : List DG} {B B' : Nat} (h : NowP w w' x y cl G B T) (hB : B ≤ B') : NowP w w' x y cl G B' T := by
  obtain ⟨T1, h1, h2, h3⟩ := h
  exact ⟨T1, h1.mono hB, h2, h3⟩

/-- First the net, then the one of the document. -/
theorem pair_xy {w u v : World} {x y : Nat} {cl : Int} {G G' : List DG} {B B' : Nat} {S S' T : Nat → Prop} (hd' : ∀ k, S k → ¬ S' k) (hT : ∀ k, T k ↔ S k ∨ S' k) (hy : RB w y cl G S') (hX : NowB w u x cl G' B' S) (hY : NowR u v y cl G' S') : NowP w v x y cl G' B' T := by
  obtain ⟨S1, a1, a2, a3⟩ := hX
  obtain ⟨S2, b1, b2, b3⟩ := hY
  have hs := a3.size
  have o1 := a1.old
  have oy := hy.old
  have dis : ∀ k, S1 k → ¬ S' k := fun k hk hk' => by
    rcases a2 k hk with h | h
    · exact hd' k h hk'
    · have := oy k hk'
      omega
  have dis2 : ∀ k, S1 k → ¬ S2 k := fun k hk hk2 => by
    rcases b2 k hk2 with h | h
    · exact dis k hk h
    · have := o1 k hk
      omega
  refine ⟨fun k => S1 k ∨ S2 k, ⟨S1, S2, a1.fr b3 dis, b1, dis2, fun k => Iff.rfl⟩, ?_, ?_⟩
  · rintro k (hk | hk)
    · exact (a2 k hk).imp (fun h => (hT k).2 (.inl h)) id
    · exact (b2 k hk).elim (fun h => .inl ((hT k).2 (.inr h))) (fun h => .inr (by omega))
  · exact (a3.mono (fun k _ h => (hT k).2 (.inl h))).trans (b3.mono (fun k _ h => (hT k).2 (.inr h)))
/-- First the one of the document, then the net. -/
theorem pair_yx {w u v : World} {x y : Nat} {cl : Int} {G G' : List DG} {B B' : Nat} {S S' T : Nat → Prop} (hd' : ∀ k, S k → ¬ S' k) (hT : ∀ k, T k ↔ S k ∨ S' k) (hx : NB w x cl G B S) (hY : NowR w u y cl G' S') (hX : NowB u v x cl G' B' S) : NowP w v x y cl G' B' T := by
  obtain ⟨S1, a1, a2, a3⟩ := hX
  obtain ⟨S2, b1, b2, b3⟩ := hY
  have hs := b3.size
  have o2 := b1.old
  have ox := hx.old
  have dis : ∀ k, S k → ¬ S2 k := fun k hk hk' => by
    rcases b2 k hk' with h | h
    · exact hd' k hk h
    · have := ox k hk
      omega
  have dis2 : ∀ k, S1 k → ¬ S2 k := fun k hk hk2 => by
    rcases a2 k hk with h | h
    · exact dis k h hk2
    · have := o2 k hk2
      omega
  refine ⟨fun k => S1 k ∨ S2 k, ⟨S1, S2, a1, b1.fr a3 (fun k hk h => dis k h hk), dis2, fun k => Iff.rfl⟩, ?_, ?_⟩
  · rintro k (hk | hk)
    · exact (a2 k hk).elim (fun h => .inl ((hT k).2 (.inl h))) (fun h => .inr (by omega))
    · exact (b2 k hk).imp (fun h => (hT k).2 (.inr h)) id
  · exact (b3.mono (fun k _ h => (hT k).2 (.inr h))).trans (a3.mono (fun k _ h => (hT k).2 (.inl h)))

end Go.Proofs.Ytnglcnilckolkaa
