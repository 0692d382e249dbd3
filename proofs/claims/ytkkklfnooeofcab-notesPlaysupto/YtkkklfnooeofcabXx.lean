/-
  Two pairs in an array: how they are made, and how a step of one leaves the other.
-/
import Derived.Test.YtkkklfnooeofcabXw
namespace Go.Proofs.Ytkkklfnooeofcab
open Go.RowKit
set_option linter.unusedVariables false

section
variable {w w' : World} {X off off2 k k' : Nat} {D D2 : Nat → Prop}
theorem PP.other {α : Type} {f : α → List Value} {kk : Nat} {e es : TypeId} {K T : Nat → Prop} {m o : Nat} (h : PP f kk e es w X o K m) (hF : Fr (fun j => T j ∨ j = X) w w') (hx : XR w w' X off 6) (hT : ∀ j, K j → ¬ T j) (ho : o + 2 ≤ off ∨ off + 6 ≤ o) : PP f kk e es w' X o K m := by
  obtain ⟨vL, βL, SL, vW, βW, SW, E, hP, hm⟩ := h
  have nK : ∀ j, K j → ¬ (T j ∨ j = X) := by
    rintro j hj (h5 | rfl)
    · exact hT j hj h5
    · exact hP.nX hj
  exact ⟨vL, βL, SL, vW, βW, SW, E, ⟨hx o _ (by simp; omega) hP.box, hP.kL.fr hF nK, hP.kW.fr hF nK, hP.ne, hP.nX, fun j hj => Nat.lt_of_lt_of_le (hP.old j hj) hF.size⟩, hm⟩
/-- The other pair stays. -/
theorem PI.other (h : PI w X off2 D2 k) (hF : Fr (fun j => D j ∨ j = X) w w') (hx : XR w w' X off 6) (hd2 : ∀ j, D2 j → ¬ D j) (ho : off2 + 6 ≤ off ∨ off + 6 ≤ off2) : PI w' X off2 D2 k := by
  obtain ⟨r, q, O, Oq, K1, K2, g, Ns, m1, m2, h1, h2, h3⟩ := h
  have no : ∀ j, (O j ∨ Oq j) → ¬ (D j ∨ j = X) := by
    rintro j hj (h5 | rfl)
    · rcases hj with h | h
      · exact hd2 j ((h2 j).2 (.inl h)) h5
      · exact hd2 j ((h2 j).2 (.inr (.inl h))) h5
    · rcases hj with h | h
      · exact h1.nb h
      · exact h1.nd h
  exact ⟨r, q, O, Oq, K1, K2, g, Ns, m1, m2, ⟨hx off2 _ (by simp; omega) h1.box, h1.b.fr hF (fun j hj => no j (.inl hj)), h1.d.fr hF (fun j hj => no j (.inr hj)), h1.p1.other hF hx (fun j hj => hd2 j ((h2 j).2 (.inr (.inr (.inl hj))))) (by omega), h1.p2.other hF hx (fun j hj => hd2 j ((h2 j).2 (.inr (.inr (.inr hj))))) (by omega), h1.d1, h1.d2, h1.d3, h1.d4, h1.d5, h1.d6, h1.nb, h1.nd⟩, h2, h3⟩
theorem PI.up (h : PI w X off D k) (hk : k ≤ k') : PI w X off D k' := by
  obtain ⟨r, q, O, Oq, K1, K2, g, Ns, m1, m2, h1, h2, h3, h4, h5⟩ := h
  exact ⟨r, q, O, Oq, K1, K2, g, Ns, m1, m2, h1, h2, fun n hn => Nat.le_trans (h3 n hn) hk, by omega, by omega⟩
theorem PI.head (h : PI w X off D k) : ∃ r, w.cell? ⟨X, off, none⟩ = some (.pointer (some ⟨r, 0, none⟩)) := by
  obtain ⟨r, q, O, Oq, K1, K2, g, Ns, m1, m2, h1, h2, h3⟩ := h
  exact ⟨r, h1.heads.1⟩
theorem PI.calm (h : PI w X off D k) : Calls Try.prog 8 #[.pointer (some ⟨X, off, none⟩)] w fun e w' => e = .returned (.bool true) ∧ ∃ m, w' = w.drewN m := by
  obtain ⟨r, q, O, Oq, K1, K2, g, Ns, m1, m2, h1, h2, h3⟩ := h
  exact calm_any X off K1 K2 m1 m2 w h1.p1 h1.p2
end

/-- A pair's cells, fresh. -/
def z6 : List Value := [.pointer none, .pointer none, .slice none 0 0, .slice none 0 0, .slice none 0 0, .slice none 0 0]
theorem pp_new {α : Type} {f : α → List Value} {k : Nat} {e es : TypeId} {w : World} {X off : Nat} (h : PB w X off [.slice none 0 0, .slice none 0 0]) : PP f k e es w X off (fun _ => False) 0 :=
  ⟨_, none, [], _, none, [], [], ⟨h, ⟨⟨rfl, rfl⟩, rfl, fun j s xs h => by simp at h, fun g hg => (by cases hg)⟩, ⟨⟨rfl, rfl⟩, rfl, fun j s xs h => by simp at h, fun g hg => (by cases hg)⟩, fun g hg => (by cases hg), fun h => h, fun j hj => hj.elim⟩, rfl⟩
theorem PB.sub {w : World} {X off : Nat} {vs : List Value} (h : PB w X off vs) (i : Nat) (us : List Value) (hu : ∀ j v, us[j]? = some v → vs[i + j]? = some v) : PB w X (off + i) us := by
  obtain ⟨cs, h1, h2⟩ := h
  exact ⟨cs, h1, fun j v hj => by rw [Nat.add_assoc]; exact h2 _ v (hu j v hj)⟩
theorem pi_make {wr w1 w3 : World} {X off r q : Nat} {O Oq : Nat → Prop} (hz : PB wr X off z6) (hb1 : Below wr.heap.size wr w1) (hB : BD w1 O r 0 []) (hO : ∀ j, O j → wr.heap.size ≤ j)
    (hb3 : Below (w1.setCell ⟨X, off, none⟩ (.pointer (some ⟨r, 0, none⟩))).heap.size (w1.setCell ⟨X, off, none⟩ (.pointer (some ⟨r, 0, none⟩))) w3) (hR : RBD w3 Oq q 0 []) (hOq : ∀ j, Oq j → (w1.setCell ⟨X, off, none⟩ (.pointer (some ⟨r, 0, none⟩))).heap.size ≤ j) :
    w1.cell? ⟨X, off, none⟩ = some (.pointer none) ∧ w1.frozen? ⟨X, off, none⟩ = false ∧ w3.cell? ⟨X, off + 1, none⟩ = some (.pointer none) ∧ w3.frozen? ⟨X, off + 1, none⟩ = false ∧
    ∃ D, PI (w3.setCell ⟨X, off + 1, none⟩ (.pointer (some ⟨q, 0, none⟩))) X off D 0 ∧ (∀ j, D j → wr.heap.size ≤ j) ∧ Fr (fun j => j = X) wr (w3.setCell ⟨X, off + 1, none⟩ (.pointer (some ⟨q, 0, none⟩))) ∧ XR wr (w3.setCell ⟨X, off + 1, none⟩ (.pointer (some ⟨q, 0, none⟩))) X off 6 := by
  have hX := hz.lt
  have F1 : Fr (fun _ => False) wr w1 := Fr.of_below hb1
  have z1 := hz.fr F1 (fun h => h)
  have z2 := z1.set (i := 0) (by simp [z6]) (.pointer (some ⟨r, 0, none⟩))
  simp only [Nat.add_zero] at z2
  have F3 : Fr (fun _ => False) (w1.setCell ⟨X, off, none⟩ (.pointer (some ⟨r, 0, none⟩))) w3 := Fr.of_below hb3
  have z3 := z2.fr F3 (fun h => h)
  have z4 := z3.set (i := 1) (by simp [z6]) (.pointer (some ⟨q, 0, none⟩))
  have FA : Fr (· = X) w1 (w1.setCell ⟨X, off, none⟩ (.pointer (some ⟨r, 0, none⟩))) := Fr.setCell _ _ _ rfl
  have FB : Fr (· = X) w3 (w3.setCell ⟨X, off + 1, none⟩ (.pointer (some ⟨q, 0, none⟩))) := Fr.setCell _ _ _ rfl
  have s1 := hb1.size
  have sA := FA.size
  have s3 := hb3.size
  have nO : ∀ j, O j → ¬ j = X := fun j hj e => by have := hO j hj; omega
  have nQ : ∀ j, Oq j → ¬ j = X := fun j hj e => by have := hOq j hj; omega
  have hB4 := ((hB.fr FA nO).below hb3).fr FB nO
  have hR4 := hR.fr FB nQ
  have hOl := hB.old
  refine ⟨by have := z1.get (i := 0) (.pointer none) rfl; simpa using this, by have := z1.frozen (i := 0); simpa using this, z3.get (i := 1) (.pointer none) rfl, z3.frozen, fun j => O j ∨ Oq j ∨ False ∨ False, ⟨r, q, O, Oq, fun _ => False, fun _ => False, 0, [], 0, 0, ⟨?_, hB4, hR4, pp_new ?_, pp_new ?_, fun j h1 h2 => ?_, fun _ _ h => h, fun _ _ h => h, fun _ _ h => h, fun _ _ h => h, fun _ h => h.elim, fun h => nO X h rfl, fun h => nQ X h rfl⟩, fun j => Iff.rfl, fun n hn => (by cases hn), Nat.le_refl _, by omega⟩, fun j hj => ?_, ?_, ?_⟩
  · have := z4.sub 0 [.pointer (some ⟨r, 0, none⟩), .pointer (some ⟨q, 0, none⟩)] (fun j v hj => by
      match j, hj with
      | 0, hj => simpa [z6] using hj
      | 1, hj => simpa [z6] using hj)
    simpa using this
  · exact z4.sub 2 _ (fun j v hj => by
      match j, hj with
      | 0, hj => simpa [z6] using hj
      | 1, hj => simpa [z6] using hj)
  · exact z4.sub 4 _ (fun j v hj => by
      match j, hj with
      | 0, hj => simpa [z6] using hj
      | 1, hj => simpa [z6] using hj)
  · have := hOl j h1
    have := hOq j h2
    omega
  · rcases hj with h | h | h | h
    · exact hO j h
    · have := hOq j h; omega
    · exact h.elim
    · exact h.elim
  · exact (((F1.mono (fun _ _ h => h.elim)).trans FA).trans (F3.mono (fun _ _ h => h.elim))).trans FB
  · have x1 := XR.set w1 X off 6 0 (by omega) (.pointer (some ⟨r, 0, none⟩))
    rw [Nat.add_zero] at x1
    exact (((XR.of_fr F1 (fun h => h)).trans x1).trans (XR.of_fr F3 (fun h => h))).trans (XR.set w3 X off 6 1 (by omega) _)

/-- Both pairs, between two steps. -/
def PlI (w0 wr : World) (X k : Nat) : Prop := ∃ D D', PI wr X 0 D k ∧ PI wr X 6 D' k ∧ (∀ j, D j → ¬ D' j) ∧ (∀ j, D j → w0.heap.size ≤ j) ∧ (∀ j, D' j → w0.heap.size ≤ j) ∧ w0.heap.size ≤ X ∧ Below w0.heap.size w0 wr
section
variable {w0 wr w1 w2 : World} {X k k' : Nat}
theorem PlI.below (h : PlI w0 wr X k) (hb : Below wr.heap.size wr w1) : PlI w0 w1 X k := by
  obtain ⟨D, D', h1, h2, h3, h4, h5, h6, h7⟩ := h
  exact ⟨D, D', h1.below hb, h2.below hb, h3, h4, h5, h6, h7.trans (hb.mono h7.size)⟩
theorem PlI.up (h : PlI w0 wr X k) (hk : k ≤ k') : PlI w0 wr X k' := by
  obtain ⟨D, D', h1, h2, h3⟩ := h
  exact ⟨D, D', h1.up hk, h2.up hk, h3⟩
theorem PlI.one {D D' : Nat → Prop} (h1 : PI wr X 0 D k) (h2 : PI wr X 6 D' k) (h3 : ∀ j, D j → ¬ D' j) (h4 : ∀ j, D j → w0.heap.size ≤ j) (h5 : ∀ j, D' j → w0.heap.size ≤ j) (h6 : w0.heap.size ≤ X) (h7 : Below w0.heap.size w0 wr) (hS : StO wr w2 X 0 D (k + 1)) : PlI w0 w2 X (k + 1) := by
  obtain ⟨D2, q1, q2, q3, q4⟩ := hS
  have s := h7.size
  refine ⟨D2, D', q1, (h2.other q3 q4 (fun j hj hd => h3 j hd hj) (by omega)).succ, fun j hj hj' => ?_, fun j hj => ?_, h5, h6, h7.trans (q3.below s (fun j hj => ?_))⟩
  · rcases q2 j hj with h | h
    · exact h3 j h hj'
    · have := h2.old.1 j hj'; omega
  · rcases q2 j hj with h | h
    · exact h4 j h
    · omega
  · rcases hj with h | h
    · exact h4 j h
    · omega
theorem PlI.two {D D' : Nat → Prop} (h1 : PI wr X 0 D k) (h2 : PI wr X 6 D' k) (h3 : ∀ j, D j → ¬ D' j) (h4 : ∀ j, D j → w0.heap.size ≤ j) (h5 : ∀ j, D' j → w0.heap.size ≤ j) (h6 : w0.heap.size ≤ X) (h7 : Below w0.heap.size w0 wr) (hS : StO wr w2 X 6 D' (k + 1)) : PlI w0 w2 X (k + 1) := by
  obtain ⟨D2, q1, q2, q3, q4⟩ := hS
  have s := h7.size
  refine ⟨D, D2, (h1.other q3 q4 (fun j hj hd => h3 j hj hd) (by omega)).succ, q1, fun j hj' hj => ?_, h4, fun j hj => ?_, h6, h7.trans (q3.below s (fun j hj => ?_))⟩
  · rcases q2 j hj with h | h
    · exact h3 j hj' h
    · have := h1.old.1 j hj'; omega
  · rcases q2 j hj with h | h
    · exact h5 j h
    · omega
  · rcases hj with h | h
    · exact h5 j h
    · omega
/-- What lies beside the pairs stays too. -/
theorem sto_keep {D : Nat → Prop} {off B : Nat} {o : Obj} (hS : StO wr w2 X off D k) (hB : wr.heap[B]? = some o) (h1 : ¬ D B) (h2 : B ≠ X) : w2.heap[B]? = some o := by
  obtain ⟨D2, q1, q2, q3, q4⟩ := hS
  exact q3.keeps hB (fun h => by rcases h with h | h; exact h1 h; exact h2 h)
end
end Go.Proofs.Ytkkklfnooeofcab
