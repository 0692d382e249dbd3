/-
  The law's asks: At.
-/
import Derived.Test.YtkkklfnooeofcabXm
import Derived.Test.YtkkklfnooeofcabXr
namespace Go.Proofs.Ytkkklfnooeofcab
open Go.RowKit
set_option linter.unusedVariables false

/-- In the midst of a step that asks: the lists' blocks are K1n and K2n; the step lies in the box at block w.heap.size, the room at gd. -/
structure AW (w wx : World) (X off r q : Nat) (O Oq K1 K2 K1n K2n : Nat → Prop) (g : Nat) (Ns : List Nt) (n1 n2 : Nat) (bcs : Array Value) (a : Option Addr) (n c : Nat) (xs : List El) (gd cd : Nat) : Prop where
  pk : PK wx X off r q O Oq K1n K2n g Ns g Ns n1 n2
  o1 : ∀ j, K1n j → K1 j ∨ (w.heap.size < j ∧ j ≠ gd)
  o2 : ∀ j, K2n j → K2 j ∨ (w.heap.size < j ∧ j ≠ gd)
  fr : Fr (fun j => K1 j ∨ K2 j ∨ j = X ∨ w.heap.size ≤ j) w wx
  xr : XR w wx X off 6
  bx : wx.heap[w.heap.size]? = some (.cells bcs 36 (0, 0))
  ie : IsE wx a n c xs
  rm : SF elc 3 wx 41 (some gd) (.slice (some ⟨gd, 0, none⟩) (n + 2) cd) (mkR xs)
  ia : 0 < n → ∀ b o, a = some ⟨b, o, none⟩ → b < w.heap.size ∧ ¬ K1 b ∧ ¬ K2 b ∧ b ≠ X
  old : ∀ j, (O j ∨ Oq j ∨ K1 j ∨ K2 j ∨ j = X) → j < w.heap.size
  gw : w.heap.size < gd
section
variable {w wx wy w3 : World} {X off r q : Nat} {O Oq K1 K2 K1n K2n : Nat → Prop} {g : Nat} {Ns : List Nt} {n1 n2 : Nat} {bcs : Array Value} {a : Option Addr} {n c : Nat} {xs : List El} {gd cd : Nat}
theorem AW.start (hP : PK w X off r q O Oq K1 K2 g Ns g Ns n1 n2) (hE : IsE w a n c xs) {D : Nat → Prop} (hD : ∀ j, D j ↔ (O j ∨ Oq j ∨ K1 j ∨ K2 j)) (ha : 0 < n → ∀ b o, a = some ⟨b, o, none⟩ → ¬ D b ∧ b ≠ X) (bcs : Array Value)
    (hg : (w.alloc (.cells bcs 36)).heap.size ≤ gd) (hS : SF elc 3 w3 41 (some gd) (.slice (some ⟨gd, 0, none⟩) (n + 2) cd) (mkR xs)) (hb : Below (w.alloc (.cells bcs 36)).heap.size (w.alloc (.cells bcs 36)) w3) : AW w w3 X off r q O Oq K1 K2 K1 K2 g Ns n1 n2 bcs a n c xs gd cd := by
  have b1 : Below w.heap.size w (w.alloc (.cells bcs 36)) := (Below.refl _ _).alloc (Nat.le_refl _) _
  have b3 : Below w.heap.size w w3 := b1.trans (hb.mono b1.size)
  obtain ⟨q1, q2⟩ := hP.olds
  refine ⟨hP.below b3, fun j h => .inl h, fun j h => .inl h, Fr.of_below b3, XR.of_fr (T := fun _ => False) (Fr.of_below b3) (fun h => h), (Fr.of_below (S := fun _ => False) hb).keeps (heap_alloc_new w _) (fun h => h), hE.below b3, hS, fun h0 b o e => ?_, fun j hj => ?_, by simp at hg; omega⟩
  · obtain ⟨b', o', e', hlt⟩ := hE.addr h0
    obtain ⟨hh, hX⟩ := ha h0 b o e
    rw [e] at e'
    injection e' with e'
    injection e' with e1 e2
    subst e1
    exact ⟨hlt, fun h => hh ((hD b).2 (.inr (.inr (.inl h)))), fun h => hh ((hD b).2 (.inr (.inr (.inr h)))), hX⟩
  · rcases hj with h | h | h | h | h
    · exact q1 j (.inl h)
    · exact q1 j (.inr (.inl h))
    · exact q1 j (.inr (.inr (.inl h)))
    · exact q1 j (.inr (.inr (.inr h)))
    · rw [h]; exact q2
theorem AW.box (h : AW w wx X off r q O Oq K1 K2 K1n K2n g Ns n1 n2 bcs a n c xs gd cd) (i : Nat) : wx.cell? ⟨w.heap.size, i, none⟩ = bcs[i]? := cell_row h.bx i
theorem AW.size (h : AW w wx X off r q O Oq K1 K2 K1n K2n g Ns n1 n2 bcs a n c xs gd cd) : X < wx.heap.size ∧ w.heap.size < wx.heap.size ∧ gd < wx.heap.size := ⟨h.pk.lt, block_lt h.bx, h.rm.lt gd rfl⟩
theorem AW.below (h : AW w wx X off r q O Oq K1 K2 K1n K2n g Ns n1 n2 bcs a n c xs gd cd) (hb : Below wx.heap.size wx wy) : AW w wy X off r q O Oq K1 K2 K1n K2n g Ns n1 n2 bcs a n c xs gd cd :=
  ⟨h.pk.below hb, h.o1, h.o2, h.fr.trans (Fr.of_below hb), h.xr.trans (XR.of_fr (T := fun _ => False) (Fr.of_below hb) (fun h => h)), (Fr.of_below (S := fun _ => False) hb).keeps h.bx (fun h => h), h.ie.below hb, h.rm.fr (S := fun _ => False) (Fr.of_below hb) (fun _ _ h => h), h.ia, h.old, h.gw⟩
/-- A call changed the blocks T, all of them lists' or new. -/
theorem AW.step {K1m K2m T : Nat → Prop} {m1 m2 : Nat} (h : AW w wx X off r q O Oq K1 K2 K1n K2n g Ns n1 n2 bcs a n c xs gd cd) (hp : PK wy X off r q O Oq K1m K2m g Ns g Ns m1 m2) (h1 : ∀ j, K1m j → K1n j ∨ K2n j ∨ (w.heap.size < j ∧ j ≠ gd)) (h1' : ∀ j, K1m j → K2n j → K1 j) (h2 : ∀ j, K2m j → K1n j ∨ K2n j ∨ (w.heap.size < j ∧ j ≠ gd)) (h2' : ∀ j, K2m j → K1n j → K2 j)
    (hF : Fr T wx wy) (hT : ∀ j, T j → K1n j ∨ K2n j ∨ j = X ∨ (w.heap.size < j ∧ j ≠ gd)) (hx : XR wx wy X off 6) : AW w wy X off r q O Oq K1 K2 K1m K2m g Ns m1 m2 bcs a n c xs gd cd := by
  have low : ∀ j, T j → (K1 j ∨ K2 j ∨ j = X) ∨ (w.heap.size < j ∧ j ≠ gd) := by
    intro j hj
    rcases hT j hj with h3 | h3 | h3 | h3
    · rcases h.o1 j h3 with h4 | h4
      · exact .inl (.inl h4)
      · exact .inr h4
    · rcases h.o2 j h3 with h4 | h4
      · exact .inl (.inr (.inl h4))
      · exact .inr h4
    · exact .inl (.inr (.inr h3))
    · exact .inr h3
  have nb : ¬ T w.heap.size := fun hT => by
    rcases low _ hT with h3 | h3
    · have : w.heap.size < w.heap.size := h.old _ (by rcases h3 with h3 | h3 | h3; exact .inr (.inr (.inl h3)); exact .inr (.inr (.inr (.inl h3))); exact .inr (.inr (.inr (.inr h3))))
      omega
    · omega
  have ng : ¬ T gd := fun hT => by
    have := h.gw
    rcases low _ hT with h3 | h3
    · have : gd < w.heap.size := h.old _ (by rcases h3 with h3 | h3 | h3; exact .inr (.inr (.inl h3)); exact .inr (.inr (.inr (.inl h3))); exact .inr (.inr (.inr (.inr h3))))
      omega
    · exact h3.2 rfl
  refine ⟨hp, fun j hj => ?_, fun j hj => ?_, h.fr.trans (hF.mono (fun j _ hj => ?_)), h.xr.trans hx, hF.keeps h.bx nb, h.ie.fr hF (fun h0 b o e hb => ?_), h.rm.fr hF (fun k hk hT => ng (by injection hk with hk; rw [hk]; exact hT)), h.ia, h.old, h.gw⟩
  · rcases h1 j hj with h3 | h3 | h3
    · exact h.o1 j h3
    · exact .inl (h1' j hj h3)
    · exact .inr h3
  · rcases h2 j hj with h3 | h3 | h3
    · exact .inl (h2' j hj h3)
    · exact h.o2 j h3
    · exact .inr h3
  · rcases low j hj with (h3 | h3 | h3) | h3
    · exact .inl h3
    · exact .inr (.inl h3)
    · exact .inr (.inr (.inl h3))
    · exact .inr (.inr (.inr (by omega)))
  · obtain ⟨e1, e2, e3, e4⟩ := h.ia h0 b o e
    rcases low b hb with (h3 | h3 | h3) | h3
    · exact e2 h3
    · exact e3 h3
    · exact e4 h3
    · omega
/-- ints was called. -/
theorem AW.ints {β : Option Nat} (h : AW w wx X off r q O Oq K1 K2 K1n K2n g Ns n1 n2 bcs a n c xs gd cd) (hN : InO ic 1 3 59 wx wy X (off + 2) K1n β n1) (hβ : ∀ j, β = some j → w.heap.size < j ∧ j ≠ gd ∧ ¬ K1n j ∧ ¬ K2n j) :
    ∃ K', AW w wy X off r q O Oq K1 K2 K' K2n g Ns (n1 + 2) n2 bcs a n c xs gd cd ∧ (∀ j, K' j → K1n j ∨ β = some j ∨ wx.heap.size ≤ j) ∧ Fr (fun j => K1n j ∨ β = some j ∨ j = X) wx wy := by
  have hXw := h.old X (.inr (.inr (.inr (.inr rfl))))
  obtain ⟨K', p1, p2, p3, p4⟩ := h.pk.set1 hN (fun j hj hb => by
    obtain ⟨q1, q2, q3, q4⟩ := hβ j hj
    rcases hb with h3 | h3 | h3 | h3
    · have := h.old j (.inl h3); omega
    · have := h.old j (.inr (.inl h3)); omega
    · exact q3 h3
    · exact q4 h3) (fun e => by have := (hβ X e).1; omega)
  have sz := h.size
  refine ⟨K', h.step p1 (fun j hj => ?_) (fun j hj hk => ?_) (fun j hj => .inr (.inl hj)) (fun j hj hk => absurd hj (h.pk.d6 j hk)) p3 (fun j hj => ?_) p4, p2, p3⟩
  · rcases p2 j hj with h3 | h3 | h3
    · exact .inl h3
    · have := hβ j h3; exact .inr (.inr ⟨this.1, this.2.1⟩)
    · exact .inr (.inr ⟨by omega, by omega⟩)
  · rcases p2 j hj with h3 | h3 | h3
    · exact absurd hk (h.pk.d6 j h3)
    · exact absurd hk (hβ j h3).2.2.2
    · have := h.pk.o2 j hk; omega
  · rcases hj with h3 | h3 | h3
    · exact .inl h3
    · have := hβ j h3; exact .inr (.inr (.inr ⟨this.1, this.2.1⟩))
    · exact .inr (.inr (.inl h3))
/-- replies was called, or over. -/
theorem AW.repl {Pn Qn K' : Nat → Prop} {M : Nat} (h : AW w wx X off r q O Oq K1 K2 K1n K2n g Ns n1 n2 bcs a n c xs gd cd) (e1 : PP rpc 2 90 45 wy X (off + 4) K' M) (e2 : ∀ j, K' j → K2n j ∨ Pn j ∨ wx.heap.size ≤ j) (e3 : Fr (fun j => K2n j ∨ Qn j ∨ j = X) wx wy) (e4 : XR wx wy X (off + 4) 2) (hβ : ∀ j, Pn j ∨ Qn j → w.heap.size < j ∧ j ≠ gd ∧ ¬ K1n j ∧ ¬ K2n j) :
    AW w wy X off r q O Oq K1 K2 K1n K' g Ns n1 M bcs a n c xs gd cd := by
  obtain ⟨p1, p2⟩ := h.pk.set2 e1 e2 e3 e4 (fun j hj hb => by
    obtain ⟨q1, q2, q3, q4⟩ := hβ j hj
    rcases hb with h3 | h3 | h3
    · have := h.old j (.inl h3); omega
    · have := h.old j (.inr (.inl h3)); omega
    · exact q3 h3)
  have sz := h.size
  refine h.step p1 (fun j hj => .inl hj) (fun j hj hk => absurd hk (h.pk.d6 j hj)) (fun j hj => ?_) (fun j hj hk => ?_) e3 (fun j hj => ?_) p2
  · rcases e2 j hj with h3 | h3 | h3
    · exact .inr (.inl h3)
    · have := hβ j (.inl h3); exact .inr (.inr ⟨this.1, this.2.1⟩)
    · exact .inr (.inr ⟨by omega, by omega⟩)
  · rcases e2 j hj with h3 | h3 | h3
    · exact absurd h3 (h.pk.d6 j hk)
    · exact absurd hk (hβ j (.inl h3)).2.2.1
    · have := h.pk.o1 j hk; omega
  · rcases hj with h3 | h3 | h3
    · exact .inr (.inl h3)
    · have := hβ j (.inr h3); exact .inr (.inr (.inr ⟨this.1, this.2.1⟩))
    · exact .inr (.inr (.inl h3))
theorem AW.fin {D : Nat → Prop} {k : Nat} (hD : ∀ j, D j ↔ (O j ∨ Oq j ∨ K1 j ∨ K2 j)) (hsd : ∀ n ∈ Ns, n.sd.length ≤ k) (h : AW w wx X off r q O Oq K1 K2 K1n K2n g Ns n1 n2 bcs a n c xs gd cd) (hm1 : n1 ≤ 4 * (k + 1)) (hm2 : n2 ≤ 1024 * (k + 1)) (hF : Fr (fun j => j = gd) wx wy) : StO w wy X off D (k + 1) := by
  have hgw := h.gw
  have ng : ∀ j, (O j ∨ Oq j ∨ K1n j ∨ K2n j ∨ j = X) → ¬ j = gd := by
    rintro j hj rfl
    have o := fun h1 => h.old j h1
    rcases hj with h1 | h1 | h1 | h1 | h1
    · have := o (.inl h1); omega
    · have := o (.inr (.inl h1)); omega
    · rcases h.o1 j h1 with h2 | h2
      · have := o (.inr (.inr (.inl h2))); omega
      · exact h2.2 rfl
    · rcases h.o2 j h1 with h2 | h2
      · have := o (.inr (.inr (.inr (.inl h2)))); omega
      · exact h2.2 rfl
    · have := o (.inr (.inr (.inr (.inr h1)))); omega
  have nX : ¬ X = gd := ng X (.inr (.inr (.inr (.inr rfl))))
  refine ⟨fun j => O j ∨ Oq j ∨ K1n j ∨ K2n j, ⟨r, q, O, Oq, K1n, K2n, g, Ns, n1, n2, h.pk.fr hF (fun j hj => ng j (by rcases hj with h1 | h1 | h1 | h1; exact .inl h1; exact .inr (.inl h1); exact .inr (.inr (.inl h1)); exact .inr (.inr (.inr (.inl h1))))) nX, fun j => Iff.rfl, fun n hn => Nat.le_succ_of_le (hsd n hn), hm1, hm2⟩, fun j hj => ?_, (h.fr.trans (hF.mono (fun j _ e => .inr (.inr (.inr (by omega)))))).mono (fun j hj h1 => ?_), h.xr.trans (XR.of_fr hF nX)⟩
  · rcases hj with h1 | h1 | h1 | h1
    · exact .inl ((hD j).2 (.inl h1))
    · exact .inl ((hD j).2 (.inr (.inl h1)))
    · rcases h.o1 j h1 with h2 | h2
      · exact .inl ((hD j).2 (.inr (.inr (.inl h2))))
      · exact .inr (by omega)
    · rcases h.o2 j h1 with h2 | h2
      · exact .inl ((hD j).2 (.inr (.inr (.inr h2))))
      · exact .inr (by omega)
  · rcases h1 with h1 | h1 | h1 | h1
    · exact .inl ((hD j).2 (.inr (.inr (.inl h1))))
    · exact .inl ((hD j).2 (.inr (.inr (.inr h1))))
    · exact .inr h1
    · omega
end
end Go.Proofs.Ytkkklfnooeofcab
