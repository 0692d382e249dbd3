/-
  NetPlays: its walk.
-/
import Derived.Test.YtnglcnilckolkaaPc
import Derived.Test.YtnglcnilckolkaaPd
import Derived.Test.YtnglcnilckolkaaPs
import Derived.Deep.DeepCutAuto
namespace Go.Proofs.Ytnglcnilckolkaa
open Go.RowKit
set_option linter.unusedVariables false

theorem step_any (wB w : World) (x y : Nat) (cl : Int) (G : List DG) (B : Nat) (T : Nat → Prop) (h : PS w x y cl G B T) (hcl : 1 ≤ cl) (hT : ∀ k, T k → wB.heap.size ≤ k) (hbw : Below wB.heap.size wB w) (ok : Int) (ow : Bool) (oi oa ob : Int) (xs : List Int) (a : Option Addr) (n c : Nat) (hB : IsB wB a n c xs) (hBB : B + 3000 < 1000000000) :
    Calls Try.prog 29 #[.pointer (some ⟨x, 0, none⟩), .pointer (some ⟨y, 0, none⟩), .agg #[.int .i64 ok, .bool ow, .int .i64 oi, .int .i64 oa, .int .i64 ob, .slice a n c]] w fun e w' => e = .returned (.bool true) ∧ ∃ G', NowP w w' x y cl G' (B + 3000) T := by
  by_cases h1 : ok = 1
  · subst h1; exact step_one wB w x y cl G B T h hcl hT hbw ow oi oa ob xs a n c hB hBB
  by_cases h2 : ok = 2
  · subst h2; exact step_deliver wB w x y cl G B T h hcl hT hbw ow oi oa ob xs a n c hB hBB
  by_cases h3 : ok = 3
  · subst h3; exact step_drop wB w x y cl G B T h hcl hT hbw ow oi oa ob xs a n c hB hBB
  by_cases h4 : ok = 4
  · subst h4; exact step_double wB w x y cl G B T h hcl hT hbw ow oi oa ob xs a n c hB hBB
  by_cases h5 : ok = 5
  · subst h5; exact step_flip wB w x y cl G B T h hcl hT hbw ow oi oa ob xs a n c hB hBB
  by_cases h6 : ok = 6
  · subst h6; exact step_count wB w x y cl G B T h hcl hT hbw ow oi oa ob xs a n c hB hBB
  by_cases h7 : ok = 7
  · subst h7; exact step_flight wB w x y cl G B T h hcl hT hbw ow oi oa ob xs a n c hB hBB
  by_cases h8 : ok = 8
  · subst h8
    by_cases hi : oi ≤ 3000
    · exact step_many wB w x y cl G B T h hcl hT hbw ow oi oa ob xs a n c hB hBB hi
    · exact step_most wB w x y cl G B T h hcl hT hbw ow oi oa ob xs a n c hB hBB (by omega)
  · exact step_other wB w x y cl G B T h hcl hT hbw ok ow oi oa ob xs a n c hB hBB h1 h2 h3 h4 h5 h6 h7 h8

/-- A pair of nets, or none. -/
def AP (w : World) (p q : Option Addr) (B : Nat) (T : Nat → Prop) : Prop := (p = none ∧ q = none) ∨ ∃ x y cl G, p = some ⟨x, 0, none⟩ ∧ q = some ⟨y, 0, none⟩ ∧ (1 : Int) ≤ cl ∧ PS w x y cl G B T
theorem AP.fr {Q T : Nat → Prop} {w w' : World} {p q : Option Addr} {B : Nat} (h : AP w p q B T) (hF : Fr Q w w') (hT : ∀ k, T k → ¬ Q k) : AP w' p q B T := by
  rcases h with h | ⟨x, y, cl, G, h1, h2, h3, h4⟩
  · exact .inl h
  · exact .inr ⟨x, y, cl, G, h1, h2, h3, h4.fr hF hT⟩
theorem AP.mono {T : Nat → Prop} {w : World} {p q : Option Addr} {B B' : Nat} (h : AP w p q B T) (hB : B ≤ B') : AP w p q B' T := by
  rcases h with h | ⟨x, y, cl, G, h1, h2, h3, h4⟩
  · exact .inl h
  · exact .inr ⟨x, y, cl, G, h1, h2, h3, h4.mono hB⟩

/-- Two pairs that share nothing, made since w. -/
def PL (w wr : World) (p1 q1 p2 q2 : Option Addr) (B : Nat) : Prop :=
  ∃ T1 T2, AP wr p1 q1 B T1 ∧ AP wr p2 q2 B T2 ∧ (∀ k, T1 k → ¬ T2 k) ∧ (∀ k, T1 k ∨ T2 k → w.heap.size ≤ k ∧ k < wr.heap.size) ∧ Below w.heap.size w wr
theorem PL.below {w wr w' : World} {p1 q1 p2 q2 : Option Addr} {B : Nat} (h : PL w wr p1 q1 p2 q2 B) (hb : Below wr.heap.size wr w') : PL w w' p1 q1 p2 q2 B := by
  obtain ⟨T1, T2, h1, h2, h3, h4, h5⟩ := h
  have hs := hb.size
  exact ⟨T1, T2, h1.fr (Q := fun _ => False) (Fr.of_below hb) (fun _ _ h => h), h2.fr (Q := fun _ => False) (Fr.of_below hb) (fun _ _ h => h), h3, fun k hk => ⟨(h4 k hk).1, by have := (h4 k hk).2; omega⟩, h5.trans (hb.mono h5.size)⟩
theorem PL.mono {w wr : World} {p1 q1 p2 q2 : Option Addr} {B B' : Nat} (h : PL w wr p1 q1 p2 q2 B) (hB : B ≤ B') : PL w wr p1 q1 p2 q2 B' := by
  obtain ⟨T1, T2, h1, h2, h3, h4, h5⟩ := h
  exact ⟨T1, T2, h1.mono hB, h2.mono hB, h3, h4, h5⟩
theorem PL.swap {w wr : World} {p1 q1 p2 q2 : Option Addr} {B : Nat} (h : PL w wr p1 q1 p2 q2 B) : PL w wr p2 q2 p1 q1 B := by
  obtain ⟨T1, T2, h1, h2, h3, h4, h5⟩ := h
  exact ⟨T2, T1, h2, h1, fun k hk hk' => h3 k hk' hk, fun k hk => h4 k hk.symm, h5⟩
/-- A step of the first pair. -/
theorem PL.step {w wr w' : World} {x y : Nat} {p2 q2 : Option Addr} {cl : Int} {G' : List DG} {B : Nat} {T1 T2 : Nat → Prop} (hcl : 1 ≤ cl) (h2 : AP wr p2 q2 B T2) (h3 : ∀ k, T1 k → ¬ T2 k) (h4 : ∀ k, T1 k ∨ T2 k → w.heap.size ≤ k ∧ k < wr.heap.size) (h5 : Below w.heap.size w wr)
    (hN : NowP wr w' x y cl G' (B + 3000) T1) : PL w w' (some ⟨x, 0, none⟩) (some ⟨y, 0, none⟩) p2 q2 (B + 3000) := by
  obtain ⟨T', k1, k2, k3⟩ := hN
  have hs := k3.size
  have hs2 := h5.size
  refine ⟨T', T2, .inr ⟨x, y, cl, G', rfl, rfl, hcl, k1⟩, (h2.fr k3 (fun k h1 h => h3 k h h1)).mono (by omega), fun k hk hk2 => ?_, fun k hk => ?_, h5.trans (k3.below h5.size (fun k hk => (h4 k (.inl hk)).1))⟩
  · rcases k2 k hk with h | h
    · exact h3 k h hk2
    · have := (h4 k (.inr hk2)).2
      omega
  · rcases hk with hk | hk
    · refine ⟨?_, k1.old k hk⟩
      rcases k2 k hk with h | h
      · exact (h4 k (.inl h)).1
      · omega
    · have := h4 k (.inr hk)
      exact ⟨this.1, by omega⟩

/-- Both News. -/
theorem news_any (c : Int) (w : World) : Calls Try.prog 9 #[.int .i64 c] w fun e w' => ∃ p ev, e = .returned (.tuple #[.pointer p, .int .i64 ev]) ∧ Below w.heap.size w w' ∧ Calls Try.prog 28 #[.int .i64 c] w' fun e' w'' => ∃ q, e' = .returned (.tuple #[.pointer q, .int .i64 ev]) ∧ Below w.heap.size w w'' ∧ ((p = none ∧ q = none) ∨ ∃ x y, p = some ⟨x, 0, none⟩ ∧ q = some ⟨y, 0, none⟩ ∧ 1 ≤ c ∧ ∃ T, PS w'' x y c [] 0 T ∧ ∀ k, T k → w.heap.size ≤ k) := by
  by_cases hc : 1 ≤ c ∧ c ≤ 64
  · refine (new_good c w hc).mono ?_
    rintro e w' ⟨x, rfl, S, h1, h2, h3⟩
    refine ⟨_, _, rfl, h3, (rnew_good c w' hc).mono ?_⟩
    rintro e' w'' ⟨y, rfl, S', k1, k2, k3⟩
    have hs := h3.size
    refine ⟨_, rfl, h3.trans (k3.mono hs), .inr ⟨x, y, rfl, rfl, hc.1, fun k => S k ∨ S' k, ⟨S, S', (show NB w' x c [] 0 S from ⟨0, Nat.le_refl _, h1⟩).below k3, k1, fun k hk hk' => ?_, fun k => Iff.rfl⟩, ?_⟩⟩
    · have := h1.old k hk
      have := k2 k hk'
      omega
    · rintro k (hk | hk)
      · exact h2 k hk
      · have := k2 k hk
        omega
  · refine (new_bad c w (by omega)).mono ?_
    rintro e w' ⟨rfl, rfl⟩
    refine ⟨_, _, rfl, Below.refl _ _, (rnew_bad c w' (by omega)).mono ?_⟩
    rintro e' w'' ⟨rfl, rfl⟩
    exact ⟨_, rfl, Below.refl _ _, .inl ⟨rfl, rfl⟩⟩


end Go.Proofs.Ytnglcnilckolkaa
