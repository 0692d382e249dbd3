/-
  A range over a function at one invariant: the iterator may write what the invariant speaks of.
-/
import Derived.Test.YtpjnhjijipcjkaaQa
import Derived.RangeFuncNested
import Derived.RangeFuncBound
import Derived.RangeFuncCalls
import Derived.RangeFuncLeaves
import Derived.Shelf.RegionOpen
import Derived.OwnWalkIn
import Derived.TacticsInMore
namespace Go.Proofs.Ytpjnhjijipcjkaa
open Go.RowKit
set_option linter.unusedVariables false

/-- The two blocks of a loop: its record, and the one for deferred calls. -/
def LB (l D : Nat) (r : Loop) (W : World) : Prop := W.heap[l]? = some (.loop r) ∧ W.heap[D]? = some (.deferred (some []))

/-- How a round may be left. -/
def outPost (l D : Nat) (r : Loop) (I : World → Prop) (Ix : Code → World → Prop) : Exit → Act → World → Prop
  | .normal, _, W' => LB l D r W' ∧ I W'
  | .ret, _, W' => LB l D r W' ∧ Ix .ret W'
  | .exit id, _, W' => LB l D r W' ∧ Ix (.exit id) W'
  | .goto t, _, W' => LB l D r W' ∧ Ix (.goto t) W'
  | .panic _, _, _ => False
  | .outgrown, _, _ => False

theorem range_at {P : Program} {F : Fence} {n : Nat} {α : Type} {g : Operand} {ps : Array Tmp} {assign body : Code} {Q : Exit → Act → World → Prop} {a : Act} {w : World}
    (hro : F.round = none) (h1 : 1 ≤ n) {gf : Nat} {lb : Array Value} (hg : a.eval g = .func (.func gf) #[] lb) (hFg : F.fn gf) (eg : ∀ args w, (callFunc gf args).run P w = .ok (.enter gf args) w)
    (encs : α → Array Value) (hps : ∀ x, (encs x).size = ps.size) (l D : Nat) (hD : D = w.heap.size) (hl : l = w.heap.size + 1)
    (I0 Ie : World → Prop) (I Y : α → World → Prop) (Ix : Code → World → Prop) (a₁ : α → Act)
    (pY : ∀ x W o, Y x W → Y x (W.putObj l o)) (pI : ∀ x W o, I x W → I x (W.putObj l o)) (pIe : ∀ W o, Ie W → Ie (W.putObj l o)) (pIx : ∀ c W o, Ix c W → Ix c (W.putObj l o))
    (h0 : ∀ r, I0 ((w.alloc (.deferred (some []))).alloc (.loop r)))
    (hseq : ∀ (r : Loop) (W1 : World) (X : World → Prop), LB l D r W1 → I0 W1 →
      (∀ x W, LB l D r W → Y x W → YieldAt F (n - 1 - 1) P l (encs x) W fun e W' => (e = .returned (.bool true) ∧ LB l D r W' ∧ I x W') ∨ (e = .returned (.bool false) ∧ X W')) →
      CallsIn F (n - 1) P gf (#[.func (.yield l) #[] #[]] ++ lb) W1 fun e W' => (∃ v, e = .returned v) ∧ ((LB l D r W' ∧ Ie W') ∨ X W'))
    (hassign : ∀ (x : α) (W : World) (K : Act → World → Prop), K (a₁ x) W → assign.wpIn (F.inRound l) (n - 1 - 1) P (Exit.then K (fun _ _ _ => False)) { tmps := (ps.zip (encs x)).foldl (fun t (p, v) => t.setIfInBounds p v) a.tmps, defers := [] } W)
    (hbody : ∀ (x : α) (r : Loop) (W : World), LB l D r W → Y x W → body.wpIn (F.inRound l) (n - 1 - 1) P (outPost l D r (I x) Ix) (a₁ x) W)
    (hdone : ∀ W, Ie W → W.heap[D]? = some (.deferred (some [])) → Q .normal { a with defers := { target := .collected D, args := #[] } :: a.defers } W)
    (hstop : ∀ c W, Ix c W → W.heap[D]? = some (.deferred (some [])) → c.wpIn F n P Q { a with defers := { target := .collected D, args := #[] } :: a.defers } W) :
    (Code.rangeFunc g ps assign body).wpIn F n P Q a w := by
  subst hD
  have hlD : w.heap.size ≠ l := by omega
  refine wpIn_rangeFunc fun fn hfn => ?_
  rw [hro]
  obtain ⟨r0, hr0⟩ : ∃ r0 : Loop, r0 = { state := .ready, pending := none, fn, tmps := a.tmps, params := ps, assign, body, defers := w.heap.size } := ⟨_, rfl⟩
  obtain ⟨W1, hW1⟩ : ∃ W1, (w.alloc (.deferred (some []))).alloc (.loop r0) = W1 := ⟨_, rfl⟩
  have hL1 : LB l w.heap.size r0 W1 := by
    rw [← hW1, hl]
    refine ⟨?_, (Below.heap_alloc _ _ _ (by simp)).trans (World.alloc_heap_new w _)⟩
    have := World.alloc_heap_new (w.alloc (.deferred (some []))) (.loop r0)
    rwa [World.size_alloc] at this
  refine ⟨l, [{ target := .collected w.heap.size, args := #[] }], W1, { target := .fn (.func gf) lb, args := #[.func (.yield l) #[] #[]] }, W1, gf, #[.func (.yield l) #[] #[]] ++ lb, W1, ?_, ?_, ?_, ?_, fun _ => h1, ?_⟩
  · rw [← hW1, hr0, hl]; exact run_enterLoop_outer _ _ _ _ _
  · simp only [resolve, hg]
    simp [go_sem]
  · intro f' hf'; simp [Target.leads] at hf'; subst hf'; exact hFg
  · simp [invoke, go_sem, eg]
  · refine (hseq r0 W1 (fun W => ∃ c, LB l w.heap.size { r0 with state := .done, pending := some c } W ∧ Ix c W) hL1 (by rw [← hW1]; exact h0 _) ?_).mono ?_
    · rintro x W ⟨hb1, hb2⟩ hY
      have hlt : l < W.heap.size := block_lt hb1
      have hy := run_yield (P := P) (args := encs x) hb1 (by rw [hr0]; exact hps x)
      rw [hr0] at hy
      refine ⟨fn, _, assign, body, hy, roundIn_of_wpIn hfn (hassign x W _ ?_)⟩
      refine ⟨_, run_beginRound hb1 (by rw [hr0]), ?_⟩
      have lb2 : LB l w.heap.size { r0 with state := .busy } (W.putObj l (.loop { r0 with state := .busy })) := ⟨World.putObj_heap_same hlt, (World.putObj_heap_other hlD).trans hb2⟩
      refine wpIn_mono (hbody x _ _ lb2 (pY _ _ _ hY)) ?_
      have fin : ∀ (jump : Option Code) (W3 : World), LB l w.heap.size { r0 with state := .busy } W3 → (Instr.endRound l jump).run P W3 = .ok (.bool jump.isNone) (W3.putObj l (.loop { r0 with state := if jump.isNone then .ready else .done, pending := jump })) ∧ LB l w.heap.size { r0 with state := if jump.isNone then .ready else .done, pending := jump } (W3.putObj l (.loop { r0 with state := if jump.isNone then .ready else .done, pending := jump })) := fun jump W3 h3 =>
        ⟨by have := run_endRound (P := P) jump h3.1; exact this, World.putObj_heap_same (block_lt h3.1), (World.putObj_heap_other hlD).trans h3.2⟩
      rintro e a3 W3 hp
      cases e with
      | normal =>
        obtain ⟨hr, h4⟩ := fin none W3 hp.1
        refine ⟨_, _, hr, .inl ⟨rfl, ?_, pI _ _ _ hp.2⟩⟩
        have e : ({ r0 with state := if (none : Option Code).isNone then .ready else .done, pending := none } : Loop) = r0 := by rw [hr0]; rfl
        rw [e] at h4 ⊢
        exact h4
      | ret =>
        obtain ⟨hr, h4⟩ := fin (some .ret) W3 hp.1
        exact ⟨_, _, hr, .inr ⟨rfl, .ret, h4, pIx _ _ _ hp.2⟩⟩
      | exit id =>
        obtain ⟨hr, h4⟩ := fin (some (.exit id)) W3 hp.1
        exact ⟨_, _, hr, .inr ⟨rfl, .exit id, h4, pIx _ _ _ hp.2⟩⟩
      | goto t =>
        obtain ⟨hr, h4⟩ := fin (some (.goto t)) W3 hp.1
        exact ⟨_, _, hr, .inr ⟨rfl, .goto t, h4, pIx _ _ _ hp.2⟩⟩
      | panic ch => exact hp.elim
      | outgrown => exact hp.elim
    · rintro e W2 ⟨⟨v, rfl⟩, (⟨h2, hi⟩ | ⟨c, h2, hi⟩)⟩
      · have he := run_endLoop (P := P) h2.1 (by rw [hr0]; simp)
        have hp : r0.pending = none := by rw [hr0]
        rw [hp] at he
        exact ⟨none, _, he, hdone _ (pIe _ _ hi) ((World.putObj_heap_other hlD).trans h2.2)⟩
      · have he := run_endLoop (P := P) h2.1 (by simp)
        exact ⟨some c, _, he, hstop c _ (pIx _ _ _ hi) ((World.putObj_heap_other hlD).trans h2.2)⟩

end Go.Proofs.Ytpjnhjijipcjkaa
