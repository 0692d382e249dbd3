/-
  A range over a function at one invariant; its variables may lie in blocks.
-/
import Derived.Test.YtlmgogonghafeabMA
import Derived.RangeFuncNested
import Derived.RangeFuncBound
import Derived.RangeFuncCalls
import Derived.RangeFuncLeaves
import Derived.Shelf.Abstract
import Derived.Shelf.RegionOpen
import Derived.OwnWalkIn
import Derived.TacticsInMore
import Derived.LoopNIn
import Derived.LoopIn
import Derived.Sort.CutIn
import Derived.Sort.QuietIn
import Derived.Stop.RegionWithIn
import Derived.Laws.Bits64b
import Derived.Lib.ConvBytes
import Derived.Lib.OthersKept
import Derived.Laws.BytesString
namespace Go.Proofs.Ytlmgogonghafeab
open Go.RowKit Go.Shelf
set_option linter.unusedVariables false
attribute [local go_sem] Oper.semAt_some

theorem Fr.putObj (W : World) (l : Nat) (o : Obj) : Fr (fun j => j = l) W (W.putObj l o) := ⟨rfl, rfl, rfl, by simp [World.putObj], fun k hk hn => World.putObj_heap_other hn⟩
/-- The two blocks of a loop: its record, and the one for deferred calls. -/
def LB (l D : Nat) (r : Loop) (W : World) : Prop := W.heap[l]? = some (.loop r) ∧ W.heap[D]? = some (.deferred (some []))

/-- How a round may be left. -/
def outPost (l D : Nat) (r : Loop) (I : World → Prop) (Ix : Code → World → Prop) : Exit → Act → World → Prop
  | .normal, _, W' => LB l D r W' ∧ I W'
  | .ret, _, W' => LB l D r W' ∧ Ix .ret W'
  | .exit id, _, W' => LB l D r W' ∧ Ix (.exit id) W'
  | .goto t, _, W' => LB l D r W' ∧ Ix (.goto t) W'
  | .panic _, _, _ => False
  | .outgrown, _, _ => False

theorem range_as {P : Program} {F : Fence} {n : Nat} {α : Type} {g : Operand} {ps : Array Tmp} {assign body : Code} {Q : Exit → Act → World → Prop} {a : Act} {w : World}
    (hro : F.round = none) (h1 : 1 ≤ n) {gf : Nat} {lb : Array Value} (hg : a.eval g = .func (.func gf) #[] lb) (hFg : F.fn gf) (eg : ∀ args w, (callFunc gf args).run P w = .ok (.enter gf args) w)
    (encs : α → Array Value) (hps : ∀ x, (encs x).size = ps.size) (l D : Nat) (hD : D = w.heap.size) (hl : l = w.heap.size + 1)
    (I0 Ie : World → Prop) (I Y : α → World → Prop) (Ya : α → Act → World → Prop) (Ix : Code → World → Prop)
    (pY : ∀ x a W r r', W.heap[l]? = some (.loop r) → Ya x a W → Ya x a (W.putObj l (.loop r'))) (pI : ∀ x W r r', W.heap[l]? = some (.loop r) → I x W → I x (W.putObj l (.loop r'))) (pIe : ∀ W r r', W.heap[l]? = some (.loop r) → Ie W → Ie (W.putObj l (.loop r'))) (pIx : ∀ c W r r', W.heap[l]? = some (.loop r) → Ix c W → Ix c (W.putObj l (.loop r')))
    (h0 : ∀ r, I0 ((w.alloc (.deferred (some []))).alloc (.loop r)))
    (hseq : ∀ (r : Loop) (W1 : World) (X : World → Prop), LB l D r W1 → I0 W1 →
      (∀ x W, LB l D r W → Y x W → YieldAt F (n - 1 - 1) P l (encs x) W fun e W' => (e = .returned (.bool true) ∧ LB l D r W' ∧ I x W') ∨ (e = .returned (.bool false) ∧ X W')) →
      CallsIn F (n - 1) P gf (#[.func (.yield l) #[] #[]] ++ lb) W1 fun e W' => (∃ v, e = .returned v) ∧ ((LB l D r W' ∧ Ie W') ∨ X W'))
    (hassign : ∀ (x : α) (r : Loop) (W : World), LB l D r W → Y x W → ∀ (K : Act → World → Prop), (∀ a' W', LB l D r W' → Ya x a' W' → K a' W') → assign.wpIn (F.inRound l) (n - 1 - 1) P (Exit.then K (fun _ _ _ => False)) { tmps := (ps.zip (encs x)).foldl (fun t (p, v) => t.setIfInBounds p v) a.tmps, defers := [] } W)
    (hbody : ∀ (x : α) (r : Loop) (a' : Act) (W : World), LB l D r W → Ya x a' W → body.wpIn (F.inRound l) (n - 1 - 1) P (outPost l D r (I x) Ix) a' W)
    (hdone : ∀ W, Ie W → W.heap[D]? = some (.deferred (some [])) → Q .normal { a with defers := { target := .collected D, args := #[] } :: a.defers } W)
    (hstop : ∀ c W, Ix c W → W.heap[D]? = some (.deferred (some [])) → c.wpIn F n P Q { a with defers := { target := .collected D, args := #[] } :: a.defers } W) :
    (Code.rangeFunc g ps assign body).wpIn F n P Q a w := by
  subst hD
  have hlD : w.heap.size ≠ l := by omega
  refine wpIn_rangeFunc fun fn hfn => ?_
  rw [hro]
  obtain ⟨r0, hr0⟩ : ∃ r0 : Loop, r0 = { state := .ready, pending := none, fn, tmps := a.tmps, params := ps, assign, body, defers := w.heap.size } := ⟨_, rfl⟩
  obtain ⟨W1, hW1⟩ : ∃ W1, (w.alloc (.deferred (some []))).alloc (.loop r0) = W1 := ⟨_, rfl⟩
  have hL1 : LB l w.heap.size r0 W1 := by
    rw [← hW1, hl]
    refine ⟨?_, (Below.heap_alloc _ _ _ (by simp)).trans (World.alloc_heap_new w _)⟩
    have := World.alloc_heap_new (w.alloc (.deferred (some []))) (.loop r0)
    rwa [World.size_alloc] at this
  refine ⟨l, [{ target := .collected w.heap.size, args := #[] }], W1, { target := .fn (.func gf) lb, args := #[.func (.yield l) #[] #[]] }, W1, gf, #[.func (.yield l) #[] #[]] ++ lb, W1, ?_, ?_, ?_, ?_, fun _ => h1, ?_⟩
  · rw [← hW1, hr0, hl]; exact run_enterLoop_outer _ _ _ _ _
  · simp only [resolve, hg]
    simp [go_sem]
  · intro f' hf'; simp [Target.leads] at hf'; subst hf'; exact hFg
  · simp [invoke, go_sem, eg]
  · refine (hseq r0 W1 (fun W => ∃ c, LB l w.heap.size { r0 with state := .done, pending := some c } W ∧ Ix c W) hL1 (by rw [← hW1]; exact h0 _) ?_).mono ?_
    · rintro x W ⟨hb1, hb2⟩ hY
      have hlt : l < W.heap.size := block_lt hb1
      have hy := run_yield (P := P) (args := encs x) hb1 (by rw [hr0]; exact hps x)
      rw [hr0] at hy
      refine ⟨fn, _, assign, body, hy, roundIn_of_wpIn hfn (hassign x r0 W ⟨hb1, hb2⟩ hY _ ?_)⟩
      clear hy hb1 hb2 hY hlt
      rintro a2 W2 ⟨hb1, hb2⟩ hY
      have hlt : l < W2.heap.size := block_lt hb1
      refine ⟨_, run_beginRound hb1 (by rw [hr0]), ?_⟩
      have lb2 : LB l w.heap.size { r0 with state := .busy } (W2.putObj l (.loop { r0 with state := .busy })) := ⟨World.putObj_heap_same hlt, (World.putObj_heap_other hlD).trans hb2⟩
      refine wpIn_mono (hbody x _ _ _ lb2 (pY _ _ _ _ _ hb1 hY)) ?_
      have fin : ∀ (jump : Option Code) (W3 : World), LB l w.heap.size { r0 with state := .busy } W3 → (Instr.endRound l jump).run P W3 = .ok (.bool jump.isNone) (W3.putObj l (.loop { r0 with state := if jump.isNone then .ready else .done, pending := jump })) ∧ LB l w.heap.size { r0 with state := if jump.isNone then .ready else .done, pending := jump } (W3.putObj l (.loop { r0 with state := if jump.isNone then .ready else .done, pending := jump })) := fun jump W3 h3 =>
        ⟨by have := run_endRound (P := P) jump h3.1; exact this, World.putObj_heap_same (block_lt h3.1), (World.putObj_heap_other hlD).trans h3.2⟩
      rintro e a3 W3 hp
      cases e with
      | normal =>
        obtain ⟨hr, h4⟩ := fin none W3 hp.1
        refine ⟨_, _, hr, .inl ⟨rfl, ?_, pI _ _ _ _ hp.1.1 hp.2⟩⟩
        have e : ({ r0 with state := if (none : Option Code).isNone then .ready else .done, pending := none } : Loop) = r0 := by rw [hr0]; rfl
        rw [e] at h4 ⊢
        exact h4
      | ret =>
        obtain ⟨hr, h4⟩ := fin (some .ret) W3 hp.1
        exact ⟨_, _, hr, .inr ⟨rfl, .ret, h4, pIx _ _ _ _ hp.1.1 hp.2⟩⟩
      | exit id =>
        obtain ⟨hr, h4⟩ := fin (some (.exit id)) W3 hp.1
        exact ⟨_, _, hr, .inr ⟨rfl, .exit id, h4, pIx _ _ _ _ hp.1.1 hp.2⟩⟩
      | goto t =>
        obtain ⟨hr, h4⟩ := fin (some (.goto t)) W3 hp.1
        exact ⟨_, _, hr, .inr ⟨rfl, .goto t, h4, pIx _ _ _ _ hp.1.1 hp.2⟩⟩
      | panic ch => exact hp.elim
      | outgrown => exact hp.elim
    · rintro e W2 ⟨⟨v, rfl⟩, (⟨h2, hi⟩ | ⟨c, h2, hi⟩)⟩
      · have he := run_endLoop (P := P) h2.1 (by rw [hr0]; simp)
        have hp : r0.pending = none := by rw [hr0]
        rw [hp] at he
        exact ⟨none, _, he, hdone _ (pIe _ _ _ h2.1 hi) ((World.putObj_heap_other hlD).trans h2.2)⟩
      · have he := run_endLoop (P := P) h2.1 (by simp)
        exact ⟨some c, _, he, hstop c _ (pIx _ _ _ _ h2.1 hi) ((World.putObj_heap_other hlD).trans h2.2)⟩

theorem wpListIn_append_k {F : Fence} {n : Nat} {P : Program} (w : World) {ops : Array Oper} {rest : List Oper} {o : Oper} {a : Act} {Q : Exit → Act → World → Prop} (hgd : o.guard = none) (d s : Operand) (t t' : TypeId)
    (ho : o.op = .call { callee := .builtin .append, args := #[d, s], argTypes := #[t, t'] }) (v u : Value) (hd' : a.eval d = v) (hs : a.eval s = u) {v' : Value} {w' : World}
    (hr : (Builtin.append_ #[t, t'] o.type #[v, u]).run P w = .ok v' w') (h : wpListIn F n P ops Q rest (a.put o.dst v') w') : wpListIn F n P ops Q (o :: rest) a w := by
  refine wpListIn_plain hgd fun K hK => ?_
  unfold Oper.wpIn
  refine ⟨by simp [Oper.about, ho, resolve, Target.leads, Sem.run_pure], ?_⟩
  rw [Oper.semAt_plain F _ _ (by rw [ho]; intro c hc'; cases hc')]
  simp [execOp, ho, resolve, invoke, builtin, hd', hs, hr, Result.andThen]
  exact hK _ _ h
theorem retM {F : Fence} {n : Nat} {P : Program} {fn : Func} {R : Ending → World → Prop} {a : Act} {w : World} {v : Value} (hr : (results fn a.tmps).run P w = .ok v w) (hd' : a.defers = []) (hR : R (.returned v) w) : bodyPostM F n P fn R .ret a w := by
  show LeavesInM F n P fn a.tmps R a.defers .returning w
  rw [hd']
  exact ⟨v, hr, hR⟩

end Go.Proofs.Ytlmgogonghafeab
