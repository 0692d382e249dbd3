/-
  Texts put together: Qa Qb Qc Qd Qe Qf Qg Qh.
-/
import Derived.Test.YtpjnhjijipcjkaaPk
import Derived.RangeFuncNested
import Derived.RangeFuncBound
import Derived.RangeFuncCalls
import Derived.RangeFuncLeaves
import Derived.Shelf.RegionOpen
import Derived.OwnWalkIn
import Derived.TacticsInMore
import Derived.LoopNIn
import Derived.LoopIn
import Derived.Shelf.Abstract
import Derived.Test.YtpjnhjijipcjkaaSc
/-! Qa -/
namespace Go.Proofs.Ytpjnhjijipcjkaa
open Go.RowKit
set_option linter.unusedVariables false

set_option maxHeartbeats 2000000 in
theorem here_any (k s n v : Int) (ia : Option Addr) (il ic : Nat) (w : World) : Calls Try.prog 31 #[opA k s n v ia il ic] w fun e w' => e = .returned (opA k 0 n v ia il ic) ∧ RowKit.Below w.heap.size w w' := by
  go_enter Try.func31, Try.ntmps31
  go_wp2
  refine bodyPost_ret (v := opA k 0 n v ia il ic) (by simp [results, Try.results31, go_sem]) rfl ?_
  refine ⟨rfl, ?_⟩
  repeat (first | exact Below.refl _ _ | refine Below.setCell ?_ (by simp) _ | refine Below.alloc ?_ (by simp) _)

set_option maxHeartbeats 2000000 in
theorem run_any (a : Nat) (w : World) : Calls Try.prog 30 #[pt a] w fun e w' => e = .returned (.func (.func 52) #[] #[.pointer (some ⟨w.heap.size, 0, none⟩)]) ∧ w' = w.alloc (.cells #[pt a] 28) := by
  go_enter Try.func30, Try.ntmps30
  go_wp2
  go_ret
  exact ⟨rfl, rfl⟩

theorem rpop_c {A : Rb} (h : A.ib.hd = true) : (rpopS A).c = A.c + 1 := by
  unfold rpopS
  rw [if_pos h]

set_option maxHeartbeats 4000000 in
theorem next_any {G : Thg} {w0 w : World} {K : Nat → Prop} {x a b r q : Nat} {A B : Rb} {m : Nat} (h : MO w0 w K (FP G x a b r q (rpopS A) B A B m)) (hh : A.ib.hd = true) (z : Int) (hz : atK A.ib.H (A.c + 1) iz = .int .i64 z) (hc : A.c ≤ 4096) :
    Calls Try.prog 53 #[pt x, .int .i64 ((A.c + 1 : Nat) : Int), .int .i64 z] w fun ex w' => ex = .returned (.bool true) ∧ MO w0 w' K (FP G x a b r q (rpopS A) B (rpopS A) B m) ∧ KP K w w' := by
  obtain ⟨aL, cL, vW, hbx, -, -, hx⟩ := pb_box h
  have c2 := cell_row hbx 2
  simp at c2
  have HZ := hd (And.intro hz (And.intro hh (And.intro (itossE_of' hh) (rpop_c hh))))
  have H0 := hd h
  clear h hbx hz hh
  have hw1 : wrap64 ((A.c : Int) + 1) = (A.c : Int) + 1 := by unfold wrap64; omega
  go_enter Try.func53, Try.ntmps53
  go_wp2_with fail
  refine (mr_head H0.out 2 rfl).mono ?_
  rintro _ w1 ⟨rfl, rfl⟩
  rw [HZ.out.1, HZ.out.2.1]
  go_wp2_with fail
  refine (mr_cum H0.out 2 rfl).mono ?_
  rintro _ w2 ⟨rfl, rfl⟩

  go_wp2_with fail
  refine (mr_pop H0.out 2 rfl).mono ?_
  rintro _ w3 ⟨rfl, M3, P3⟩
  rw [HZ.out.2.2.1]
  rw [FP_2] at M3
  obtain ⟨aL', cL', vW', hbx3, -, -, hx3⟩ := pb_box M3
  have c0 := cell_row hbx3 0
  simp at c0
  have H3 := hd (And.intro M3 P3)
  clear M3 P3 hbx3 H0 c2
  go_wp2_with fail
  refine (mk_cum H3.out.1 0 rfl).mono ?_
  rintro _ w4 ⟨rfl, rfl⟩
  go_wp2_with fail
  refine (mr_cum H3.out.1 2 rfl).mono ?_
  rintro _ w5 ⟨rfl, rfl⟩
  go_wp2_with fail
  go_ret
  exact ⟨by simp, H3.out⟩

end Go.Proofs.Ytpjnhjijipcjkaa

/-! Qb -/
namespace Go.Proofs.Ytpjnhjijipcjkaa
open Go.RowKit
set_option linter.unusedVariables false

/-- The two blocks of a loop: its record, and the one for deferred calls. -/
def LB (l D : Nat) (r : Loop) (W : World) : Prop := W.heap[l]? = some (.loop r) ∧ W.heap[D]? = some (.deferred (some []))

/-- How a round may be left. -/
def outPost (l D : Nat) (r : Loop) (I : World → Prop) (Ix : Code → World → Prop) : Exit → Act → World → Prop
  | .normal, _, W' => LB l D r W' ∧ I W'
  | .ret, _, W' => LB l D r W' ∧ Ix .ret W'
  | .exit id, _, W' => LB l D r W' ∧ Ix (.exit id) W'
  | .goto t, _, W' => LB l D r W' ∧ Ix (.goto t) W'
  | .panic _, _, _ => False
  | .outgrown, _, _ => False

theorem range_at {P : Program} {F : Fence} {n : Nat} {α : Type} {g : Operand} {ps : Array Tmp} {assign body : Code} {Q : Exit → Act → World → Prop} {a : Act} {w : World}
    (hro : F.round = none) (h1 : 1 ≤ n) {gf : Nat} {lb : Array Value} (hg : a.eval g = .func (.func gf) #[] lb) (hFg : F.fn gf) (eg : ∀ args w, (callFunc gf args).run P w = .ok (.enter gf args) w)
    (encs : α → Array Value) (hps : ∀ x, (encs x).size = ps.size) (l D : Nat) (hD : D = w.heap.size) (hl : l = w.heap.size + 1)
    (I0 Ie : World → Prop) (I Y : α → World → Prop) (Ix : Code → World → Prop) (a₁ : α → Act)
    (pY : ∀ x W o, Y x W → Y x (W.putObj l o)) (pI : ∀ x W o, I x W → I x (W.putObj l o)) (pIe : ∀ W o, Ie W → Ie (W.putObj l o)) (pIx : ∀ c W o, Ix c W → Ix c (W.putObj l o))
    (h0 : ∀ r, I0 ((w.alloc (.deferred (some []))).alloc (.loop r)))
    (hseq : ∀ (r : Loop) (W1 : World) (X : World → Prop), LB l D r W1 → I0 W1 →
      (∀ x W, LB l D r W → Y x W → YieldAt F (n - 1 - 1) P l (encs x) W fun e W' => (e = .returned (.bool true) ∧ LB l D r W' ∧ I x W') ∨ (e = .returned (.bool false) ∧ X W')) →
      CallsIn F (n - 1) P gf (#[.func (.yield l) #[] #[]] ++ lb) W1 fun e W' => (∃ v, e = .returned v) ∧ ((LB l D r W' ∧ Ie W') ∨ X W'))
    (hassign : ∀ (x : α) (W : World) (K : Act → World → Prop), K (a₁ x) W → assign.wpIn (F.inRound l) (n - 1 - 1) P (Exit.then K (fun _ _ _ => False)) { tmps := (ps.zip (encs x)).foldl (fun t (p, v) => t.setIfInBounds p v) a.tmps, defers := [] } W)
    (hbody : ∀ (x : α) (r : Loop) (W : World), LB l D r W → Y x W → body.wpIn (F.inRound l) (n - 1 - 1) P (outPost l D r (I x) Ix) (a₁ x) W)
    (hdone : ∀ W, Ie W → W.heap[D]? = some (.deferred (some [])) → Q .normal { a with defers := { target := .collected D, args := #[] } :: a.defers } W)
    (hstop : ∀ c W, Ix c W → W.heap[D]? = some (.deferred (some [])) → c.wpIn F n P Q { a with defers := { target := .collected D, args := #[] } :: a.defers } W) :
    (Code.rangeFunc g ps assign body).wpIn F n P Q a w := by
  subst hD
  have hlD : w.heap.size ≠ l := by omega
  refine wpIn_rangeFunc fun fn hfn => ?_
  rw [hro]
  obtain ⟨r0, hr0⟩ : ∃ r0 : Loop, r0 = { state := .ready, pending := none, fn, tmps := a.tmps, params := ps, assign, body, defers := w.heap.size } := ⟨_, rfl⟩
  obtain ⟨W1, hW1⟩ : ∃ W1, (w.alloc (.deferred (some []))).alloc (.loop r0) = W1 := ⟨_, rfl⟩
  have hL1 : LB l w.heap.size r0 W1 := by
    rw [← hW1, hl]
    refine ⟨?_, (Below.heap_alloc _ _ _ (by simp)).trans (World.alloc_heap_new w _)⟩
    have := World.alloc_heap_new (w.alloc (.deferred (some []))) (.loop r0)
    rwa [World.size_alloc] at this
  refine ⟨l, [{ target := .collected w.heap.size, args := #[] }], W1, { target := .fn (.func gf) lb, args := #[.func (.yield l) #[] #[]] }, W1, gf, #[.func (.yield l) #[] #[]] ++ lb, W1, ?_, ?_, ?_, ?_, fun _ => h1, ?_⟩
  · rw [← hW1, hr0, hl]; exact run_enterLoop_outer _ _ _ _ _
  · simp only [resolve, hg]
    simp [go_sem]
  · intro f' hf'; simp [Target.leads] at hf'; subst hf'; exact hFg
  · simp [invoke, go_sem, eg]
  · refine (hseq r0 W1 (fun W => ∃ c, LB l w.heap.size { r0 with state := .done, pending := some c } W ∧ Ix c W) hL1 (by rw [← hW1]; exact h0 _) ?_).mono ?_
    · rintro x W ⟨hb1, hb2⟩ hY
      have hlt : l < W.heap.size := block_lt hb1
      have hy := run_yield (P := P) (args := encs x) hb1 (by rw [hr0]; exact hps x)
      rw [hr0] at hy
      refine ⟨fn, _, assign, body, hy, roundIn_of_wpIn hfn (hassign x W _ ?_)⟩
      refine ⟨_, run_beginRound hb1 (by rw [hr0]), ?_⟩
      have lb2 : LB l w.heap.size { r0 with state := .busy } (W.putObj l (.loop { r0 with state := .busy })) := ⟨World.putObj_heap_same hlt, (World.putObj_heap_other hlD).trans hb2⟩
      refine wpIn_mono (hbody x _ _ lb2 (pY _ _ _ hY)) ?_
      have fin : ∀ (jump : Option Code) (W3 : World), LB l w.heap.size { r0 with state := .busy } W3 → (Instr.endRound l jump).run P W3 = .ok (.bool jump.isNone) (W3.putObj l (.loop { r0 with state := if jump.isNone then .ready else .done, pending := jump })) ∧ LB l w.heap.size { r0 with state := if jump.isNone then .ready else .done, pending := jump } (W3.putObj l (.loop { r0 with state := if jump.isNone then .ready else .done, pending := jump })) := fun jump W3 h3 =>
        ⟨by have := run_endRound (P := P) jump h3.1; exact this, World.putObj_heap_same (block_lt h3.1), (World.putObj_heap_other hlD).trans h3.2⟩
      rintro e a3 W3 hp
      cases e with
      | normal =>
        obtain ⟨hr, h4⟩ := fin none W3 hp.1
        refine ⟨_, _, hr, .inl ⟨rfl, ?_, pI _ _ _ hp.2⟩⟩
        have e : ({ r0 with state := if (none : Option Code).isNone then .ready else .done, pending := none } : Loop) = r0 := by rw [hr0]; rfl
        rw [e] at h4 ⊢
        exact h4
      | ret =>
        obtain ⟨hr, h4⟩ := fin (some .ret) W3 hp.1
        exact ⟨_, _, hr, .inr ⟨rfl, .ret, h4, pIx _ _ _ hp.2⟩⟩
      | exit id =>
        obtain ⟨hr, h4⟩ := fin (some (.exit id)) W3 hp.1
        exact ⟨_, _, hr, .inr ⟨rfl, .exit id, h4, pIx _ _ _ hp.2⟩⟩
      | goto t =>
        obtain ⟨hr, h4⟩ := fin (some (.goto t)) W3 hp.1
        exact ⟨_, _, hr, .inr ⟨rfl, .goto t, h4, pIx _ _ _ hp.2⟩⟩
      | panic ch => exact hp.elim
      | outgrown => exact hp.elim
    · rintro e W2 ⟨⟨v, rfl⟩, (⟨h2, hi⟩ | ⟨c, h2, hi⟩)⟩
      · have he := run_endLoop (P := P) h2.1 (by rw [hr0]; simp)
        have hp : r0.pending = none := by rw [hr0]
        rw [hp] at he
        exact ⟨none, _, he, hdone _ (pIe _ _ hi) ((World.putObj_heap_other hlD).trans h2.2)⟩
      · have he := run_endLoop (P := P) h2.1 (by simp)
        exact ⟨some c, _, he, hstop c _ (pIx _ _ _ hi) ((World.putObj_heap_other hlD).trans h2.2)⟩

end Go.Proofs.Ytpjnhjijipcjkaa

/-! Qc -/
namespace Go.Proofs.Ytpjnhjijipcjkaa
open Go.RowKit Go.Shelf
set_option linter.unusedVariables false
attribute [local go_sem] Oper.semAt_some

theorem least {p : Nat → Prop} (h : ∃ k, p k) : ∃ k, p k ∧ ∀ j, p j → k ≤ j := by
  obtain ⟨k, hk⟩ := h
  induction k using Nat.strongRecOn with
  | _ k ih =>
    by_cases h : ∃ j, j < k ∧ p j
    · obtain ⟨j, h1, h2⟩ := h
      exact ih j h1 h2
    · exact ⟨k, hk, fun j hj => by
        by_cases hlt : j < k
        · exact absurd ⟨j, hlt, hj⟩ h
        · omega⟩
open Classical in
/-- How many rounds are left at most. -/
noncomputable def rk (I : Nat → World → Prop) (W : World) : Nat := if h : ∃ k, I k W then Classical.choose (least h) else 0
theorem rk_spec {I : Nat → World → Prop} {W : World} (h : ∃ k, I k W) : I (rk I W) W ∧ ∀ j, I j W → rk I W ≤ j := by
  unfold rk
  rw [dif_pos h]
  exact Classical.choose_spec (least h)

/-- One round: Head, Pop, yield. -/
def RunAt (n l bx a : Nat) (I : Nat → World → Prop) (E X : World → Prop) : Prop := ∀ k W, I k W → W.cell? ⟨bx, 0, none⟩ = some (pt a) ∧
  ((∃ v, Calls Try.prog 15 #[pt a] W fun e W' => e = .returned (.tuple #[v, .bool false]) ∧ E W') ∨
   ∃ z c, Calls Try.prog 15 #[pt a] W fun e W1 => e = .returned (.tuple #[.int .i64 z, .bool true]) ∧ W1.cell? ⟨bx, 0, none⟩ = some (pt a) ∧
     Calls Try.prog 16 #[pt a] W1 fun e W2 => (∃ v, e = .returned v) ∧ W2.cell? ⟨bx, 0, none⟩ = some (pt a) ∧ W2.cell? ⟨a, 1, none⟩ = some (.int .i64 c) ∧
       YieldAt Fence.wide (n - 1) Try.prog l #[.int .i64 c, .int .i64 z] W2 fun e W3 => (e = .returned (.bool true) ∧ ∃ k', k' < k ∧ I k' W3) ∨ (e = .returned (.bool false) ∧ X W3))

set_option maxRecDepth 100000 in
set_option maxHeartbeats 4000000 in
theorem run1_at (n l bx a : Nat) (hn : 2 ≤ n) (I : Nat → World → Prop) (E X : World → Prop) (hI : RunAt n l bx a I E X) (W : World) (h : ∃ k, I k W) :
    CallsIn Fence.wide n Try.prog 52 #[.func (.yield l) #[] #[], .pointer (some ⟨bx, 0, none⟩)] W fun e W' => (∃ v, e = .returned v) ∧ (E W' ∨ X W') := by
  have hf1 : Fence.wide.fn 15 := trivial
  have hf2 : Fence.wide.fn 16 := trivial
  have hn1 : 1 ≤ n := by omega
  have HI := hd hI
  have H0 := hd h
  clear hI h
  refine callsIn_of_wp Try.func52 rfl trivial ?_ rfl
  simp only [Try.ntmps52, List.size_toArray, List.length_cons, List.length_nil, Nat.reduceAdd, Nat.reduceSub, Array.replicate_succ, Array.replicate_zero, List.push_toArray, List.append_toArray, List.nil_append, List.cons_append]
  gi_wp2_with fail
  gi_loopw [] (fun wr => Hid (∃ k, I k wr)) (fun wr => rk I wr)
  case atStart => exact H0
  case round =>
    obtain ⟨hk, hmin⟩ := rk_spec hrel.out
    have HM := hd hmin
    clear hmin hrel H0
    obtain ⟨c0, h1⟩ := HI.out _ _ hk
    have HK := hd hk
    clear hk
    rcases h1 with ⟨v, hc⟩ | ⟨z, c, hc⟩
    · gi_wp2_with (gi_at_call 15; refine (callsIn_wide.2 hc).mono ?_; clear hc; rintro e w' ⟨rfl, hE⟩)
      refine bodyPost_ret (results_none rfl _ _ _) rfl ?_
      exact ⟨⟨_, rfl⟩, .inl hE⟩
    · gi_wp2_with (first | (gi_at_call 15; refine (callsIn_wide.2 hc).mono ?_; clear hc; rintro e w1 ⟨rfl, c1, hp⟩) | (gi_at_call 16; refine (callsIn_wide.2 hp).mono ?_; clear hp; rintro e w2 ⟨⟨v, rfl⟩, c2, d2, hy2⟩; obtain ⟨fn, tmps, assign, body, hy, hR⟩ := hy2))
      refine hR.mono ?_
      rintro e W3 (⟨rfl, k', hk', hJ3⟩ | ⟨rfl, hX⟩)
      · have Z : Hid (∃ k, I k W3) := ⟨k', hJ3⟩
        have hlt : rk I W3 < rk I wr := Nat.lt_of_le_of_lt ((rk_spec Z.out).2 k' hJ3) hk'
        clear hJ3
        gi_wp2_with fail
        go_roundw
        case rel => exact Z
        case measure => exact hlt
      · gi_wp2_with fail
        refine bodyPost_ret (results_none rfl _ _ _) rfl ?_
        exact ⟨⟨_, rfl⟩, .inr hX⟩

end Go.Proofs.Ytpjnhjijipcjkaa

/-! Qd -/
namespace Go.Proofs.Ytpjnhjijipcjkaa
open Go.RowKit
set_option linter.unusedVariables false

/-- G, and the blocks of K as they are in Wr. -/
def pinO (G : Thg) (K : Nat → Prop) (Wr : World) : Thg := fun w S => ∃ S1, G w S1 ∧ (∀ k, S k ↔ S1 k ∨ K k) ∧ (∀ k, S1 k → ¬ K k) ∧ (∀ k, K k → k < w.heap.size) ∧ ∀ k, K k → w.heap[k]? = Wr.heap[k]?
theorem frm_pin {G : Thg} (hG : Frm G) (K : Nat → Prop) (Wr : World) : Frm (pinO G K Wr) := ⟨fun w w' S T h hF hS => by
  obtain ⟨S1, h1, h2, h3, h4, h5⟩ := h
  refine ⟨S1, hG.fr _ _ _ _ h1 hF (fun k hk => hS k ((h2 k).2 (.inl hk))), h2, h3, fun k hk => Nat.lt_of_lt_of_le (h4 k hk) hF.size, fun k hk => ?_⟩
  rw [hF.block k (h4 k hk) (hS k ((h2 k).2 (.inr hk)))]
  exact h5 k hk, fun w S h k hk => by
  obtain ⟨S1, h1, h2, h3, h4, h5⟩ := h
  rcases (h2 k).1 hk with h | h
  · exact hG.old _ _ h1 k h
  · exact h4 k h⟩

section
variable {w0 w : World} {K : Nat → Prop} {F : Nat → Thg}
open Classical in
theorem MO.pin (h : MO w0 w K F) (i : Nat) (hK : ∀ k, K k → w0.heap.size ≤ k) : MO w0 w NoK (setO F i (pinO (F i) K w)) := by
  obtain ⟨T, hx, hk⟩ := h.tags
  refine ⟨⟨fun k => if K k then i + 1 else T k, fun j => ?_, fun k hk => hk.elim⟩, h.base, fun k hk => hk.elim, fun j => ?_⟩
  · obtain ⟨S, h1, h2⟩ := hx j
    have hd : ∀ k, S k → ¬ K k := fun k hs hkk => by have := (h2 k hs).1; have := hk k hkk; omega
    by_cases hji : j = i
    · subst hji
      rw [setO_same]
      refine ⟨fun k => S k ∨ K k, ⟨S, h1, fun k => Iff.rfl, hd, h.old, fun k _ => rfl⟩, fun k hs => ?_⟩
      rcases hs with hs | hs
      · exact ⟨(if_neg (hd k hs)).trans (h2 k hs).1, (h2 k hs).2⟩
      · exact ⟨if_pos hs, hK k hs⟩
    · rw [setO_other F _ hji]
      refine ⟨S, h1, fun k hs => ?_⟩
      exact ⟨(if_neg (hd k hs)).trans (h2 k hs).1, (h2 k hs).2⟩
  · by_cases hji : j = i
    · subst hji
      rw [setO_same]
      exact frm_pin (h.frm j) _ _
    · rw [setO_other F _ hji]
      exact h.frm j
open Classical in
theorem MO.unpin {G : Thg} {Wr : World} (h : MO w0 w NoK F) (i : Nat) (hi : F i = pinO G K Wr) (hG : Frm G) : MO w0 w K (setO F i G) ∧ KP K Wr w := by
  obtain ⟨T, hx, -⟩ := h.tags
  obtain ⟨S, h1, h2⟩ := hx i
  rw [hi] at h1
  obtain ⟨S1, g1, g2, g3, g4, g5⟩ := h1
  have hT : ∀ k, K k → T k = i + 1 := fun k hk => (h2 k ((g2 k).2 (.inr hk))).1
  refine ⟨⟨⟨fun k => if K k then 0 else T k, fun j => ?_, fun k hk => if_pos hk⟩, h.base, g4, fun j => ?_⟩, g5⟩
  · by_cases hji : j = i
    · subst hji
      rw [setO_same]
      refine ⟨S1, g1, fun k hs => ?_⟩
      have h5 := h2 k ((g2 k).2 (.inl hs))
      exact ⟨(if_neg (g3 k hs)).trans h5.1, h5.2⟩
    · rw [setO_other F G hji]
      obtain ⟨Sj, h3, h4⟩ := hx j
      refine ⟨Sj, h3, fun k hs => ?_⟩
      exact ⟨(if_neg (fun hk => by have := hT k hk; have := (h4 k hs).1; omega)).trans (h4 k hs).1, (h4 k hs).2⟩
  · by_cases hji : j = i
    · subst hji
      rw [setO_same]
      exact hG
    · rw [setO_other F G hji]
      exact h.frm j
end

theorem FP_5 (G G' : Thg) (x a b r q : Nat) (A B A' B' : Rb) (m : Nat) : setO (FP G x a b r q A B A' B' m) 5 G' = FP G' x a b r q A B A' B' m := by
  funext j
  rcases j with _ | _ | _ | _ | _ | _ | j <;> rfl

/-- What holds at no kept block holds at any. -/
theorem lift {G : Thg} {w0 w : World} {K : Nat → Prop} {x a b r q : Nat} {A B : Rb} {m : Nat} {f : FuncId} {args : Array Value} {v : Value}
    (C : ∀ G, PB G w0 w NoK x a b r q A B m → Calls Try.prog f args w fun ex w' => ex = .returned v ∧ ∃ A' B' m', m' ≤ 44 ∧ PB G w0 w' NoK x a b r q A' B' m')
    (h : PB G w0 w K x a b r q A B m) (hK : ∀ k, K k → w0.heap.size ≤ k) : Calls Try.prog f args w fun ex w' => ex = .returned v ∧ ∃ A' B' m', m' ≤ 44 ∧ PB G w0 w' K x a b r q A' B' m' ∧ KP K w w' := by
  have h1 := MO.pin h 5 hK
  rw [FP_5] at h1
  refine (C _ h1).mono ?_
  rintro e w' ⟨rfl, A', B', m', hm', h2⟩
  obtain ⟨h3, h4⟩ := MO.unpin h2 5 (G := G) (K := K) (Wr := w) rfl (h.frm 5)
  rw [FP_5] at h3
  exact ⟨rfl, A', B', m', hm', h3, h4⟩

section
variable {G : Thg} {w0 w : World} {K : Nat → Prop} {x a b r q : Nat} {A B : Rb} {m : Nat}
theorem step_k (h : PB G w0 w K x a b r q A B m) (hK : ∀ k, K k → w0.heap.size ≤ k) (hm : m ≤ 44) (k s n v : Int) (ia : Option Addr) (il ic : Nat) :
    Calls Try.prog 26 #[pt x, opA k s n v ia il ic] w fun ex w' => ex = .returned (.bool true) ∧ ∃ A' B' m', m' ≤ 44 ∧ PB G w0 w' K x a b r q A' B' m' ∧ KP K w w' :=
  lift (fun G' h' => step_any h' hm k s n v ia il ic) h hK
end

end Go.Proofs.Ytpjnhjijipcjkaa

/-! Qe -/
namespace Go.Proofs.Ytpjnhjijipcjkaa
open Go.RowKit
set_option linter.unusedVariables false

def TrD : Nat → World → Option Addr → Nat → Nat → Prop
  | 0, _, _, il, ic => il ≤ ic ∧ ic ≤ 9223372036854775807 ∧ il = 0
  | d + 1, w, ia, il, ic => il ≤ ic ∧ ic ≤ 9223372036854775807 ∧ il ≤ 3000000000000 ∧ (0 < il → ∃ b off, ia = some ⟨b, off, none⟩ ∧ b < w.heap.size ∧ ∀ i, i < il → ∃ q : OpV, OpAt w b (off + i * 5) q ∧ TrD d w q.ia q.il q.ic)
theorem TrD.below {d : Nat} {w w' : World} {B : Nat} {ia : Option Addr} {il ic : Nat} (h : TrD d w ia il ic) (hb : RowKit.Below B w w') (hB : w.heap.size ≤ B) : TrD d w' ia il ic := by
  induction d generalizing ia il ic with
  | zero => exact h
  | succ d ih =>
    obtain ⟨h1, h2, h3, h4⟩ := h
    refine ⟨h1, h2, h3, fun hn => ?_⟩
    obtain ⟨b, off, e, hlt, hc⟩ := h4 hn
    refine ⟨b, off, e, Nat.lt_of_lt_of_le hlt hb.size, fun i hi => ?_⟩
    obtain ⟨q, k1, k2⟩ := hc i hi
    exact ⟨q, k1.below hb (Nat.lt_of_lt_of_le hlt hB), ih k2⟩
theorem TrD.len {d : Nat} {w : World} {ia : Option Addr} {il ic : Nat} (h : TrD d w ia il ic) : il ≤ ic ∧ ic ≤ 9223372036854775807 ∧ il ≤ 3000000000000 := by
  cases d with
  | zero => exact ⟨h.1, h.2.1, by have := h.2.2; omega⟩
  | succ d => exact ⟨h.1, h.2.1, h.2.2.1⟩
/-- The step at a place, and what lies within it. -/
theorem TrD.at {d : Nat} {w : World} {ia : Option Addr} {il ic i : Nat} (h : TrD d w ia il ic) (hi : i < il) : ∃ d', d = d' + 1 ∧ ∃ b off q, ia = some ⟨b, off, none⟩ ∧ b < w.heap.size ∧ OpAt w b (off + i * 5) q ∧ TrD d' w q.ia q.il q.ic := by
  cases d with
  | zero => have := h.2.2; omega
  | succ d =>
    obtain ⟨b, off, e, hlt, hc⟩ := h.2.2.2 (by omega)
    obtain ⟨q, k1, k2⟩ := hc i hi
    exact ⟨d, rfl, b, off, q, e, hlt, k1, k2⟩

end Go.Proofs.Ytpjnhjijipcjkaa

/-! Qf -/
namespace Go.Proofs.Ytpjnhjijipcjkaa
open Go.RowKit
set_option linter.unusedVariables false

/-- The kept blocks, and the six that gone lays. -/
def K6 (K : Nat → Prop) (b : Nat) : Nat → Prop := fun k => K k ∨ (b ≤ k ∧ k < b + 6)
theorem Fr.putObj (w : World) (l : Nat) (o : Obj) : Fr (fun k => k = l) w (w.putObj l o) := ⟨rfl, rfl, rfl, by simp, fun k _ hn => World.putObj_heap_other hn⟩

structure GS (G : Thg) (w0 w : World) (K : Nat → Prop) (x a b r q bx : Nat) (k s nn v : Int) (ia : Option Addr) (il ic : Nat) (A A' B : Rb) (m n : Nat) (W : World) : Prop where
  mo : MO w0 W (K6 K w.heap.size) (FP G x a b r q A B A' B m)
  hm : m ≤ 44
  c3 : W.heap[w.heap.size]? = some (.cells #[pt x] 61 (0, 0))
  c4 : W.heap[w.heap.size + 1]? = some (.cells #[.int .i64 k, .int .i64 s, .int .i64 nn, .int .i64 v, .slice ia il ic] 56 (0, 0))
  c6 : ∃ bo, W.heap[w.heap.size + 2]? = some (.cells #[.bool bo] 4 (0, 0))
  c7 : W.heap[w.heap.size + 3]? = some (.cells #[.int .i64 (n : Nat)] 3 (0, 0))
  cb : W.heap[bx]? = some (.cells #[pt a] 28 (0, 0))
  kp : KP K w W
  hbx : K bx
  lt : ∀ k, K k → k < w.heap.size
  w0w : w0.heap.size ≤ w.heap.size

section
variable {G : Thg} {w0 w W W' : World} {K : Nat → Prop} {x a b r q bx : Nat} {k s nn v : Int} {ia : Option Addr} {il ic : Nat} {A A' B A2 A2' B2 : Rb} {m m2 n : Nat}
theorem GS.step (h : GS G w0 w K x a b r q bx k s nn v ia il ic A A' B m n W) (mo : MO w0 W' (K6 K w.heap.size) (FP G x a b r q A2 B2 A2' B2 m2)) (hm : m2 ≤ 44) (hk : KP (K6 K w.heap.size) W W') : GS G w0 w K x a b r q bx k s nn v ia il ic A2 A2' B2 m2 n W' := by
  refine ⟨mo, hm, (hk _ (.inr (by omega))).trans h.c3, (hk _ (.inr (by omega))).trans h.c4, ?_, (hk _ (.inr (by omega))).trans h.c7, (hk _ (.inl h.hbx)).trans h.cb, fun k hK => (hk k (.inl hK)).trans (h.kp k hK), h.hbx, h.lt, h.w0w⟩
  obtain ⟨bo, hb⟩ := h.c6
  exact ⟨bo, (hk _ (.inr (by omega))).trans hb⟩
theorem GS.below (h : GS G w0 w K x a b r q bx k s nn v ia il ic A A' B m n W) (hb : Below W.heap.size W W') : GS G w0 w K x a b r q bx k s nn v ia il ic A A' B m n W' := h.step (h.mo.below hb) h.hm (h.mo.kp hb)
theorem GS.write (h : GS G w0 w K x a b r q bx k s nn v ia il ic A A' B m n W) {j : Nat} (hF : Fr (fun k => k = w.heap.size + j) W W') (hj : j < 6) : MO w0 W' (K6 K w.heap.size) (FP G x a b r q A B A' B m) := h.mo.write hF (fun k e => ⟨.inr (by omega), by have := h.w0w; omega⟩)
theorem GS.putObj (h : GS G w0 w K x a b r q bx k s nn v ia il ic A A' B m n W) (o : Obj) : GS G w0 w K x a b r q bx k s nn v ia il ic A A' B m n (W.putObj (w.heap.size + 5) o) := by
  have hb := h.lt bx h.hbx
  refine ⟨h.write (Fr.putObj W _ o) (by omega), h.hm, (World.putObj_heap_other (by omega)).trans h.c3, (World.putObj_heap_other (by omega)).trans h.c4, ?_, (World.putObj_heap_other (by omega)).trans h.c7, (World.putObj_heap_other (by omega)).trans h.cb, fun k hK => (World.putObj_heap_other (by have := h.lt k hK; omega)).trans (h.kp k hK), h.hbx, h.lt, h.w0w⟩
  obtain ⟨bo, hb⟩ := h.c6
  exact ⟨bo, (World.putObj_heap_other (by omega)).trans hb⟩
theorem GS.set7 (h : GS G w0 w K x a b r q bx k s nn v ia il ic A A' B m n W) (n' : Nat) : GS G w0 w K x a b r q bx k s nn v ia il ic A A' B m n' (W.setCell ⟨w.heap.size + 3, 0, none⟩ (.int .i64 (n' : Nat))) := by
  have hb := h.lt bx h.hbx
  have hF : Fr (fun k => k = w.heap.size + 3) W (W.setCell ⟨w.heap.size + 3, 0, none⟩ (.int .i64 (n' : Nat))) := Fr.setCell W _ _ rfl
  refine ⟨h.write hF (by omega), h.hm, hF.keeps h.c3 (by omega), hF.keeps h.c4 (by omega), ?_, ?_, hF.keeps h.cb (by omega), fun k hK => ?_, h.hbx, h.lt, h.w0w⟩
  · obtain ⟨bo, hb⟩ := h.c6
    exact ⟨bo, hF.keeps hb (by omega)⟩
  · have := set_row h.c7 0 (.int .i64 (n' : Nat))
    simpa using this
  · have hl := h.lt k hK
    have h1 := h.mo.old k (.inl hK)
    exact (hF.block k h1 (by omega)).trans (h.kp k hK)
theorem GS.set6 (h : GS G w0 w K x a b r q bx k s nn v ia il ic A A' B m n W) (bo : Bool) : GS G w0 w K x a b r q bx k s nn v ia il ic A A' B m n (W.setCell ⟨w.heap.size + 2, 0, none⟩ (.bool bo)) ∧ (W.setCell ⟨w.heap.size + 2, 0, none⟩ (.bool bo)).heap[w.heap.size + 2]? = some (.cells #[.bool bo] 4 (0, 0)) := by
  have hb := h.lt bx h.hbx
  have hF : Fr (fun k => k = w.heap.size + 2) W (W.setCell ⟨w.heap.size + 2, 0, none⟩ (.bool bo)) := Fr.setCell W _ _ rfl
  obtain ⟨b0, hb0⟩ := h.c6
  have e6 : (W.setCell ⟨w.heap.size + 2, 0, none⟩ (.bool bo)).heap[w.heap.size + 2]? = some (.cells #[.bool bo] 4 (0, 0)) := by
    have := set_row hb0 0 (.bool bo)
    simpa using this
  refine ⟨⟨h.write hF (by omega), h.hm, hF.keeps h.c3 (by omega), hF.keeps h.c4 (by omega), ⟨bo, e6⟩, hF.keeps h.c7 (by omega), hF.keeps h.cb (by omega), fun k hK => ?_, h.hbx, h.lt, h.w0w⟩, e6⟩
  have hl := h.lt k hK
  have h1 := h.mo.old k (.inl hK)
  exact (hF.block k h1 (by omega)).trans (h.kp k hK)
theorem LB.kp {l D : Nat} {lr : Loop} (h : LB l D lr W) (hk : KP (K6 K w.heap.size) W W') (hD : D = w.heap.size + 4) (hl : l = w.heap.size + 5) : LB l D lr W' := ⟨(hk l (.inr (by omega))).trans h.1, (hk D (.inr (by omega))).trans h.2⟩
theorem LB.fr {l D j : Nat} {lr : Loop} (h : LB l D lr W) (hF : Fr (fun k => k = w.heap.size + j) W W') (hj : j < 4) (hD : D = w.heap.size + 4) (hl : l = w.heap.size + 5) : LB l D lr W' := ⟨(hF.block l (block_lt h.1) (by omega)).trans h.1, (hF.block D (block_lt h.2) (by omega)).trans h.2⟩
theorem GS.ok (h : GS G w0 w K x a b r q bx k s nn v ia il ic A A' B m n W) : A.ib.ok := by
  obtain ⟨S, h1, -⟩ := h.mo.now 0
  obtain ⟨bb, hK, -⟩ := h1
  exact hK.ok
theorem GS.cum (h : GS G w0 w K x a b r q bx k s nn v ia il ic A A' B m n W) : W.cell? ⟨a, 1, none⟩ = some (.int .i64 (A.c : Nat)) := by
  obtain ⟨S, h1, -⟩ := h.mo.now 0
  obtain ⟨bb, hK, -⟩ := h1
  rw [cell_row hK.box]
  rfl
end

/-- How many rounds may still come. -/
def mea (il n c : Nat) : Nat := (il - n) * 4097 + (4096 - c)
theorem mea_step {il n c c' : Nat} (hn : n < il) (hc : c' ≤ 4096) : mea il (n + 1) c' < mea il n c := by
  unfold mea
  have : il - n = (il - (n + 1)) + 1 := by omega
  rw [this, Nat.add_mul]
  omega
theorem mea_last {il n c : Nat} (hn : ¬ n < il) (hc : c + 1 ≤ 4096) : mea il (n + 1) (c + 1) < mea il n c := by
  unfold mea
  have h1 : il - n = 0 := by omega
  have h2 : il - (n + 1) = 0 := by omega
  rw [h1, h2]
  omega
theorem atK_int {L : List (Nat × Int)} {k : Nat} (h : hasK (iH L) k = true) : ∃ z, atK (iH L) k iz = .int .i64 z := by
  unfold hasK at h
  rw [List.any_eq_true] at h
  obtain ⟨q, h1, h2⟩ := h
  unfold atK
  cases hf : (iH L).find? (fun q => q.1 == k) with
  | none =>
    have := List.find?_eq_none.1 hf q h1
    exact absurd h2 this
  | some p =>
    have := List.mem_of_find?_eq_some hf
    obtain ⟨r, -, rfl⟩ := List.mem_map.1 this
    exact ⟨r.2, rfl⟩

section
variable (G : Thg) (w0 w : World) (K : Nat → Prop) (x a b r q bx : Nat) (k s nn v : Int) (ia : Option Addr) (il ic : Nat)
/-- Ahead of a round: at most j rounds may come. -/
def Gk (j : Nat) (W : World) : Prop := ∃ A B m n, GS G w0 w K x a b r q bx k s nn v ia il ic A A B m n W ∧ j = mea il n A.c ∧ n + j ≤ il * 4097 + 4096
def Gi (W : World) : Prop := ∃ j, Gk G w0 w K x a b r q bx k s nn v ia il ic j W
/-- At the end of the sequence. -/
def Ge (W : World) : Prop := ∃ A B m n, GS G w0 w K x a b r q bx k s nn v ia il ic A A B m n W ∧ A.ib.hd = false
/-- Where a thing is handed out. -/
def Gy (t : Int × Int × Nat) (W : World) : Prop := ∃ A B m n, GS G w0 w K x a b r q bx k s nn v ia il ic (rpopS A) A B m n W ∧ A.ib.hd = true ∧ t.1 = ((A.c + 1 : Nat) : Int) ∧ atK A.ib.H (A.c + 1) iz = .int .i64 t.2.1 ∧ A.c + 1 ≤ 4096 ∧ t.2.2 = mea il n A.c ∧ n + t.2.2 ≤ il * 4097 + 4096
/-- Behind a round. -/
def Gr (t : Int × Int × Nat) (W : World) : Prop := ∃ j, j < t.2.2 ∧ Gk G w0 w K x a b r q bx k s nn v ia il ic j W
/-- Where it is stopped. -/
def Gx (c : Code) (W : World) : Prop := c = .ret ∧ (∃ A B m n, GS G w0 w K x a b r q bx k s nn v ia il ic A A B m n W) ∧ W.heap[w.heap.size + 2]? = some (.cells #[.bool true] 4 (0, 0))
def encN (t : Int × Int × Nat) : Array Value := #[.int .i64 t.1, .int .i64 t.2.1]
end

end Go.Proofs.Ytpjnhjijipcjkaa

/-! Qg -/
namespace Go.Proofs.Ytpjnhjijipcjkaa
open Go.RowKit
set_option linter.unusedVariables false

section
variable {G : Thg} {w0 w : World} {K : Nat → Prop} {x a b r q bx : Nat} {k s nn v : Int} {ia : Option Addr} {il ic : Nat}
theorem gone_seq (N l D : Nat) (hN : 4 ≤ N) (hD : D = w.heap.size + 4) (hl : l = w.heap.size + 5) (lr : Loop) (W1 : World) (X : World → Prop) (hL : LB l D lr W1) (h0 : Gi G w0 w K x a b r q bx k s nn v ia il ic W1)
    (hY : ∀ t W, LB l D lr W → Gy G w0 w K x a b r q bx k s nn v ia il ic t W → YieldAt Fence.wide (N - 1 - 1) Try.prog l (encN t) W fun e W' => (e = .returned (.bool true) ∧ LB l D lr W' ∧ Gr G w0 w K x a b r q bx k s nn v ia il ic t W') ∨ (e = .returned (.bool false) ∧ X W')) :
    CallsIn Fence.wide (N - 1) Try.prog 52 (#[.func (.yield l) #[] #[]] ++ #[.pointer (some ⟨bx, 0, none⟩)]) W1 fun e W' => (∃ v, e = .returned v) ∧ ((LB l D lr W' ∧ Ge G w0 w K x a b r q bx k s nn v ia il ic W') ∨ X W') := by
  refine run1_at (N - 1) l bx a (by omega) (fun j W => LB l D lr W ∧ Gk G w0 w K x a b r q bx k s nn v ia il ic j W) (fun W => LB l D lr W ∧ Ge G w0 w K x a b r q bx k s nn v ia il ic W) X ?_ W1 ?_
  · rintro j W ⟨hLB, A, B, m, n, hG, hj, hb⟩
    refine ⟨by rw [cell_row hG.cb]; rfl, ?_⟩
    cases hh : A.ib.hd with
    | false =>
      left
      refine ⟨atK A.ib.H (A.c + 1) iz, (mk_head hG.mo 0 rfl).mono ?_⟩
      rintro e W' ⟨rfl, mo', bel⟩
      rw [hh]
      exact ⟨rfl, hLB.kp (hG.mo.kp bel) hD hl, A, B, m, n, hG.below bel, hh⟩
    | true =>
      right
      obtain ⟨z, hz⟩ := atK_int (L := A.L) (k := A.c + 1) hh
      refine ⟨z, ((A.c + 1 : Nat) : Int), (mk_head hG.mo 0 rfl).mono ?_⟩
      rintro e W1 ⟨rfl, mo1, bel⟩
      have hz' : atK A.ib.H (A.c + 1) iz = .int .i64 z := hz
      rw [hh, hz']
      have hG1 := hG.below bel
      have hL1 := hLB.kp (hG.mo.kp bel) hD hl
      refine ⟨rfl, by rw [cell_row hG1.cb]; rfl, (mk_pop hG1.mo 0 rfl).mono ?_⟩
      rintro e W2 ⟨rfl, mo2, kp2⟩
      rw [FP_0] at mo2
      have hG2 : GS G w0 w K x a b r q bx k s nn v ia il ic (rpopS A) A B m n W2 := hG1.step mo2 hG.hm kp2
      have hL2 := hL1.kp kp2 hD hl
      have hc := hG2.cum
      rw [rpop_c hh] at hc
      have hok := hG2.ok.c2
      have hc4 : A.c + 1 ≤ 4096 := by
        have e : (rpopS A).ib.c = A.c + 1 := rpop_c hh
        rw [← e]
        exact hok
      refine ⟨⟨_, rfl⟩, by rw [cell_row hG2.cb]; rfl, hc, ?_⟩
      obtain ⟨fn, tmps, asg, bd, hy1, hy2⟩ := hY (((A.c + 1 : Nat) : Int), z, j) W2 hL2 ⟨A, B, m, n, hG2, hh, rfl, hz', hc4, hj, hb⟩
      refine ⟨fn, tmps, asg, bd, hy1, hy2.mono ?_⟩
      rintro e W3 (⟨rfl, h3, j', hj', h4⟩ | ⟨rfl, h3⟩)
      · exact .inl ⟨rfl, j', hj', h3, h4⟩
      · exact .inr ⟨rfl, h3⟩
  · obtain ⟨j, hj⟩ := h0
    exact ⟨j, hL, hj⟩
end

end Go.Proofs.Ytpjnhjijipcjkaa

/-! Qh -/
namespace Go.Proofs.Ytpjnhjijipcjkaa
open Go.RowKit
set_option linter.unusedVariables false

/-- What gone does, of scripts of d layers. -/
def GoneC (d : Nat) : Prop := ∀ (G : Thg) (w0 w : World) (K : Nat → Prop) (x a b r q bx : Nat) (k s nn v : Int) (ia : Option Addr) (il ic : Nat) (A B : Rb) (m : Nat), PB G w0 w K x a b r q A B m → (∀ k, K k → w0.heap.size ≤ k) → m ≤ 44 → TrD d w0 ia il ic → K bx → w.heap[bx]? = some (.cells #[pt a] 28 (0, 0)) →
  Calls Try.prog 32 #[pt x, opA k s nn v ia il ic, .func (.func 52) #[] #[.pointer (some ⟨bx, 0, none⟩)]] w fun e w' => e = .returned (.bool true) ∧ ∃ A' B' m', m' ≤ 44 ∧ PB G w0 w' K x a b r q A' B' m' ∧ KP K w w'

def bodyAt : Code → Option Code
  | .seq a b => (bodyAt a).or (bodyAt b)
  | .block _ c => bodyAt c
  | .rangeFunc _ _ _ b => some b
  | _ => none
noncomputable def goneBody : Code := (Try.f32.body.bind bodyAt).getD .skip
theorem K6_base {K : Nat → Prop} {w0 w : World} (hK : ∀ k, K k → w0.heap.size ≤ k) (h : w0.heap.size ≤ w.heap.size) : ∀ k, K6 K w.heap.size k → w0.heap.size ≤ k := by
  rintro k (h1 | h1)
  · exact hK k h1
  · omega
theorem GS.cells {G : Thg} {w0 w W : World} {K : Nat → Prop} {x a b r q bx : Nat} {k s nn v : Int} {ia : Option Addr} {il ic : Nat} {A A' B : Rb} {m n : Nat} (h : GS G w0 w K x a b r q bx k s nn v ia il ic A A' B m n W) :
    W.cell? ⟨w.heap.size, 0, none⟩ = some (pt x) ∧ W.cell? ⟨w.heap.size + 1, 2, none⟩ = some (.int .i64 nn) ∧ W.cell? ⟨w.heap.size + 1, 4, none⟩ = some (.slice ia il ic) ∧ W.cell? ⟨w.heap.size + 3, 0, none⟩ = some (.int .i64 (n : Nat)) ∧ W.frozen? ⟨w.heap.size + 3, 0, none⟩ = false ∧ W.frozen? ⟨w.heap.size + 2, 0, none⟩ = false ∧ (∃ bo, W.cell? ⟨w.heap.size + 2, 0, none⟩ = some (.bool bo)) ∧ w.heap.size + 3 < W.heap.size := by
  obtain ⟨bo, hb⟩ := h.c6
  exact ⟨by rw [cell_row h.c3]; rfl, by rw [cell_row h.c4]; rfl, by rw [cell_row h.c4]; rfl, by rw [cell_row h.c7]; rfl, frozen_row h.c7 0, frozen_row hb 0, ⟨bo, by rw [cell_row hb]; rfl⟩, block_lt h.c7⟩
end Go.Proofs.Ytpjnhjijipcjkaa
