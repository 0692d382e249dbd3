/-
  The document's Check; history's Check.
-/
import Derived.Test.YtfhghijefjhehaaDoorIm
import Derived.Test.YtfhghijefjhehaaDoorHr
import Derived.Test.YtfhghijefjhehaaDoorMB
namespace Go.Proofs.YtfhghijefjhehaaDoor
open Go.RowKit
set_option linter.unusedVariables false

def GLd (C : Int) (log : List Ed) (k : Nat) : Prop := ∀ j x, j < k → log[j]? = some x → canD chg C log j x
def GEr (C : Int) (log : List Ed) (evs : List Ev) (i : Nat) : Prop := ∀ j x, j < i → evs[j]? = some x → canR chg fit C log (stP evs j) (pv evs j x.site) x
def MkE (evs : List Ev) (x : Ed) : Prop := ∃ (j : Nat) (e : Ev), evs[j]? = some e ∧ e.o ≠ zo ∧ e.o = x.o
/-- What the document's Check answers. -/
def RCs (C : Int) (nL nE : Nat) (log : List Ed) (evs : List Ev) (c p : Int) : Prop :=
  (¬ (1 ≤ C ∧ C ≤ 64) ∧ c = 140 ∧ p = 0) ∨ ((1 ≤ C ∧ C ≤ 64) ∧ 4096 < nL ∧ c = 143 ∧ p = 0) ∨
  ((1 ≤ C ∧ C ≤ 64) ∧ nL ≤ 4096 ∧ ∃ k : Nat, k < nL ∧ GLd C log k ∧ (∀ x, log[k]? = some x → ¬ canD chg C log k x) ∧ c = 141 ∧ p = k) ∨
  ((1 ≤ C ∧ C ≤ 64) ∧ nL ≤ 4096 ∧ GLd C log nL ∧ ∃ i : Nat, i < nE ∧ GEr C log evs i ∧ (∀ x, evs[i]? = some x → ¬ canR chg fit C log (stP evs i) (pv evs i x.site) x) ∧ c = 142 ∧ p = i) ∨
  ((1 ≤ C ∧ C ≤ 64) ∧ nL ≤ 4096 ∧ GLd C log nL ∧ GEr C log evs nE ∧ ∃ k : Nat, k < nL ∧ (∀ (j : Nat) (x : Ed), j < k → log[j]? = some x → MkE evs x) ∧ (∀ x : Ed, log[k]? = some x → ¬ MkE evs x) ∧ c = 141 ∧ p = k) ∨
  ((1 ≤ C ∧ C ≤ 64) ∧ nL ≤ 4096 ∧ GLd C log nL ∧ GEr C log evs nE ∧ (∀ (j : Nat) (x : Ed), log[j]? = some x → MkE evs x) ∧ c = 0 ∧ p = -1)

theorem glD {C : Int} {log : List Ed} {k : Nat} (h : GLd C log k) : GL C log k := by
  induction k with
  | zero => exact fun j x hj => by omega
  | succ k ih =>
    have ih' := ih (fun j x hj => h j x (by omega))
    intro j x hj hx
    by_cases e : j = k
    · subst e
      exact (can_iff (chg := chg) (C := C) (log := log) (k := j) ih' x).2 (h j x (by omega) hx)
    · exact ih' j x (by omega) hx
theorem dGl {C : Int} {log : List Ed} {k : Nat} (h : GL C log k) : GLd C log k := fun j x hj hx => (can_iff (chg := chg) (C := C) (log := log) (k := j) (fun i e hi => h i e (by omega)) x).1 (h j x hj hx)
theorem chg_sq (o : OpE) (h : chg o) : 1 ≤ o.sq := (chP_range h).2.2.1
theorem gE_R {C : Int} {log : List Ed} {evs : List Ev} {i : Nat} (hg : GL C log log.length) (h : GE C log evs i) : GEr C log evs i := fun j x hj hx => by
  have hb := pv_bounds (C := C) (log := log) (evs := evs) (i := j) (fun q y hq => h q y (by omega)) x.site
  exact (canS_iff hg chg_sq hb.1 hb.2.1).1 (h j x hj hx)
theorem gR_E {C : Int} {log : List Ed} {evs : List Ev} {i : Nat} (hg : GL C log log.length) (h : GEr C log evs i) : GE C log evs i := by
  induction i with
  | zero => exact fun j x hj => by omega
  | succ i ih =>
    have ih' := ih (fun j x hj => h j x (by omega))
    intro j x hj hx
    by_cases e : j = i
    · subst e
      have hb := pv_bounds (C := C) (log := log) (evs := evs) (i := j) ih' x.site
      exact (canS_iff hg chg_sq hb.1 hb.2.1).2 (h j x (by omega) hx)
    · exact ih' j x (by omega) hx
theorem mk_iff {C : Int} {log : List Ed} {evs : List Ev} (hg : GL C log log.length) (h : GEr C log evs evs.length) {k : Nat} {x : Ed} (hk : log[k]? = some x) : MkE evs x ↔ x.o.sq ≤ (dn evs evs.length x.o.cl : Int) := by
  have hc := hg k x (List.getElem?_eq_some_iff.1 hk).1 hk
  have hr := chP_range hc.1
  refine makes_iff (fun j e hj he => (h j e hj he).fact) hk (fun hz => ?_) (by omega) hr.2.2.1
  have := (chP_iff x.o).1 hc.1
  rw [hz] at this
  exact this.1 rfl

theorem first_eq {P : Nat → Prop} {k k' : Nat} (h1 : ∀ j, j < k → P j) (h2 : ¬ P k) (h1' : ∀ j, j < k' → P j) (h2' : ¬ P k') : k = k' := by
  rcases Nat.lt_trichotomy k k' with h | h | h
  · exact absurd (h1' k h) h2
  · exact h
  · exact absurd (h1 k' h) h2'

theorem rcs_one {C : Int} {nL nE : Nat} {log : List Ed} {evs : List Ev} {c p c' p' : Int} (hl : log.length = nL) (he : evs.length = nE) (h1 : RCs C nL nE log evs c p) (h2 : RCs C nL nE log evs c' p') : c = c' ∧ p = p' := by
  have LP : ∀ k, GLd C log k → ∀ j, j < k → (fun j => ∀ x, log[j]? = some x → canD chg C log j x) j := fun k h j hj x hx => h j x hj hx
  have LN : ∀ k, k < nL → (∀ x, log[k]? = some x → ¬ canD chg C log k x) → ¬ (fun j => ∀ x, log[j]? = some x → canD chg C log j x) k := fun k hk h hh => h _ (List.getElem?_eq_getElem (by omega)) (hh _ (List.getElem?_eq_getElem (by omega)))
  have EP : ∀ k, GEr C log evs k → ∀ j, j < k → (fun j => ∀ x, evs[j]? = some x → canR chg fit C log (stP evs j) (pv evs j x.site) x) j := fun k h j hj x hx => h j x hj hx
  have EN : ∀ k, k < nE → (∀ x, evs[k]? = some x → ¬ canR chg fit C log (stP evs k) (pv evs k x.site) x) → ¬ (fun j => ∀ x, evs[j]? = some x → canR chg fit C log (stP evs j) (pv evs j x.site) x) k := fun k hk h hh => h _ (List.getElem?_eq_getElem (by omega)) (hh _ (List.getElem?_eq_getElem (by omega)))
  have MP : ∀ k, (∀ (j : Nat) (x : Ed), j < k → log[j]? = some x → MkE evs x) → ∀ j, j < k → (fun j => ∀ x, log[j]? = some x → MkE evs x) j := fun k h j hj x hx => h j x hj hx
  have MN : ∀ k, k < nL → (∀ x : Ed, log[k]? = some x → ¬ MkE evs x) → ¬ (fun j => ∀ x, log[j]? = some x → MkE evs x) k := fun k hk h hh => h _ (List.getElem?_eq_getElem (by omega)) (hh _ (List.getElem?_eq_getElem (by omega)))
  rcases h1 with ⟨a, rfl, rfl⟩ | ⟨a, b, rfl, rfl⟩ | ⟨a, b, k, hk, g1, g2, rfl, rfl⟩ | ⟨a, b, g, i, hi, g1, g2, rfl, rfl⟩ | ⟨a, b, g, ge, k, hk, g1, g2, rfl, rfl⟩ | ⟨a, b, g, ge, g1, rfl, rfl⟩
  · rcases h2 with ⟨a', rfl, rfl⟩ | ⟨a', h2⟩ | ⟨a', h2⟩ | ⟨a', h2⟩ | ⟨a', h2⟩ | ⟨a', h2⟩
    · exact ⟨rfl, rfl⟩
    all_goals exact absurd a' a
  · rcases h2 with ⟨a', -⟩ | ⟨a', b', rfl, rfl⟩ | ⟨a', b', h2⟩ | ⟨a', b', h2⟩ | ⟨a', b', h2⟩ | ⟨a', b', h2⟩
    · exact absurd a a'
    · exact ⟨rfl, rfl⟩
    all_goals omega
  · rcases h2 with ⟨a', -⟩ | ⟨a', b', -⟩ | ⟨a', b', k', hk', g1', g2', rfl, rfl⟩ | ⟨a', b', g', h2⟩ | ⟨a', b', g', h2⟩ | ⟨a', b', g', h2⟩
    · exact absurd a a'
    · omega
    · have := first_eq (LP k g1) (LN k hk g2) (LP k' g1') (LN k' hk' g2')
      subst this
      exact ⟨rfl, rfl⟩
    all_goals exact absurd (LP nL g' k hk) (LN k hk g2)
  · rcases h2 with ⟨a', -⟩ | ⟨a', b', -⟩ | ⟨a', b', k', hk', g1', g2', -⟩ | ⟨a', b', g', i', hi', g1', g2', rfl, rfl⟩ | ⟨a', b', g', ge', h2⟩ | ⟨a', b', g', ge', h2⟩
    · exact absurd a a'
    · omega
    · exact absurd (LP nL g k' hk') (LN k' hk' g2')
    · have := first_eq (EP i g1) (EN i hi g2) (EP i' g1') (EN i' hi' g2')
      subst this
      exact ⟨rfl, rfl⟩
    all_goals exact absurd (EP nE ge' i hi) (EN i hi g2)
  · rcases h2 with ⟨a', -⟩ | ⟨a', b', -⟩ | ⟨a', b', k', hk', g1', g2', -⟩ | ⟨a', b', g', i', hi', g1', g2', -⟩ | ⟨a', b', g', ge', k', hk', g1', g2', rfl, rfl⟩ | ⟨a', b', g', ge', g1', -⟩
    · exact absurd a a'
    · omega
    · exact absurd (LP nL g k' hk') (LN k' hk' g2')
    · exact absurd (EP nE ge i' hi') (EN i' hi' g2')
    · have := first_eq (MP k g1) (MN k hk g2) (MP k' g1') (MN k' hk' g2')
      subst this
      exact ⟨rfl, rfl⟩
    · exact absurd (fun x hx => g1' k x hx) (MN k hk g2)
  · rcases h2 with ⟨a', -⟩ | ⟨a', b', -⟩ | ⟨a', b', k', hk', g1', g2', -⟩ | ⟨a', b', g', i', hi', g1', g2', -⟩ | ⟨a', b', g', ge', k', hk', g1', g2', -⟩ | ⟨a', b', g', ge', g1', rfl, rfl⟩
    · exact absurd a a'
    · omega
    · exact absurd (LP nL g k' hk') (LN k' hk' g2')
    · exact absurd (EP nE ge i' hi') (EN i' hi' g2')
    · exact absurd (fun x hx => g1 k' x hx) (MN k' hk' g2')
    · exact ⟨rfl, rfl⟩

/-- What read answers is what the document's Check does. -/
theorem ro_rcs {C : Int} {aL aE : Option Addr} {nL cL nE cE : Nat} {log : List Ed} {evs : List Ev} {D : Nat → List El} {w w' : World} {e : Ending} (hl : log.length = nL) (he : evs.length = nE) (h1 : RO C aL aE nL cL nE cE log evs D w e w') :
    ∃ v ev c p, e = .returned (.tuple #[v, ev]) ∧ Below w.heap.size w w' ∧ RCs C nL nE log evs c p ∧ ((IsF w' ev p c ∧ c ≠ 0) ∨ (ev = .nilIface ∧ c = 0 ∧ p = -1)) := by
  obtain ⟨v, ev, e0, hB, h1⟩ := h1
  rcases h1 with ⟨a, h1⟩ | ⟨a, b, h1⟩ | ⟨a, b, k, hk, g1, g2, h1⟩ | ⟨a, b, g, i, hi, g1, g2, h1⟩ | ⟨a, b, g, ge, k, hk, g1, g2, h1⟩ | ⟨a, b, g, ge, g1, h1, -⟩
  · exact ⟨v, ev, _, _, e0, hB, .inl ⟨a, rfl, rfl⟩, .inl ⟨h1, by omega⟩⟩
  · exact ⟨v, ev, _, _, e0, hB, .inr (.inl ⟨a, b, rfl, rfl⟩), .inl ⟨h1, by omega⟩⟩
  · exact ⟨v, ev, _, _, e0, hB, .inr (.inr (.inl ⟨a, b, k, hk, dGl g1, fun x hx hd => g2 x hx ((can_iff (chg := chg) (C := C) (log := log) (k := k) g1 x).2 hd), rfl, rfl⟩)), .inl ⟨h1, by omega⟩⟩
  · refine ⟨v, ev, _, _, e0, hB, .inr (.inr (.inr (.inl ⟨a, b, dGl g, i, hi, gE_R (by rw [hl]; exact g) g1, fun x hx hr => ?_, rfl, rfl⟩))), .inl ⟨h1, by omega⟩⟩
    have hbd := pv_bounds (C := C) (log := log) (evs := evs) (i := i) g1 x.site
    exact g2 x hx ((canS_iff (by rw [hl]; exact g) chg_sq hbd.1 hbd.2.1).2 hr)
  · have gl : GL C log log.length := by rw [hl]; exact g
    have gr : GEr C log evs evs.length := by rw [he]; exact gE_R gl ge
    refine ⟨v, ev, _, _, e0, hB, .inr (.inr (.inr (.inr (.inl ⟨a, b, dGl g, gE_R gl ge, k, hk, fun j x hj hx => ?_, fun x hx hm => ?_, rfl, rfl⟩)))), .inl ⟨h1, by omega⟩⟩
    · rw [mk_iff gl gr hx, he]
      exact g1 j x hj hx
    · rw [mk_iff gl gr hx, he] at hm
      have := g2 x hx
      omega
  · have gl : GL C log log.length := by rw [hl]; exact g
    have gr : GEr C log evs evs.length := by rw [he]; exact gE_R gl ge
    refine ⟨v, ev, _, _, e0, hB, .inr (.inr (.inr (.inr (.inr ⟨a, b, dGl g, gE_R gl ge, fun j x hx => ?_, rfl, rfl⟩)))), .inr ⟨h1, rfl, rfl⟩⟩
    rw [mk_iff gl gr hx, he]
    exact g1 j x hx

set_option maxRecDepth 100000 in
set_option maxHeartbeats 4000000 in
theorem check_any (C : Int) (aL aE : Option Addr) (nL cL nE cE : Nat) (log : List Ed) (evs : List Ev) (A : Nat → Option Addr) (K : Nat → Nat) (D : Nat → List El) (w : World) (hL : IsL w aL nL log) (hV : IsV w aE nE evs A K) (hX : IsX w evs A D) (hnE : nE ≤ 2199023255552)
    (hcl : ∀ j (h : j < log.length), 0 ≤ log[j].o.ch ∧ log[j].o.ch ≤ 255) (hce : ∀ j (h : j < evs.length), 0 ≤ evs[j].o.ch ∧ evs[j].o.ch ≤ 255) :
    Calls Tryd.prog 5 #[.agg #[.int .i64 C, .slice aL nL cL, .slice aE nE cE]] w fun e w' => ∃ ev c p, e = .returned ev ∧ Below w.heap.size w w' ∧ RCs C nL nE log evs c p ∧ ((IsF w' ev p c ∧ c ≠ 0) ∨ (ev = .nilIface ∧ c = 0 ∧ p = -1)) := by
  have hb : Below w.heap.size w (w.alloc (.cells #[.int .i64 C, .slice aL nL cL, .slice aE nE cE] 25)) := (Below.refl _ _).alloc (Nat.le_refl _) _
  have CR := hd (read_any C aL aE nL cL nE cE log evs A K D (w.alloc (.cells #[.int .i64 C, .slice aL nL cL, .slice aE nE cE] 25)) (hL.below hb (Nat.le_refl _)) (hV.below hb (Nat.le_refl _)) (hX.below hb (Nat.le_refl _)) hnE hcl hce)
  have HB := hd hb
  have HLn := hd hL.1
  have HVn := hd hV.1
  clear hb hL hV hX hnE hcl hce
  go_enter Tryd.func5, Tryd.ntmps5
  go_wp2_with fail
  refine CR.out.mono ?_
  intro e u hRO
  obtain ⟨v, ev, c, p, rfl, hB, hR, hE⟩ := ro_rcs HLn.out HVn.out hRO
  have Z := hd (show Below w.heap.size w u ∧ RCs C nL nE log evs c p ∧ ((IsF u ev p c ∧ c ≠ 0) ∨ (ev = .nilIface ∧ c = 0 ∧ p = -1)) from ⟨HB.out.trans (hB.mono HB.out.size), hR, hE⟩)
  clear hRO hB hR hE CR
  go_wp2
  go_ret
  exact ⟨_, c, p, rfl, Z.out⟩

set_option maxRecDepth 100000 in
set_option maxHeartbeats 8000000 in
theorem rcheck_any (C : Int) (aL aE : Option Addr) (nL cL nE cE : Nat) (log : List Ed) (evs : List Ev) (A : Nat → Option Addr) (K : Nat → Nat) (w : World) (hL : IsL w aL nL log) (hV : IsV w aE nE evs A K) (hnE : nE ≤ 2199023255552) :
    Calls Tryd.prog 7 #[.agg #[.int .i64 C, .slice aL nL cL, .slice aE nE cE]] w fun e w' => ∃ c p : Int, e = .returned (.tuple #[.int .i64 c, .int .i64 p]) ∧ RCs C nL nE log evs c p ∧ Below w.heap.size w w' := by
  have HNE := hd hnE
  have hb : Below w.heap.size w (w.alloc (.cells #[.int .i64 C, .slice aL nL cL, .slice aE nE cE] 25)) := (Below.refl _ _).alloc (Nat.le_refl _) _
  have hE := hd (heap_alloc_new w (.cells #[.int .i64 C, .slice aL nL cL, .slice aE nE cE] 25))
  have HB := hd hb
  have HL := hd (hL.below hb (Nat.le_refl _))
  have HV := hd (hV.below hb (Nat.le_refl _))
  clear hb hL hV hnE
  go_enter Tryd.func7, Tryd.ntmps7
  go_upto_region 1 with fail
  generalize w.alloc (.cells #[.int .i64 C, .slice aL nL cL, .slice aE nE cE] 25) = w0 at *
  have x0 := cell_row hE.out 0; have x1 := cell_row hE.out 1; have x2 := cell_row hE.out 2
  simp at x0 x1 x2
  by_cases b1 : C < 1
  · have Z : Hid (RCs C nL nE log evs 140 0) := .inl ⟨by omega, rfl, rfl⟩
    go_wp2
    go_ret2
    exact ⟨_, _, rfl, Z.out, HB.out⟩
  by_cases b2 : 64 < C
  · have Z : Hid (RCs C nL nE log evs 140 0) := .inl ⟨by omega, rfl, rfl⟩
    go_wp2
    go_ret2
    exact ⟨_, _, rfl, Z.out, HB.out⟩
  have HC := hd (show 1 ≤ C ∧ C ≤ 64 from ⟨by omega, by omega⟩)
  by_cases b3 : (4096 : Int) < (nL : Int)
  · have Z : Hid (RCs C nL nE log evs 143 0) := .inr (.inl ⟨HC.out, by omega, rfl, rfl⟩)
    go_wp2
    go_ret2
    exact ⟨_, _, rfl, Z.out, HB.out⟩
  have HN := hd (show nL ≤ 4096 by omega)
  have CLg := hd (logged_any C aL aE nL cL nE cE log w0 HL.out HN.out)
  go_wp2_with fail
  refine CLg.out.mono ?_
  rintro e u ⟨r, rfl, hr, bu⟩
  have BU := hd (HB.out.trans (bu.mono HB.out.size))
  have hEu := hd (block_keep bu hE.out (block_lt hE.out))
  have HLu := hd (HL.out.below bu (Nat.le_refl _))
  have HVu := hd (HV.out.below bu (Nat.le_refl _))
  clear bu CLg HL HV hE x0 x1 x2 b1 b2 b3 HB
  have HRR := hd hr
  clear hr
  rcases HRR.out with ⟨k, rfl, hk, g2, g1⟩ | ⟨rfl, g1⟩
  · have Z : Hid (RCs C nL nE log evs 141 k) := .inr (.inr (.inl ⟨HC.out, HN.out, k, hk, g1, g2, rfl, rfl⟩))
    have k0 : (0 : Int) ≤ (k : Int) := by omega
    clear g1 g2 HRR
    go_wp2
    go_ret2
    exact ⟨_, _, rfl, Z.out, BU.out⟩
  have G1 : Hid (GLd C log nL) := fun j x _ hx => g1 j x hx
  clear g1 HRR
  have y0 := cell_row hEu.out 0; have y1 := cell_row hEu.out 1; have y2 := cell_row hEu.out 2
  simp at y0 y1 y2
  go_wp2_with fail
  go_loopw [5] (fun v wr => ∃ i : Nat, i ≤ nE ∧ v = .int .i64 i ∧ Hid (Below u.heap.size u wr ∧ GEr C log evs i)) (fun v _ => nE - (intOf v).toNat)
  case atStart => exact ⟨0, Nat.zero_le _, rfl, Below.refl _ _, fun j x h => by omega⟩
  case round =>
    obtain ⟨i, hi, rfl, HR⟩ := hrel
    clear y0 y1 y2
    have hEr := hd (block_keep HR.out.1 hEu.out (block_lt hEu.out))
    have y0 := cell_row hEr.out 0; have y1 := cell_row hEr.out 1; have y2 := cell_row hEr.out 2
    simp at y0 y1 y2
    by_cases hlt : i < nE
    · have l1 : i < evs.length := by have := HVu.out.1; omega
      have i1 : (i : Int) < (nE : Int) := by omega
      have gl : GL C log log.length := by rw [HLu.out.1]; exact glD G1.out
      have hbd := pv_bounds (gR_E gl HR.out.2) evs[i].site
      have CC := hd (can_any C aL aE nL cL nE cE i evs A K wr (HVu.out.below HR.out.1 (Nat.le_refl _)) hlt l1 (by have := HNE.out; omega) log (HLu.out.below HR.out.1 (Nat.le_refl _)) HN.out hbd.1 ⟨hbd.2.1, by have := HNE.out; omega⟩)
      have NO := hd (show ¬ canR chg fit C log (stP evs i) (pv evs i evs[i].site) evs[i] → ∀ x, evs[i]? = some x → ¬ canR chg fit C log (stP evs i) (pv evs i x.site) x from fun h x hx => by rw [List.getElem?_eq_getElem l1] at hx; injection hx with hx; rw [← hx]; exact h)
      have YE := hd (show canR chg fit C log (stP evs i) (pv evs i evs[i].site) evs[i] → GEr C log evs (i + 1) from fun h j x hj hx => by
        by_cases e : j = i
        · subst e
          rw [List.getElem?_eq_getElem l1] at hx
          injection hx with hx
          rw [← hx]
          exact h
        · exact HR.out.2 j x (by omega) hx)
      have HG := hd HR.out.2
      have HW := hd HR.out.1
      have E3 : wrap64 ((i : Int) + 1) = ((i + 1 : Nat) : Int) := by have := HNE.out; rw [wrap64]; omega
      generalize hG : canR chg fit C log (stP evs i) (pv evs i evs[i].site) evs[i] = GG at *
      clear hG HR hbd gl
      go_wp2_with fail
      refine CC.out.mono ?_
      rintro e u2 ⟨r, rfl, hr, b2⟩
      have HR2 := hd hr
      have B2 := hd (HW.out.trans (b2.mono HW.out.size))
      have BZ := hd (BU.out.trans (B2.out.mono BU.out.size))
      clear hr b2 CC y0 y1 y2
      cases r with
      | false =>
        have Z : Hid (RCs C nL nE log evs 142 i) := .inr (.inr (.inr (.inl ⟨HC.out, HN.out, G1.out, i, hlt, HG.out, NO.out (fun h => by have := HR2.out.2 h; cases this), rfl, rfl⟩)))
        clear NO YE HR2
        go_wp2
        go_ret2
        exact ⟨_, _, rfl, Z.out, BZ.out⟩
      | true =>
        have YES := hd (YE.out (HR2.out.1 rfl))
        clear NO YE HR2
        go_wp2
        exact ⟨⟨i + 1, by omega, by rw [E3], B2.out, YES.out⟩, by rw [E3]; simp only [intOf, Int.toNat_natCast]; omega⟩
    · have hin : nE = i := by omega
      subst hin
      have i1 : ¬ (nE : Int) < (nE : Int) := by omega
      have G2 := hd HR.out.2
      have B3 := hd (BU.out.trans (HR.out.1.mono BU.out.size))
      have HLr := hd (HLu.out.below HR.out.1 (Nat.le_refl _))
      have HVr := hd (HVu.out.below HR.out.1 (Nat.le_refl _))
      clear HR hi hlt HLu HVu
      go_wp2_with fail
      go_loopw [6] (fun v wq => ∃ k : Nat, k ≤ nL ∧ v = .int .i64 k ∧ Hid (Below wr.heap.size wr wq ∧ ∀ (j : Nat) (x : Ed), j < k → log[j]? = some x → MkE evs x)) (fun v _ => nL - (intOf v).toNat)
      case atStart => exact ⟨0, Nat.zero_le _, rfl, Below.refl _ _, fun j x h => by omega⟩
      case round =>
        obtain ⟨k, hk, rfl, HR⟩ := hrel
        clear y0 y1 y2
        have hE2 := hd (block_keep HR.out.1 hEr.out (block_lt hEr.out))
        have y0 := cell_row hE2.out 0; have y1 := cell_row hE2.out 1; have y2 := cell_row hE2.out 2
        simp at y0 y1 y2
        by_cases hlt : k < nL
        · have l1 : k < log.length := by have := HLr.out.1; omega
          have j1 : (k : Int) < (nL : Int) := by omega
          have CC := hd (rmakes_any C aL aE nL cL nE cE k log evs A K wr (HLr.out.below HR.out.1 (Nat.le_refl _)) (HVr.out.below HR.out.1 (Nat.le_refl _)) hlt l1 (by have := HNE.out; omega) HN.out)
          have MI := hd (show (∃ j, ∃ h : j < evs.length, mkE evs[j] log[k].o) ↔ MkE evs log[k] from ⟨fun ⟨j, h, h1⟩ => ⟨j, evs[j], List.getElem?_eq_getElem h, h1⟩, fun ⟨j, e, h1, h2⟩ => by
            obtain ⟨h3, h4⟩ := List.getElem?_eq_some_iff.1 h1
            exact ⟨j, h3, by rw [h4]; exact h2⟩⟩)
          have NO := hd (show ¬ MkE evs log[k] → ∀ x : Ed, log[k]? = some x → ¬ MkE evs x from fun h x hx => by rw [List.getElem?_eq_getElem l1] at hx; injection hx with hx; rw [← hx]; exact h)
          have YE := hd (show MkE evs log[k] → ∀ (j : Nat) (x : Ed), j < k + 1 → log[j]? = some x → MkE evs x from fun h j x hj hx => by
            by_cases e : j = k
            · subst e
              rw [List.getElem?_eq_getElem l1] at hx
              injection hx with hx
              rw [← hx]
              exact h
            · exact HR.out.2 j x (by omega) hx)
          have HG := hd HR.out.2
          have HW := hd HR.out.1
          have E3 : wrap64 ((k : Int) + 1) = ((k + 1 : Nat) : Int) := by have := HN.out; rw [wrap64]; omega
          rw [MI.out] at CC
          generalize MkE evs log[k] = GG at *
          clear HR MI
          go_wp2_with fail
          refine CC.out.mono ?_
          rintro e u2 ⟨r, rfl, hr, b2⟩
          have HR2 := hd hr
          have B2 := hd (HW.out.trans (b2.mono HW.out.size))
          have BZ := hd (B3.out.trans (B2.out.mono B3.out.size))
          clear hr b2 CC y0 y1 y2
          cases r with
          | false =>
            have Z : Hid (RCs C nL nE log evs 141 k) := .inr (.inr (.inr (.inr (.inl ⟨HC.out, HN.out, G1.out, G2.out, k, hlt, HG.out, NO.out (fun h => by have := HR2.out.2 h; cases this), rfl, rfl⟩))))
            clear NO YE HR2
            go_wp2
            go_ret2
            exact ⟨_, _, rfl, Z.out, BZ.out⟩
          | true =>
            have YES := hd (YE.out (HR2.out.1 rfl))
            clear NO YE HR2
            go_wp2
            exact ⟨⟨k + 1, by omega, by rw [E3], B2.out, YES.out⟩, by rw [E3]; simp only [intOf, Int.toNat_natCast]; omega⟩
        · have hkn : nL = k := by omega
          subst hkn
          have j1 : ¬ (nL : Int) < (nL : Int) := by omega
          have Z : Hid (RCs C nL nE log evs 0 (-1)) := .inr (.inr (.inr (.inr (.inr ⟨HC.out, HN.out, G1.out, G2.out, fun j x hx => HR.out.2 j x (by have := (List.getElem?_eq_some_iff.1 hx).1; have := HLr.out.1; omega) hx, rfl, rfl⟩))))
          have BZ := hd (B3.out.trans (HR.out.1.mono B3.out.size))
          clear HR hlt hk
          go_wp2
          go_ret2
          exact ⟨_, _, rfl, Z.out, BZ.out⟩
end Go.Proofs.YtfhghijefjhehaaDoor
