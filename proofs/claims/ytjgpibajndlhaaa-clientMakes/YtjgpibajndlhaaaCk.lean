/-
  ClientMakes.
-/
import Derived.Test.YtjgpibajndlhaaaCj
namespace Go.Proofs.Ytjgpibajndlhaaa
open Go.RowKit
set_option linter.unusedVariables false

/-- The slice value at a, of n things to make, holds M. -/
def IsMd (w : World) (a : Option Addr) (n c : Nat) (M : Nat → Bool × Int × Int) : Prop :=
  n ≤ c ∧ c ≤ 9223372036854775807 ∧
  (0 < n → ∃ b off, a = some ⟨b, off, none⟩ ∧ b < w.heap.size ∧ ∀ i, i < n → w.cell? ⟨b, off + i * 3, none⟩ = some (.bool (M i).1) ∧ w.cell? ⟨b, off + i * 3 + 1, none⟩ = some (.int .i64 (M i).2.1) ∧ w.cell? ⟨b, off + i * 3 + 2, none⟩ = some (.int .i64 (M i).2.2))

set_option maxHeartbeats 1000000 in
theorem rest64 (x : Int) (w : World) : Calls Try.prog 4 #[.int .i64 x, .int .i64 64] w fun e w' => ∃ p : Nat, e = .returned (.int .i64 p) ∧ p < 64 ∧ w = w' := by
  have b1 : x.tmod 64 < 64 := Int.tmod_lt_of_pos _ (by omega)
  have b2 : -(64 : Int) < x.tmod 64 := by
    have := Int.lt_tmod_of_pos x (b := (64 : Int)) (by omega)
    omega
  obtain ⟨r, hr⟩ : ∃ r, r = x.tmod 64 := ⟨_, rfl⟩
  rw [← hr] at b1 b2
  have ht : x.tmod (64 : Int) = r := hr.symm
  clear hr
  by_cases hn : r < 0
  · obtain ⟨p, hp⟩ : ∃ p : Nat, r + (64 : Int) = (p : Int) := ⟨(r + (64 : Int)).toNat, by omega⟩
    have R : Hid (p < 64) := by
      show _ < _
      omega
    go_enter Try.func4, Try.ntmps4
    go_wp2
    go_ret
    exact ⟨p, by first | rfl | (simp; omega), R.out, rfl⟩
  · obtain ⟨p, hp⟩ : ∃ p : Nat, r = (p : Int) := ⟨r.toNat, by omega⟩
    have R : Hid (p < 64) := by
      show _ < _
      omega
    go_enter Try.func4, Try.ntmps4
    go_wp2
    go_ret
    exact ⟨p, by first | rfl | (simp; omega), R.out, rfl⟩

theorem CL.ptg {T : Nat → Prop} {w : World} {x z : Nat} {id : Int} {ds : List El} {es : List (Int × OpE)} {βp : Option Nat} {p : Sp} (h : CL T w x z id ds es βp p) {g : Nat} (hg : βp = some g) : Tg w g 36 := by
  obtain ⟨_, _, _, _, c, _, _, e, _⟩ := h
  exact e.tg hg

/-- What holds between two rounds. -/
structure IVc (w wr : World) (x z : Nat) (id : Int) (vd va : Value) (nd ne : Nat) (T : Nat → Prop) (ds : List El) (es : List (Int × OpE)) (βp : Option Nat) (p : Sp) (βd βa : Option Nat) : Prop where
  cl : CL T wr x z id ds es βp p
  t : ∀ k, T k → w.heap.size ≤ k ∧ k < wr.heap.size
  d : SE wr βd vd ds
  a : SF edc 6 wr 36 βa va es
  apt : ∀ g, βp = some g → βa ≠ some g
  own : ∀ g, βa = some g → w.heap.size ≤ g
  last : p.last = (ne : Int)
  le : es.length = ne
  ld : ds.length = nd
  few : ne ≤ 64
  dle : nd ≤ ne
  bel : Below w.heap.size w wr
def IV (w wr : World) (x z : Nat) (id : Int) (vd va : Value) (nd ne : Nat) : Prop := ∃ T ds es βp p βd βa, IVc w wr x z id vd va nd ne T ds es βp p βd βa

theorem IVc.below {w wr w' : World} {x z : Nat} {id : Int} {vd va : Value} {nd ne : Nat} {T : Nat → Prop} {ds : List El} {es : List (Int × OpE)} {βp : Option Nat} {p : Sp} {βd βa : Option Nat} (h : IVc w wr x z id vd va nd ne T ds es βp p βd βa) (hb : Below wr.heap.size wr w') : IVc w w' x z id vd va nd ne T ds es βp p βd βa :=
  ⟨h.cl.below hb, fun k hk => ⟨(h.t k hk).1, Nat.lt_of_lt_of_le (h.t k hk).2 hb.size⟩, h.d.below hb, h.a.fr (S := fun _ => False) (Fr.of_below hb) (fun _ _ h => h), h.apt, h.own, h.last, h.le, h.ld, h.few, h.dle, h.bel.trans (hb.mono h.bel.size)⟩
theorem IV.below {w wr w' : World} {x z : Nat} {id : Int} {vd va : Value} {nd ne : Nat} (h : IV w wr x z id vd va nd ne) (hb : Below wr.heap.size wr w') : IV w w' x z id vd va nd ne := by
  obtain ⟨T, ds, es, βp, p, βd, βa, h⟩ := h
  exact ⟨T, ds, es, βp, p, βd, βa, h.below hb⟩
theorem IV.form {w wr : World} {x z : Nat} {id : Int} {vd va : Value} {nd ne : Nat} (h : IV w wr x z id vd va nd ne) : (∃ a c, vd = .slice a nd c ∧ nd ≤ c ∧ c ≤ 9223372036854775807) ∧ (∃ a c, va = .slice a ne c ∧ ne ≤ c ∧ c ≤ 9223372036854775807) ∧ ne ≤ 64 ∧ nd ≤ ne := by
  obtain ⟨T, ds, es, βp, p, βd, βa, h⟩ := h
  obtain ⟨a, c, e, hE, -⟩ := h.d.form
  obtain ⟨a', c', e', h1, h2⟩ := h.a.form
  rw [h.ld] at e hE
  rw [h.le] at e' h1
  exact ⟨⟨a, c, e, hE.2.1, hE.2.2.1⟩, ⟨a', c', e', h1, h2⟩, h.few, h.dle⟩

theorem CL.cut {T : Nat → Prop} {w : World} {x z : Nat} {id : Int} {ds : List El} {es : List (Int × OpE)} {βp : Option Nat} {p : Sp} (h : CL T w x z id ds es βp p) : CL (fun k => T k ∧ k < w.heap.size) w x z id ds es βp p := by
  obtain ⟨y, vt, vp, βt, c, i, t, e, ⟨vm, vo, βm, βo, h, ok, b1, b2, b3⟩, b4, b5⟩ := h
  exact ⟨y, vt, vp, βt, c, i, t, e, ⟨vm, vo, βm, βo, h, ok, ⟨b1, block_lt h.box⟩, fun g hg => ⟨b2 g hg, (h.rm.tg hg).lt⟩, fun g hg => ⟨b3 g hg, (h.ro.tg hg).lt⟩⟩, ⟨b4, c.tg.lt⟩, fun g hg => ⟨b5 g hg, (e.tg hg).lt⟩⟩

/-- An edit is made; the lists of the law still lack it. -/
def GD (w W : World) (x z : Nat) (id : Int) (vd va : Value) (nd ne : Nat) (o : OpE) : Prop :=
  ∃ T ds es βp p βd βa, CL T W x z id (applyP ds o) (es ++ [(0, o)]) βp p ∧ (∀ k, T k → w.heap.size ≤ k ∧ k < W.heap.size) ∧ SE W βd vd ds ∧ SF edc 6 W 36 βa va es ∧ (∀ g, βp = some g → βa ≠ some g) ∧ (∀ g, βa = some g → w.heap.size ≤ g) ∧
    p.last = (ne : Int) + 1 ∧ es.length = ne ∧ ds.length = nd ∧ ne < 64 ∧ nd ≤ ne ∧ Below w.heap.size w W

theorem GD.make {w wr u w1 : World} {x z : Nat} {id : Int} {vd va : Value} {nd ne : Nat} {T : Nat → Prop} {ds : List El} {es : List (Int × OpE)} {βp : Option Nat} {p : Sp} {βd βa : Option Nat} {o : OpE} (h : IVc w wr x z id vd va nd ne T ds es βp p βd βa) (hu : Below wr.heap.size wr u) (hne : ne < 64) (hD : Done T u w1 x z id ds es βp o ne) :
    (∀ j, wr.heap.size ≤ j → j < u.heap.size → w1.heap[j]? = u.heap[j]?) ∧ u.heap.size ≤ w1.heap.size ∧ ∀ bx W c, wr.heap.size ≤ bx → bx < u.heap.size → u.heap[bx]? = some (.cells c 36 (0, 0)) → Fr (· = bx) w1 W → GD w W x z id vd va nd ne o := by
  have hu' := h.below hu
  obtain ⟨βq, q, h1, h2, h3, h4⟩ := hD
  have hsz := hu.size
  have hw1 := h4.size
  have keep : ∀ j, wr.heap.size ≤ j → j < u.heap.size → w1.heap[j]? = u.heap[j]? := fun j hj hj' => h4.block j hj' (fun hh => by have := (h.t j hh.1).2; omega)
  refine ⟨keep, hw1, fun bx W c hbx hbu hX hF => ?_⟩
  have hX1 : Tg w1 bx 36 := ⟨c, (keep bx hbx hbu).trans hX⟩
  have hWs := hF.size
  have d1 : SE w1 βd vd ds := hu'.d.fr h4 (fun g hg hh => by
    rcases hh.2 with hh | hh | hh
    · exact hh.ne (hu'.d.tg hg) (by decide) rfl
    · exact hh.not (hu'.d.tg hg) (by decide) (by decide) (by decide) rfl
    · exact (hu'.cl.ptg hh).ne (hu'.d.tg hg) (by decide) rfl)
  have a1 : SF edc 6 w1 36 βa va es := hu'.a.fr h4 (fun g hg hh => by
    rcases hh.2 with hh | hh | hh
    · exact hh.ne (hu'.a.tg hg) (by decide) rfl
    · exact hh.not (hu'.a.tg hg) (by decide) (by decide) (by decide) rfl
    · exact h.apt g hh hg)
  have ltA : ∀ g, βa = some g → g < wr.heap.size := fun g hg => (h.a.tg hg).lt
  have nq : ∀ g, βq = some g → g ≠ bx ∧ βa ≠ some g := by
    intro g hg
    rcases h3 with h3 | ⟨g', h3, hg'⟩
    · have := h.cl.plt (h3 ▸ hg)
      exact ⟨by omega, h.apt g (h3 ▸ hg)⟩
    · rw [h3] at hg
      injection hg with hg
      exact ⟨by omega, fun ha => by have := ltA g ha; omega⟩
  have hC : CL (TU T u.heap.size) W x z id (applyP ds o) (es ++ [(0, o)]) βq q := by
    refine h1.fr hF ?_ (fun g hg he => (nq g hg).1 he)
    rintro j (hj | hj | hj | hj)
    · exact hj.ne hX1 (by decide)
    · exact hj.ne hX1 (by decide)
    · exact hj.ne hX1 (by decide)
    · exact hj.not hX1 (by decide) (by decide) (by decide)
  have hwr : w.heap.size ≤ wr.heap.size := h.bel.size
  refine ⟨_, ds, es, βq, q, βd, βa, hC.cut, ?_, d1.fr hF (fun g hg he => (d1.tg hg).ne hX1 (by decide) he), a1.fr hF (fun g hg he => by have := ltA g hg; omega), fun g hg => (nq g hg).2, h.own, h2, h.le, h.ld, hne, h.dle, ?_⟩
  · rintro k ⟨hk, hk'⟩
    refine ⟨?_, hk'⟩
    rcases hk with hk | hk
    · exact (h.t k hk).1
    · omega
  · have b1 : Below w.heap.size w w1 := hu'.bel.trans (h4.below (Nat.le_trans hwr hsz) (fun k hk => (h.t k hk.1).1))
    exact b1.trans (hF.below (by omega) (fun k hk => by omega))

theorem GD.below {w W W' : World} {x z : Nat} {id : Int} {vd va : Value} {nd ne : Nat} {o : OpE} (h : GD w W x z id vd va nd ne o) (hb : Below W.heap.size W W') : GD w W' x z id vd va nd ne o := by
  obtain ⟨T, ds, es, βp, p, βd, βa, h1, h2, h3, h4, h5, h6, h7, h8, h9, h10, h11, h12⟩ := h
  exact ⟨T, ds, es, βp, p, βd, βa, h1.below hb, fun k hk => ⟨(h2 k hk).1, Nat.lt_of_lt_of_le (h2 k hk).2 hb.size⟩, h3.below hb, h4.fr (S := fun _ => False) (Fr.of_below hb) (fun _ _ h => h), h5, h6, h7, h8, h9, h10, h11, h12.trans (hb.mono h12.size)⟩

/-- Three blocks made one behind another. -/
theorem three {wr W : World} {A O Z : Array Value} {s t u : TypeId} (hb : Below (((wr.alloc (.cells A s)).alloc (.cells O t)).alloc (.cells Z u)).heap.size (((wr.alloc (.cells A s)).alloc (.cells O t)).alloc (.cells Z u)) W) :
    W.heap[wr.heap.size + 1]? = some (.cells O t (0, 0)) ∧ W.heap[wr.heap.size + 1 + 1]? = some (.cells Z u (0, 0)) := by
  have e1 : (wr.alloc (.cells A s)).heap.size = wr.heap.size + 1 := by simp
  have e2 : ((wr.alloc (.cells A s)).alloc (.cells O t)).heap.size = wr.heap.size + 1 + 1 := by simp
  have h1 := heap_alloc_new (wr.alloc (.cells A s)) (.cells O t)
  have h2 := heap_alloc_new ((wr.alloc (.cells A s)).alloc (.cells O t)) (.cells Z u)
  rw [e1] at h1
  rw [e2] at h2
  have h3 : (((wr.alloc (.cells A s)).alloc (.cells O t)).alloc (.cells Z u)).heap[wr.heap.size + 1]? = some (.cells O t (0, 0)) := ((Below.refl _ _).alloc (Nat.le_refl _) _ |>.block _ (by simp)).trans h1
  exact ⟨(hb.block _ (by simp)).trans h3, (hb.block _ (by simp)).trans h2⟩
theorem three_below (wr : World) (A O Z : Obj) : Below wr.heap.size wr (((wr.alloc A).alloc O).alloc Z) := (((Below.refl _ _).alloc (Nat.le_refl _) _).alloc (by simp) _).alloc (by simp; omega) _

/-- The law's list has the edit too. -/
theorem GD.push {w W : World} {x z : Nat} {id : Int} {vd va : Value} {nd ne : Nat} {o : OpE} {b : Nat} (h : GD w W x z id vd va nd ne o) (hb : W.heap[b]? = some (.cells (edc (0, o)).toArray 36 (0, 0))) :
    ∃ a n c w', (∀ ty, (Builtin.append_ #[30, 30] ty #[va, .slice (some ⟨b, 0, none⟩) 1 1]).run Try.prog W = .ok (.slice a n c) w') ∧
      (∀ j, w.heap.size ≤ j → j < W.heap.size → ¬ Tg W j 36 → w'.heap[j]? = W.heap[j]?) ∧ W.heap.size ≤ w'.heap.size ∧
      ∃ T ds es βp p βd βa, CL T w' x z id (applyP ds o) es βp p ∧ (∀ k, T k → w.heap.size ≤ k ∧ k < w'.heap.size) ∧ SE w' βd vd ds ∧ SF edc 6 w' 36 βa (.slice a n c) es ∧ (∀ g, βp = some g → βa ≠ some g) ∧ (∀ g, βa = some g → w.heap.size ≤ g) ∧
        p.last = ((ne + 1 : Nat) : Int) ∧ es.length = ne + 1 ∧ ds.length = nd ∧ ne < 64 ∧ nd ≤ ne ∧ Below w.heap.size w w' := by
  obtain ⟨T, ds, es, βp, p, βd, βa, h1, h2, h3, h4, h5, h6, h7, h8, h9, h10, h11, h12⟩ := h
  obtain ⟨v', w', hr, N⟩ := push_ed W βa va es h4 b (0, o) hb (by omega)
  obtain ⟨a, n, c, rfl⟩ := N.slice
  obtain ⟨g, n1, n2, n3⟩ := N.out
  have hs := n3.size
  have hw := h12.size
  refine ⟨a, n, c, w', hr, fun j hj hj' ht => n3.block j hj' (fun hh => ht (h4.tg hh)), hs, T, ds, es ++ [(0, o)], βp, p, βd, some g, h1.fr n3 ?_ ?_, fun k hk => ⟨(h2 k hk).1, Nat.lt_of_lt_of_le (h2 k hk).2 hs⟩, h3.fr n3 (fun k hk hh => (h3.tg hk).ne (h4.tg hh) (by decide) rfl), n1, ?_, ?_, by rw [h7]; simp, by simp [h8], h9, h10, h11, h12.trans (n3.below hw (fun k hk => h6 k hk))⟩
  · rintro j hj hh
    have ht := h4.tg hh
    rcases hj with hj | hj | hj | hj
    · exact hj.ne ht (by decide) rfl
    · exact hj.ne ht (by decide) rfl
    · exact hj.ne ht (by decide) rfl
    · exact hj.not ht (by decide) (by decide) (by decide) rfl
  · exact fun k hk hh => h5 k hk hh
  · intro k hk he
    injection he with he
    subst he
    rcases n2 with h | h
    · exact h5 _ hk h
    · have := h1.plt hk
      omega
  · intro k hk
    injection hk with hk
    subst hk
    rcases n2 with h | h
    · exact h6 _ h
    · omega

theorem applyP_ins_len (ds : List El) (q : Nat) (c l s : Int) (h : q ≤ ds.length) : (applyP ds ⟨1, q, c, l, s⟩).length = ds.length + 1 := by
  simp [applyP]
  omega
theorem applyP_del_len (ds : List El) (q : Nat) (c l s : Int) (h : q < ds.length) : (applyP ds ⟨2, q, c, l, s⟩).length = ds.length - 1 := by
  simp [applyP]
  omega

end Go.Proofs.Ytjgpibajndlhaaa
