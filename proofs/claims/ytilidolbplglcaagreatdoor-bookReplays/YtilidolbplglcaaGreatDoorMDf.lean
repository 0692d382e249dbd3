/-
  Texts put together: Df Ig.
-/
import Derived.Test.YtilidolbplglcaaGreatDoorDe
import Derived.Deep.RegionHeld3
/-! Df -/
namespace Go.Proofs.YtilidolbplglcaaGreatDoor
open Go.RowKit
set_option linter.unusedVariables false

/-- A row that has grown, and the box x that is told so at o. -/
theorem now_set {α : Type} {f : α → List Value} {k : Nat} {w u u' : World} {t tx : TypeId} {β : Option Nat} {v' : Value} {xs : List α} {x o : Nat} {cs : Array Value} (hN : NowF f k u u' t β v' xs) (hu : Below w.heap.size w u) (hx : w.heap[x]? = some (.cells cs tx (0, 0))) (hβ : ∀ g, β = some g → g < w.heap.size ∧ g ≠ x) :
    ∃ g', SF f k (u'.setCell ⟨x, o, none⟩ v') t (some g') v' xs ∧ (u'.setCell ⟨x, o, none⟩ v').heap[x]? = some (.cells (cs.setIfInBounds o v') tx (0, 0)) ∧ Fr (fun j => j = x ∨ β = some j) w (u'.setCell ⟨x, o, none⟩ v') ∧ (β = some g' ∨ w.heap.size ≤ g') ∧ u'.heap[x]? = some (.cells cs tx (0, 0)) := by
  obtain ⟨g', h1, h2⟩ := hN
  have lx := block_lt hx
  have hux : u.heap[x]? = some (.cells cs tx (0, 0)) := (hu.block _ lx).trans hx
  have key : g' ≠ x ∧ u'.heap[x]? = some (.cells cs tx (0, 0)) ∧ Fr (fun j => β = some j) w u' ∧ (β = some g' ∨ w.heap.size ≤ g') := by
    rcases h2 with ⟨h2, h3⟩ | ⟨h2, h3⟩
    · have hb := hβ g' h2
      exact ⟨hb.2, h3.keeps hux (fun e => hb.2 e.symm), (Fr.of_below hu).trans (h3.mono (fun j _ hj => by subst hj; exact h2)), .inl h2⟩
    · have := hu.size
      exact ⟨by omega, h3.keeps hux (fun e => e), (Fr.of_below hu).trans (h3.mono (fun j _ hj => hj.elim)), .inr (by omega)⟩
  obtain ⟨k1, k2, k3, k4⟩ := key
  exact ⟨g', h1.fr (Fr.setCell (S := (· = x)) u' ⟨x, o, none⟩ v' rfl) (fun g hg e => by injection hg with hg; omega), set_row k2 o v', (k3.mono (fun j _ hj => .inr hj)).trans (Fr.setCell _ _ _ (.inl rfl)), k4, k2⟩

/-- The document's book, to be written. -/
structure RBs (w0 w : World) (x : Nat) (E : List Ed) (D : List OpE) (Ns KK : List Int) (vE vD vN vK : Value) (βE βD βN βK : Option Nat) : Prop where
  blk : w.heap[x]? = some (.cells #[.pointer none, vE, vD, vN, vK, .int .i64 1] 56 (0, 0))
  e : SF edc 6 w 48 βE vE E
  d : SF opc 5 w 46 βD vD D
  n : SF ei 1 w 3 βN vN Ns
  k : SF ei 1 w 3 βK vK KK
  nk : ∀ g, βN = some g → βK ≠ some g
  lo : w0.heap.size ≤ x ∧ (∀ g, βE = some g → w0.heap.size ≤ g) ∧ (∀ g, βD = some g → w0.heap.size ≤ g) ∧ (∀ g, βN = some g → w0.heap.size ≤ g) ∧ (∀ g, βK = some g → w0.heap.size ≤ g)
  bel : Below w0.heap.size w0 w
section
variable {w0 w : World} {x : Nat} {E : List Ed} {D : List OpE} {Ns KK : List Int} {vE vD vN vK : Value} {βE βD βN βK : Option Nat}
theorem SF.ne {α : Type} {f : α → List Value} {k : Nat} {t tx : TypeId} {β : Option Nat} {v : Value} {xs : List α} {cs : Array Value} (h : SF f k w t β v xs) (hx : w.heap[x]? = some (.cells cs tx (0, 0))) (ht : t ≠ tx) : ∀ g, β = some g → g < w.heap.size ∧ g ≠ x := fun g hg => by
  refine ⟨h.lt g hg, fun e => ?_⟩
  subst hg e
  obtain ⟨cur, hc⟩ := SF.blk h
  rw [hx] at hc
  simp at hc
  exact ht hc.2.symm
theorem SF.apart {α α' : Type} {f : α → List Value} {f' : α' → List Value} {k k' : Nat} {t t' : TypeId} {β β' : Option Nat} {v v' : Value} {xs : List α} {xs' : List α'} (h : SF f k w t β v xs) (h' : SF f' k' w t' β' v' xs') (ht : t ≠ t') : ∀ g, β = some g → β' ≠ some g := fun g hg hg' => by
  subst hg hg'
  obtain ⟨cur, hc⟩ := SF.blk h
  obtain ⟨cur', hc'⟩ := SF.blk h'
  rw [hc] at hc'
  simp at hc'
  exact ht hc'.2
theorem RBs.pushE (h : RBs w0 w x E D Ns KK vE vD vN vK βE βD βN βK) {u : World} (e : Ed) (b2 : Below w.heap.size w u) (b : Nat) (hb : u.heap[b]? = some (.cells (edc e).toArray 48 (0, 0))) (hn : E.length ≤ 1000000) :
    ∃ a c u', (∀ ty, (Builtin.append_ #[22, 22] ty #[vE, .slice (some ⟨b, 0, none⟩) 1 1]).run Tryz.prog u = .ok (.slice a (E.length + 1) c) u') ∧ u'.heap[x]? = some (.cells #[.pointer none, vE, vD, vN, vK, .int .i64 1] 56 (0, 0)) ∧
      ∃ β', RBs w0 (u'.setCell ⟨x, 1, none⟩ (.slice a (E.length + 1) c)) x (E ++ [e]) D Ns KK (.slice a (E.length + 1) c) vD vN vK β' βD βN βK ∧ Fr (fun j => j = x ∨ βE = some j) w (u'.setCell ⟨x, 1, none⟩ (.slice a (E.length + 1) c)) := by
  obtain ⟨v', u', hr, hN⟩ := push_ed _ βE vE E (h.e.fr (Fr.of_below (S := fun _ => False) b2) (fun _ _ h => h)) b e hb hn
  obtain ⟨g', h1, h2, h3, h4, h5⟩ := now_set (o := 1) hN b2 h.blk (h.e.ne h.blk (by decide))
  obtain ⟨a, c, e1, -⟩ := h1.form
  simp only [List.length_append, List.length_cons, List.length_nil, Nat.zero_add] at e1
  subst e1
  refine ⟨a, c, u', hr, h5, some g', ⟨h2, h1, h.d.fr h3 (fun g hg hs => ?_), h.n.fr h3 (fun g hg hs => ?_), h.k.fr h3 (fun g hg hs => ?_), h.nk, ⟨h.lo.1, fun g hg => ?_, h.lo.2.2.1, h.lo.2.2.2.1, h.lo.2.2.2.2⟩, h.bel.trans (h3.below h.bel.size (fun j hj => ?_))⟩, h3⟩
  · exact hs.elim ((h.d.ne h.blk (by decide) g hg).2) (h.d.apart h.e (by decide) g hg)
  · exact hs.elim ((h.n.ne h.blk (by decide) g hg).2) (h.n.apart h.e (by decide) g hg)
  · exact hs.elim ((h.k.ne h.blk (by decide) g hg).2) (h.k.apart h.e (by decide) g hg)
  · injection hg with hg
    subst hg
    rcases h4 with h4 | h4
    · exact h.lo.2.1 _ h4
    · exact Nat.le_trans h.bel.size h4
  · rcases hj with rfl | hj
    · exact h.lo.1
    · exact h.lo.2.1 _ hj
theorem RBs.pushD (h : RBs w0 w x E D Ns KK vE vD vN vK βE βD βN βK) {u : World} (d : OpE) (b2 : Below w.heap.size w u) (b : Nat) (hb : u.heap[b]? = some (.cells (opc d).toArray 46 (0, 0))) (hn : D.length ≤ 1000000) :
    ∃ a c u', (∀ ty, (Builtin.append_ #[24, 24] ty #[vD, .slice (some ⟨b, 0, none⟩) 1 1]).run Tryz.prog u = .ok (.slice a (D.length + 1) c) u') ∧ u'.heap[x]? = some (.cells #[.pointer none, vE, vD, vN, vK, .int .i64 1] 56 (0, 0)) ∧
      ∃ β', RBs w0 (u'.setCell ⟨x, 2, none⟩ (.slice a (D.length + 1) c)) x E (D ++ [d]) Ns KK vE (.slice a (D.length + 1) c) vN vK βE β' βN βK ∧ Fr (fun j => j = x ∨ βD = some j) w (u'.setCell ⟨x, 2, none⟩ (.slice a (D.length + 1) c)) := by
  obtain ⟨i0, hi0, hz0, hz1, hz2⟩ := info_parts Tryz.infoO
  obtain ⟨v', u', hr, hN⟩ := run_pushF sz_opc (P := Tryz.prog) _ 24 0 46 i0 _ 40 Tryz.underlying24 hi0 hz0 hz1 rfl hz2 βD vD D (h.d.fr (Fr.of_below (S := fun _ => False) b2) (fun _ _ h => h)) ⟨b, 0, none⟩ 1 1 [d] rfl (fun j z hj => by
    rw [cl_one] at hj
    rw [add_lit, cell_row hb, Nat.zero_add, List.getElem?_toArray]
    exact hj) (by omega) (by omega) (by omega)
  obtain ⟨g', h1, h2, h3, h4, h5⟩ := now_set (o := 2) hN b2 h.blk (h.d.ne h.blk (by decide))
  obtain ⟨a, c, e1, -⟩ := h1.form
  simp only [List.length_append, List.length_cons, List.length_nil, Nat.zero_add] at e1
  subst e1
  refine ⟨a, c, u', fun ty => hr, h5, some g', ⟨h2, h.e.fr h3 (fun g hg hs => ?_), h1, h.n.fr h3 (fun g hg hs => ?_), h.k.fr h3 (fun g hg hs => ?_), h.nk, ⟨h.lo.1, h.lo.2.1, fun g hg => ?_, h.lo.2.2.2.1, h.lo.2.2.2.2⟩, h.bel.trans (h3.below h.bel.size (fun j hj => ?_))⟩, h3⟩
  · exact hs.elim ((h.e.ne h.blk (by decide) g hg).2) (h.e.apart h.d (by decide) g hg)
  · exact hs.elim ((h.n.ne h.blk (by decide) g hg).2) (h.n.apart h.d (by decide) g hg)
  · exact hs.elim ((h.k.ne h.blk (by decide) g hg).2) (h.k.apart h.d (by decide) g hg)
  · injection hg with hg
    subst hg
    rcases h4 with h4 | h4
    · exact h.lo.2.2.1 _ h4
    · exact Nat.le_trans h.bel.size h4
  · rcases hj with rfl | hj
    · exact h.lo.1
    · exact h.lo.2.2.1 _ hj
theorem RBs.pushN (h : RBs w0 w x E D Ns KK vE vD vN vK βE βD βN βK) {u : World} (m : Int) (b2 : Below w.heap.size w u) (b : Nat) (hb : u.heap[b]? = some (.cells (ei m).toArray 3 (0, 0))) (hn : Ns.length ≤ 1000000) :
    ∃ a c u', (∀ ty, (Builtin.append_ #[54, 54] ty #[vN, .slice (some ⟨b, 0, none⟩) 1 1]).run Tryz.prog u = .ok (.slice a (Ns.length + 1) c) u') ∧ u'.heap[x]? = some (.cells #[.pointer none, vE, vD, vN, vK, .int .i64 1] 56 (0, 0)) ∧
      ∃ β', RBs w0 (u'.setCell ⟨x, 3, none⟩ (.slice a (Ns.length + 1) c)) x E D (Ns ++ [m]) KK vE vD (.slice a (Ns.length + 1) c) vK βE βD β' βK ∧ Fr (fun j => j = x ∨ βN = some j) w (u'.setCell ⟨x, 3, none⟩ (.slice a (Ns.length + 1) c)) := by
  obtain ⟨i0, hi0, hz0, hz1, hz2⟩ := info_parts Tryz.infoI
  obtain ⟨v', u', hr, hN⟩ := run_pushF sz_ei (P := Tryz.prog) _ 54 0 3 i0 _ 8 Tryz.underlying54 hi0 hz0 hz1 rfl hz2 βN vN Ns (h.n.fr (Fr.of_below (S := fun _ => False) b2) (fun _ _ h => h)) ⟨b, 0, none⟩ 1 1 [m] rfl (fun j z hj => by
    rw [cl_one] at hj
    rw [add_lit, cell_row hb, Nat.zero_add, List.getElem?_toArray]
    exact hj) (by omega) (by omega) (by omega)
  obtain ⟨g', h1, h2, h3, h4, h5⟩ := now_set (o := 3) hN b2 h.blk (h.n.ne h.blk (by decide))
  obtain ⟨a, c, e1, -⟩ := h1.form
  simp only [List.length_append, List.length_cons, List.length_nil, Nat.zero_add] at e1
  subst e1
  refine ⟨a, c, u', fun ty => hr, h5, some g', ⟨h2, h.e.fr h3 (fun g hg hs => ?_), h.d.fr h3 (fun g hg hs => ?_), h1, h.k.fr h3 (fun g hg hs => ?_), fun g hg hk => ?_, ⟨h.lo.1, h.lo.2.1, h.lo.2.2.1, fun g hg => ?_, h.lo.2.2.2.2⟩, h.bel.trans (h3.below h.bel.size (fun j hj => ?_))⟩, h3⟩
  · exact hs.elim ((h.e.ne h.blk (by decide) g hg).2) (h.e.apart h.n (by decide) g hg)
  · exact hs.elim ((h.d.ne h.blk (by decide) g hg).2) (h.d.apart h.n (by decide) g hg)
  · exact hs.elim ((h.k.ne h.blk (by decide) g hg).2) (fun e => h.nk g e hg)
  · injection hg with hg
    subst hg
    rcases h4 with h4 | h4
    · exact h.nk _ h4 hk
    · have := h.k.lt _ hk
      omega
  · injection hg with hg
    subst hg
    rcases h4 with h4 | h4
    · exact h.lo.2.2.2.1 _ h4
    · exact Nat.le_trans h.bel.size h4
  · rcases hj with rfl | hj
    · exact h.lo.1
    · exact h.lo.2.2.2.1 _ hj
theorem RBs.pushK (h : RBs w0 w x E D Ns KK vE vD vN vK βE βD βN βK) {u : World} (m : Int) (b2 : Below w.heap.size w u) (b : Nat) (hb : u.heap[b]? = some (.cells (ei m).toArray 3 (0, 0))) (hn : KK.length ≤ 1000000) :
    ∃ a c u', (∀ ty, (Builtin.append_ #[54, 54] ty #[vK, .slice (some ⟨b, 0, none⟩) 1 1]).run Tryz.prog u = .ok (.slice a (KK.length + 1) c) u') ∧ u'.heap[x]? = some (.cells #[.pointer none, vE, vD, vN, vK, .int .i64 1] 56 (0, 0)) ∧
      ∃ β', RBs w0 (u'.setCell ⟨x, 4, none⟩ (.slice a (KK.length + 1) c)) x E D Ns (KK ++ [m]) vE vD vN (.slice a (KK.length + 1) c) βE βD βN β' ∧ Fr (fun j => j = x ∨ βK = some j) w (u'.setCell ⟨x, 4, none⟩ (.slice a (KK.length + 1) c)) := by
  obtain ⟨i0, hi0, hz0, hz1, hz2⟩ := info_parts Tryz.infoI
  obtain ⟨v', u', hr, hN⟩ := run_pushF sz_ei (P := Tryz.prog) _ 54 0 3 i0 _ 8 Tryz.underlying54 hi0 hz0 hz1 rfl hz2 βK vK KK (h.k.fr (Fr.of_below (S := fun _ => False) b2) (fun _ _ h => h)) ⟨b, 0, none⟩ 1 1 [m] rfl (fun j z hj => by
    rw [cl_one] at hj
    rw [add_lit, cell_row hb, Nat.zero_add, List.getElem?_toArray]
    exact hj) (by omega) (by omega) (by omega)
  obtain ⟨g', h1, h2, h3, h4, h5⟩ := now_set (o := 4) hN b2 h.blk (h.k.ne h.blk (by decide))
  obtain ⟨a, c, e1, -⟩ := h1.form
  simp only [List.length_append, List.length_cons, List.length_nil, Nat.zero_add] at e1
  subst e1
  refine ⟨a, c, u', fun ty => hr, h5, some g', ⟨h2, h.e.fr h3 (fun g hg hs => ?_), h.d.fr h3 (fun g hg hs => ?_), h.n.fr h3 (fun g hg hs => ?_), h1, fun g hg hk => ?_, ⟨h.lo.1, h.lo.2.1, h.lo.2.2.1, h.lo.2.2.2.1, fun g hg => ?_⟩, h.bel.trans (h3.below h.bel.size (fun j hj => ?_))⟩, h3⟩
  · exact hs.elim ((h.e.ne h.blk (by decide) g hg).2) (h.e.apart h.k (by decide) g hg)
  · exact hs.elim ((h.d.ne h.blk (by decide) g hg).2) (h.d.apart h.k (by decide) g hg)
  · exact hs.elim ((h.n.ne h.blk (by decide) g hg).2) (fun e => h.nk g hg e)
  · injection hk with hk
    subst hk
    rcases h4 with h4 | h4
    · exact h.nk _ hg h4
    · have := h.n.lt _ hg
      omega
  · injection hg with hg
    subst hg
    rcases h4 with h4 | h4
    · exact h.lo.2.2.2.2 _ h4
    · exact Nat.le_trans h.bel.size h4
  · rcases hj with rfl | hj
    · exact h.lo.1
    · exact h.lo.2.2.2.2 _ hj
theorem RBs.below (h : RBs w0 w x E D Ns KK vE vD vN vK βE βD βN βK) {u : World} (hb : Below w.heap.size w u) : RBs w0 u x E D Ns KK vE vD vN vK βE βD βN βK :=
  have hF := Fr.of_below (S := fun _ => False) hb
  ⟨(hb.block _ (block_lt h.blk)).trans h.blk, h.e.fr hF (fun _ _ h => h), h.d.fr hF (fun _ _ h => h), h.n.fr hF (fun _ _ h => h), h.k.fr hF (fun _ _ h => h), h.nk, h.lo, h.bel.trans (hb.mono h.bel.size)⟩
end

end Go.Proofs.YtilidolbplglcaaGreatDoor

/-! Ig -/
namespace Go.Proofs.YtilidolbplglcaaGreatDoor
open Go.RowKit
set_option linter.unusedVariables false

section
variable {P : Program} {md : Region.Mode} {ops : Array Oper} {Q : Exit → Act → World → Prop}

theorem count_set {l : List Bool} : ∀ {i : Nat}, l[i]? = some false → (l.set i true).count false + 1 = l.count false := by
  induction l with
  | nil => intro i h; simp at h
  | cons b l ih =>
    intro i h
    cases i with
    | zero =>
      simp at h
      subst h
      simp
    | succ i =>
      have := ih (i := i) (by simpa using h)
      simp only [List.set_cons_succ, List.count_cons]
      omega

theorem getD_false {a : Array Bool} {i : Nat} (h : a.getD i true = false) : a.toList[i]? = some false ∧ i < a.size := by
  by_cases hi : i < a.size
  · refine ⟨?_, hi⟩
    simp [Array.getD, hi] at h
    simp [hi, h]
  · simp [Array.getD, hi] at h

/-- Whatever the order: an assertion on what has come up so far, kept by each operation. -/
theorem wpAny_inv (I : Array Bool → Act → World → Prop)
    (hs : ∀ listed a w (i : Nat) (o : Oper), I listed a w → ops[i]? = some o → listed.getD i true = false → (∀ e ∈ o.after, Region.binds md e = true → listed.getD e.on false = true) → wpOp P ops Q i (I (listed.setIfInBounds i true)) a w)
    (he : ∀ listed a w, I listed a w → (∀ (i : Nat) (o : Oper), ops[i]? = some o → listed.getD i true = false → ¬ (∀ e ∈ o.after, Region.binds md e = true → listed.getD e.on false = true)) → Q .normal a w) :
    ∀ fuel listed a w, listed.toList.count false ≤ fuel → I listed a w → wpAny P md ops Q fuel listed a w := by
  have hend : ∀ listed a w, I listed a w → Region.ready md ops listed = [] → Q .normal a w := fun listed a w hI hr => he listed a w hI fun i o ho hu hall => by
    have : i ∈ Region.ready md ops listed := mem_ready.2 ⟨hu, o, ho, hall⟩
    rw [hr] at this
    cases this
  intro fuel
  induction fuel with
  | zero =>
    intro listed a w hc hI
    have hr : Region.ready md ops listed = [] := by
      cases h : Region.ready md ops listed with
      | nil => rfl
      | cons i l =>
        have hi : i ∈ Region.ready md ops listed := by rw [h]; simp
        have h1 := (getD_false (mem_ready.1 hi).1).1
        have h2 := count_set h1
        omega
    exact ⟨hr, hend _ _ _ hI hr⟩
  | succ fuel ih =>
    intro listed a w hc hI
    refine ⟨hend _ _ _ hI, fun i hi => ?_⟩
    obtain ⟨hu, o, ho, hall⟩ := mem_ready.1 hi
    refine wpOp_mono (fun a' w' h' => ih _ a' w' ?_ h') (hs listed a w i o hI ho hu hall)
    have h1 := count_set (getD_false hu).1
    rw [Array.toList_setIfInBounds]
    omega

/-- The region's operations in their order: each waits for earlier ones alone. -/
def Earlier (ops : Array Oper) : Prop := ∀ (i : Nat) (o : Oper), ops[i]? = some o → ∀ e ∈ o.after, Region.binds .any e = true → e.on < i

theorem all_listed (hT : Earlier ops) {listed : Array Bool} (hz : listed.size = ops.size)
    (h : ∀ (i : Nat) (o : Oper), ops[i]? = some o → listed.getD i true = false → ¬ (∀ e ∈ o.after, Region.binds .any e = true → listed.getD e.on false = true)) :
    ∀ i, i < ops.size → listed.getD i false = true := by
  intro i
  induction i using Nat.strongRecOn with
  | _ i ih =>
    intro hi
    have hl : i < listed.size := by omega
    cases hb : listed[i] with
    | true => simp [Array.getD, hl, hb]
    | false =>
      exfalso
      refine h i ops[i] (by simp [hi]) (by simp [Array.getD, hl, hb]) fun e he hb => ?_
      have h1 := hT i ops[i] (by simp [hi]) e he hb
      exact ih e.on h1 (by omega)

theorem wp_region_inv {id : Nat} {a : Act} {w : World} (hm : P.follows .mixedOrders = true) (hT : Earlier ops) (I : (Nat → Prop) → Act → World → Prop)
    (hs : ∀ (L L' : Nat → Prop) a w (i : Nat) (o : Oper), I L a w → ops[i]? = some o → ¬ L i → (∀ e ∈ o.after, Region.binds .any e = true → L e.on) → (∀ j, L' j ↔ (j = i ∨ L j)) → wpOp P ops Q i (I L') a w)
    (he : ∀ (L : Nat → Prop) a w, I L a w → (∀ i, i < ops.size → L i) → Q .normal a w)
    (h0 : ∀ L : Nat → Prop, (∀ i, ¬ L i) → I L a w.drew) : (Code.region id ops true).wp P Q a w := by
  refine wp_region_any hm (wpAny_inv (fun listed a w => listed.size = ops.size ∧ I (fun i => listed.getD i false = true) a w) ?_ ?_ ops.size _ a _ ?_ ⟨by simp, h0 _ ?_⟩)
  · rintro listed a w i o ⟨hz, hI⟩ ho hu hall
    have hi := (getD_false hu).2
    refine wpOp_mono (fun a' w' h' => ⟨by simpa using hz, h'⟩) (hs _ _ a w i o hI ho ?_ hall ?_)
    · simp [Array.getD, hi] at hu ⊢
      exact hu
    · intro j
      by_cases hj : j = i
      · subst hj
        simp [Array.getD, hi]
      · simp only [hj, false_or]
        have : (listed.setIfInBounds i true).getD j false = listed.getD j false := by
          rw [Array.getD_eq_getD_getElem?, Array.getD_eq_getD_getElem?, Array.getElem?_setIfInBounds_ne (Ne.symm hj)]
        rw [this]
  · rintro listed a w ⟨hz, hI⟩ h
    exact he _ a w hI (all_listed hT hz h)
  · simp
  · intro i
    by_cases hi : i < ops.size <;> simp [Array.getD, hi]
end

/-! ### The frame -/
theorem ev_ne (a : Act) {d t : Nat} (v : Value) (h : t ≠ d) : (a.put (some d) v).eval (.tmp t) = a.eval (.tmp t) :=
  Act.eval_put (fun d' hd' => by injection hd' with e; subst e; intro he; injection he with he; exact h he)
theorem ev_eq (a : Act) {d : Nat} (v : Value) (h : d < a.tmps.size) : (a.put (some d) v).eval (.tmp d) = v := by simp [Act.eval, Act.put, h]

/-- All but the slots of D is as it was. -/
structure Fe (a a' : Act) (D : List Nat) : Prop where
  df : a'.defers = a.defers
  sz : a'.tmps.size = a.tmps.size
  eq : ∀ j, j ∉ D → a'.tmps[j]? = a.tmps[j]?
theorem Fe.refl (a : Act) (D : List Nat) : Fe a a D := ⟨rfl, rfl, fun _ _ => rfl⟩
theorem Fe.put {a a' : Act} {D : List Nat} (h : Fe a a' D) {d : Nat} (hd : d ∈ D) (v : Value) : Fe a (a'.put (some d) v) D :=
  ⟨h.df, by simp [Act.put, h.sz], fun j hj => by
    have hn : d ≠ j := fun e => hj (e ▸ hd)
    simp only [Act.put]
    rw [Array.getElem?_setIfInBounds_ne hn]
    exact h.eq j hj⟩
theorem Fe.ev {a a' : Act} {D : List Nat} (h : Fe a a' D) {j : Nat} (hj : j ∉ D) : a'.eval (.tmp j) = a.eval (.tmp j) := by
  simp only [Act.eval, Array.getD_eq_getD_getElem?, h.eq j hj]

def puts (a : Act) (l : List (Nat × Value)) : Act := l.foldl (fun a p => a.put (some p.1) p.2) a
theorem Fe.puts : ∀ (l : List (Nat × Value)) (a a' : Act), Fe a a' (l.map (·.1)) → (∀ p ∈ l, p.1 < a.tmps.size ∧ a'.eval (.tmp p.1) = p.2) → a' = puts a l
  | [], a, a', h, _ => by
    obtain ⟨t', d'⟩ := a'
    obtain ⟨t, d⟩ := a
    have h1 : d' = d := h.df
    have h2 : t' = t := Array.ext_getElem? (fun i => h.eq i (by simp))
    subst h1 h2
    rfl
  | p :: l, a, a', h, hp => by
    refine Fe.puts l (a.put (some p.1) p.2) a' ⟨h.df, by simp [Act.put, h.sz], fun j hj => ?_⟩ (fun x hx => ⟨by simpa [Act.put] using (hp x (by simp [hx])).1, (hp x (by simp [hx])).2⟩)
    by_cases e : j = p.1
    · subst e
      obtain ⟨h1, h2⟩ := hp p (by simp)
      have h3 : p.1 < a'.tmps.size := by rw [h.sz]; exact h1
      simp [Act.eval, h3] at h2
      simp [Act.put, h1, h3, h2]
    · simp only [Act.put]
      rw [Array.getElem?_setIfInBounds_ne (Ne.symm e)]
      exact h.eq j (by simp [e, hj])

def opsAt (n : Nat) : Code → Option (Array Oper)
  | .region k ops _ => if k = n then some ops else none
  | .seq a b => (opsAt n a).orElse fun _ => opsAt n b
  | .block _ c => opsAt n c
  | .scope c => opsAt n c
  | .cond _ a b => (opsAt n a).orElse fun _ => opsAt n b
  | .loop c => opsAt n c
  | _ => none
section
variable {P : Program} {ops : Array Oper} {o : Oper} {a : Act} {w : World} {K : Act → World → Prop} {Q : Exit → Act → World → Prop} {i : Nat}

theorem fields {d : Option Tmp} {p : Op} (ho : ops[i]? = some o) (h : (ops[i]?).map (fun o => (o.dst, o.op, o.guard)) = some (d, p, none)) : o.dst = d ∧ o.op = p ∧ o.guard = none := by
  rw [ho] at h
  simpa using h
theorem dep {L : Nat → Prop} (ho : ops[i]? = some o) (hall : ∀ e ∈ o.after, Region.binds .any e = true → L e.on) (k : Nat) (h : (ops[i]?).map (fun o => o.after.any (fun e => Region.binds .any e && e.on == k)) = some true) : L k := by
  rw [ho] at h
  simp only [Option.map_some, Option.some.injEq, Array.any_eq_true'] at h
  obtain ⟨e, he, hb⟩ := h
  simp only [Bool.and_eq_true, beq_iff_eq] at hb
  exact hb.2 ▸ hall e he hb.1

theorem op_plain (ho : ops[i]? = some o) (hg : o.guard = none) (h : Oper.wp P o a w K Q) : wpOp P ops Q i K a w := by
  refine wpOp_step ho fun K' hK => ?_
  have hw : Region.wanted o (yielded ops a.tmps) = true := by simp [Region.wanted, hg]
  rw [if_pos hw]
  exact Oper.wp_mono hK h

theorem op_move (ho : ops[i]? = some o) (x : Operand) {d : Option Tmp} (h : (ops[i]?).map (fun o => (o.dst, o.op, o.guard)) = some (d, Op.move x, none)) (hK : K (a.put d (a.eval x)) w) : wpOp P ops Q i K a w := by
  obtain ⟨h1, h2, h3⟩ := fields ho h
  refine op_plain ho h3 ?_
  unfold Oper.wp
  simp [execOp, h2, Oper.upon]
  rw [h1]
  exact hK
theorem op_assign (ho : ops[i]? = some o) (x : Operand) {d : Option Tmp} (h : (ops[i]?).map (fun o => (o.dst, o.op, o.guard)) = some (d, Op.assign x, none)) (hK : K (a.put d (a.eval x)) w) : wpOp P ops Q i K a w := by
  obtain ⟨h1, h2, h3⟩ := fields ho h
  refine op_plain ho h3 ?_
  unfold Oper.wp
  simp [execOp, h2, Oper.upon]
  rw [h1]
  exact hK
theorem op_call (ho : ops[i]? = some o) (f : FuncId) (x : Operand) (t : TypeId) {d : Option Tmp} (h : (ops[i]?).map (fun o => (o.dst, o.op, o.guard)) = some (d, Op.call { callee := .value (.func f), args := #[x], argTypes := #[t] }, none)) {fn : Func} {c : Code} (hf : P.funcs[f]? = some fn) (hb : fn.body = some c) (hnm : (fn.name == "runtime.NumGoroutine") = false) {R : Ending → World → Prop} (hC : Calls P f #[a.eval x] w R) (hK : ∀ e w', R e w' → ∃ v, e = .returned v ∧ K (a.put d v) w') : wpOp P ops Q i K a w := by
  obtain ⟨h1, h2, h3⟩ := fields ho h
  refine op_plain ho h3 ?_
  unfold Oper.wp
  have e1 : (execOp a.eval o).run P w = .ok (.enter f #[a.eval x]) w := by
    simp [execOp, h2, resolve, invoke, Deferred.ofValue, show a.eval (.func f) = .func (.func f) #[] #[] from rfl, callFunc, hf, hb]
    simpa using hnm
  rw [e1]
  show Calls P f #[a.eval x] w _
  refine hC.mono fun e w' h => ?_
  obtain ⟨v, rfl, hk⟩ := hK e w' h
  rw [h1]
  exact hk
end




section
variable {ops : Array Oper} {o : Oper} {a : Act} {w : World} {K : Act → World → Prop} {Q : Exit → Act → World → Prop} {i : Nat}

def gOk (ops : Array Oper) (a : Act) : Option (Nat × Bool) → Prop
  | none => True
  | some (k, b) => ∃ d, (ops[k]?).bind (·.dst) = some d ∧ a.eval (.tmp d) = .bool b
theorem wanted_of {g : Option (Nat × Bool)} (hg : o.guard = g) (h : gOk ops a g) : Region.wanted o (yielded ops a.tmps) = true := by
  subst hg
  unfold Region.wanted
  cases hgd : o.guard with
  | none => rfl
  | some p =>
    obtain ⟨k, b⟩ := p
    rw [hgd] at h
    obtain ⟨d, hd', he⟩ := h
    simp only [yielded, hd', Option.bind_some]
    have : a.tmps[d]? = some (.bool b) := by
      simp only [Act.eval, Array.getD_eq_getD_getElem?] at he
      cases ht : a.tmps[d]? with
      | none => rw [ht] at he; simp [undef] at he
      | some v => rw [ht] at he; simp at he; rw [he]
    rw [this]
    simp
theorem flds {d : Option Tmp} {p : Op} {g : Option (Nat × Bool)} (ho : ops[i]? = some o) (h : (ops[i]?).map (fun o => (o.dst, o.op, o.guard)) = some (d, p, g)) : o.dst = d ∧ o.op = p ∧ o.guard = g := by
  rw [ho] at h
  simpa using h
theorem og_plain {g : Option (Nat × Bool)} (ho : ops[i]? = some o) (hg : o.guard = g) (hw : gOk ops a g) (h : Oper.wp Tryz.prog o a w K Q) : wpOp Tryz.prog ops Q i K a w := by
  refine wpOp_step ho fun K' hK => ?_
  rw [if_pos (wanted_of hg hw)]
  exact Oper.wp_mono hK h

theorem og_move {g : Option (Nat × Bool)} (ho : ops[i]? = some o) (x : Operand) {d : Option Tmp} (h : (ops[i]?).map (fun o => (o.dst, o.op, o.guard)) = some (d, Op.move x, g)) (hw : gOk ops a g) {v : Value} (hx : a.eval x = v) (hK : K (a.put d v) w) : wpOp Tryz.prog ops Q i K a w := by
  obtain ⟨h1, h2, h3⟩ := flds ho h
  refine og_plain ho h3 hw ?_
  unfold Oper.wp
  simp [execOp, h2, Oper.upon]
  rw [h1, hx]
  exact hK
theorem og_skip {k : Nat} {b : Bool} (ho : ops[i]? = some o) {d : Option Tmp} (h : (ops[i]?).map (fun o => (o.dst, o.guard)) = some (d, some (k, b))) {t : Nat} (ht : (ops[k]?).bind (·.dst) = some t) (he : a.eval (.tmp t) = .bool (!b)) (hK : K (a.put d undef) w) : wpOp Tryz.prog ops Q i K a w := by
  rw [ho] at h
  simp only [Option.map_some, Option.some.injEq, Prod.mk.injEq] at h
  obtain ⟨h1, h2⟩ := h
  refine wpOp_step ho fun K' hK' => ?_
  have hn : ¬ (Region.wanted o (yielded ops a.tmps) = true) := by
    unfold Region.wanted
    rw [h2]
    simp only [yielded, ht, Option.bind_some]
    have : a.tmps[t]? = some (.bool (!b)) := by
      simp only [Act.eval, Array.getD_eq_getD_getElem?] at he
      cases hh : a.tmps[t]? with
      | none => rw [hh] at he; simp [undef] at he
      | some v => rw [hh] at he; simp at he; rw [he]
    rw [this]
    cases b <;> simp
  rw [if_neg hn, h1]
  exact hK' _ _ hK
theorem og_assign {g : Option (Nat × Bool)} (ho : ops[i]? = some o) (x : Operand) {d : Option Tmp} (h : (ops[i]?).map (fun o => (o.dst, o.op, o.guard)) = some (d, Op.assign x, g)) (hw : gOk ops a g) {v : Value} (hx : a.eval x = v) (hK : K (a.put d (v)) w) : wpOp Tryz.prog ops Q i K a w := by
  obtain ⟨h1, h2, h3⟩ := flds ho h
  refine og_plain ho h3 hw ?_
  unfold Oper.wp
  simp [execOp, h2, Oper.upon]
  rw [h1, hx]
  exact hK
theorem og_nil {g : Option (Nat × Bool)} (ho : ops[i]? = some o) (x : Operand) {d : Option Tmp} (h : (ops[i]?).map (fun o => (o.dst, o.op, o.guard)) = some (d, Op.nilCheck x, g)) (hw : gOk ops a g) {p : Addr} (hx : a.eval x = .pointer (some p)) (hK : K (a.put d (.pointer (some p))) w) : wpOp Tryz.prog ops Q i K a w := by
  obtain ⟨h1, h2, h3⟩ := flds ho h
  refine og_plain ho h3 hw ?_
  unfold Oper.wp
  simp only [execOp, h2, hx]
  go_simp
  exact hK
theorem og_app {g : Option (Nat × Bool)} (ho : ops[i]? = some o) (x y : Operand) (t : TypeId) {d : Option Tmp} (h : (ops[i]?).map (fun o => (o.dst, o.op, o.guard)) = some (d, Op.call { callee := .builtin .append, args := #[x, y], argTypes := #[t, t] }, g)) (hw : gOk ops a g) {v u v' : Value} {w' : World} (hx : a.eval x = v) (hy : a.eval y = u) (hr : ∀ ty, (Builtin.append_ #[t, t] ty #[v, u]).run Tryz.prog w = .ok v' w') (hK : K (a.put d v') w') : wpOp Tryz.prog ops Q i K a w := by
  obtain ⟨h1, h2, h3⟩ := flds ho h
  refine og_plain ho h3 hw ?_
  unfold Oper.wp
  simp [execOp, h2, resolve, invoke, builtin, hx, hy, hr, Result.andThen]
  show K (a.put o.dst v') w'
  rw [h1]
  exact hK
end

/-- Does operation k wait for operation j, over others too? -/
def anc (ops : Array Oper) : Nat → Nat → Nat → Bool
  | 0, k, j => k == j
  | f + 1, k, j => k == j || (match ops[k]? with
    | some o => o.after.any (fun e => Region.binds .any e && anc ops f e.on j)
    | none => false)
def Dc (ops : Array Oper) (L : Nat → Prop) : Prop := ∀ (j : Nat) (o : Oper), ops[j]? = some o → L j → ∀ e ∈ o.after, Region.binds .any e = true → L e.on
theorem anc_spec {ops : Array Oper} {L : Nat → Prop} (h : Dc ops L) : ∀ f k j, anc ops f k j = true → L k → L j
  | 0, k, j, ha, hk => by
    simp only [anc, beq_iff_eq] at ha
    exact ha ▸ hk
  | f + 1, k, j, ha, hk => by
    simp only [anc, Bool.or_eq_true, beq_iff_eq] at ha
    rcases ha with rfl | ha
    · exact hk
    · cases ho : ops[k]? with
      | none => rw [ho] at ha; cases ha
      | some o =>
        rw [ho] at ha
        simp only [Array.any_eq_true', Bool.and_eq_true] at ha
        obtain ⟨e, he, hb, hr⟩ := ha
        exact anc_spec h f e.on j hr (h k o ho hk e he hb)
theorem Dc.next {ops : Array Oper} {L L' : Nat → Prop} {i : Nat} {o : Oper} (h : Dc ops L) (ho : ops[i]? = some o) (hall : ∀ e ∈ o.after, Region.binds .any e = true → L e.on) (hu : ∀ j, L' j ↔ (j = i ∨ L j)) : Dc ops L' := by
  intro j oj hj hl e he hb
  rcases (hu j).1 hl with rfl | hl
  · rw [ho] at hj
    injection hj with hj
    subst hj
    exact (hu _).2 (.inr (hall e he hb))
  · exact (hu _).2 (.inr (h j oj hj hl e he hb))

/-- What has come up: quiet operations have put V j into their slots; kb builds a list of one, kp appends it, N stores. -/
structure JP (ops : Array Oper) (σ : Nat → Nat) (N kb kp : Nat) (V : Nat → Value) (a0 : Act) (w : World) (NB : Nat → World → Prop) (P : Value → World → Prop) (x off : Nat) (L : Nat → Prop) (a : Act) (u : World) : Prop where
  fe : Fe a0 a ((List.range N).map σ)
  e : ∀ j, j < N → j ≠ kb → j ≠ kp → L j → a.eval (.tmp (σ j)) = V j
  dc : Dc ops L
  n : ¬ L kp → Below w.heap.size w u
  b : L kb → ¬ L kp → ∃ g, a.eval (.tmp (σ kb)) = .slice (some ⟨g, 0, none⟩) 1 1 ∧ NB g u
  p : L kp → ¬ L N → P (a.eval (.tmp (σ kp))) u
  s : L N → ∃ v' u1, P v' u1 ∧ u = u1.setCell ⟨x, off, none⟩ v'

section
variable {ops : Array Oper} {σ : Nat → Nat} {N kb kp : Nat} {V : Nat → Value} {a0 : Act} {w : World} {NB : Nat → World → Prop} {P : Value → World → Prop} {x off : Nat} {L L' : Nat → Prop} {a : Act} {u : World} {i : Nat} {o : Oper}
theorem JP.next (h : JP ops σ N kb kp V a0 w NB P x off L a u) (ho : ops[i]? = some o) (hall : ∀ e ∈ o.after, Region.binds .any e = true → L e.on) (hi : i < N) (ib : i ≠ kb) (ip : i ≠ kp) (hb : kb < N) (hp : kp < N) (hinj : ∀ i j, i < N → j < N → σ i = σ j → i = j) (hz : ∀ j, j < N → σ j < a0.tmps.size) (hu : ∀ j, L' j ↔ (j = i ∨ L j)) :
    JP ops σ N kb kp V a0 w NB P x off L' (a.put (some (σ i)) (V i)) u := by
  have lp : L' kp ↔ L kp := by rw [hu]; exact ⟨fun h => h.resolve_left (Ne.symm ip), .inr⟩
  have lb : L' kb ↔ L kb := by rw [hu]; exact ⟨fun h => h.resolve_left (Ne.symm ib), .inr⟩
  have lN : L' N ↔ L N := by rw [hu]; exact ⟨fun h => h.resolve_left (by omega), .inr⟩
  have k1 : (a.put (some (σ i)) (V i)).eval (.tmp (σ kb)) = a.eval (.tmp (σ kb)) := ev_ne _ _ (fun he => ib (hinj _ _ hb hi he).symm)
  have k2 : (a.put (some (σ i)) (V i)).eval (.tmp (σ kp)) = a.eval (.tmp (σ kp)) := ev_ne _ _ (fun he => ip (hinj _ _ hp hi he).symm)
  refine ⟨h.fe.put (List.mem_map.2 ⟨i, List.mem_range.2 hi, rfl⟩) _, fun j hj j1 j2 hl => ?_, h.dc.next ho hall hu, ?_, ?_, ?_, ?_⟩
  · by_cases e : j = i
    · subst e
      exact ev_eq _ _ (by rw [h.fe.sz]; exact hz j hj)
    · exact (ev_ne _ _ (fun he => e (hinj j i hj hi he))).trans (h.e j hj j1 j2 (((hu j).1 hl).resolve_left e))
  · rw [lp]; exact h.n
  · rw [lb, lp, k1]; exact h.b
  · rw [lp, lN, k2]; exact h.p
  · rw [lN]; exact h.s
theorem JP.build (h : JP ops σ N kb kp V a0 w NB P x off L a u) (ho : ops[kb]? = some o) (hall : ∀ e ∈ o.after, Region.binds .any e = true → L e.on) (hno : ¬ L kb) (hb : kb < N) (hp : kp < N) (hbp : kb ≠ kp) (hinj : ∀ i j, i < N → j < N → σ i = σ j → i = j) (hz : ∀ j, j < N → σ j < a0.tmps.size) (hu : ∀ j, L' j ↔ (j = kb ∨ L j))
    (a1 : anc ops 40 kp kb = true) (a2 : anc ops 40 N kp = true) (ob : Obj) (hN : Below w.heap.size w u → NB u.heap.size (u.alloc ob)) :
    JP ops σ N kb kp V a0 w NB P x off L' (a.put (some (σ kb)) (.slice (some ⟨u.heap.size, 0, none⟩) 1 1)) (u.alloc ob) := by
  have np : ¬ L kp := fun hl => hno (anc_spec h.dc _ _ _ a1 hl)
  have nN : ¬ L N := fun hl => np (anc_spec h.dc _ _ _ a2 hl)
  have lp : L' kp ↔ L kp := by rw [hu]; exact ⟨fun h => h.resolve_left (Ne.symm hbp), .inr⟩
  have lN : L' N ↔ L N := by rw [hu]; exact ⟨fun h => h.resolve_left (by omega), .inr⟩
  have hB := h.n np
  refine ⟨h.fe.put (List.mem_map.2 ⟨kb, List.mem_range.2 hb, rfl⟩) _, fun j hj j1 j2 hl => ?_, h.dc.next ho hall hu, fun _ => hB.alloc hB.size _, fun _ _ => ⟨_, ev_eq _ _ (by rw [h.fe.sz]; exact hz kb hb), hN hB⟩, fun hl => absurd (lp.1 hl) np, fun hl => absurd (lN.1 hl) nN⟩
  exact (ev_ne _ _ (fun he => j1 (hinj j kb hj hb he))).trans (h.e j hj j1 j2 (((hu j).1 hl).resolve_left j1))
theorem JP.app (h : JP ops σ N kb kp V a0 w NB P x off L a u) (ho : ops[kp]? = some o) (hall : ∀ e ∈ o.after, Region.binds .any e = true → L e.on) (hno : ¬ L kp) (hb : kb < N) (hp : kp < N) (hbp : kb ≠ kp) (hinj : ∀ i j, i < N → j < N → σ i = σ j → i = j) (hz : ∀ j, j < N → σ j < a0.tmps.size) (hu : ∀ j, L' j ↔ (j = kp ∨ L j))
    (a2 : anc ops 40 N kp = true) {v' : Value} {u' : World} (hP : P v' u') :
    JP ops σ N kb kp V a0 w NB P x off L' (a.put (some (σ kp)) v') u' := by
  have nN : ¬ L N := fun hl => hno (anc_spec h.dc _ _ _ a2 hl)
  have lp : L' kp := (hu kp).2 (.inl rfl)
  have lN : L' N ↔ L N := by rw [hu]; exact ⟨fun h => h.resolve_left (by omega), .inr⟩
  refine ⟨h.fe.put (List.mem_map.2 ⟨kp, List.mem_range.2 hp, rfl⟩) _, fun j hj j1 j2 hl => ?_, h.dc.next ho hall hu, fun hn => absurd lp hn, fun _ hn => absurd lp hn, fun _ _ => ?_, fun hl => absurd (lN.1 hl) nN⟩
  · exact (ev_ne _ _ (fun he => j2 (hinj j kp hj hp he))).trans (h.e j hj j1 j2 (((hu j).1 hl).resolve_left j2))
  · rw [ev_eq _ _ (by rw [h.fe.sz]; exact hz kp hp)]
    exact hP
theorem JP.store (h : JP ops σ N kb kp V a0 w NB P x off L a u) (ho : ops[N]? = some o) (hall : ∀ e ∈ o.after, Region.binds .any e = true → L e.on) (hno : ¬ L N) (hb : kb < N) (hp : kp < N) (hu : ∀ j, L' j ↔ (j = N ∨ L j)) (lp : L kp) :
    JP ops σ N kb kp V a0 w NB P x off L' a (u.setCell ⟨x, off, none⟩ (a.eval (.tmp (σ kp)))) := by
  have lN : L' N := (hu N).2 (.inl rfl)
  have lp' : L' kp := (hu kp).2 (.inr lp)
  refine ⟨h.fe, fun j hj j1 j2 hl => h.e j hj j1 j2 (((hu j).1 hl).resolve_left (by omega)), h.dc.next ho hall hu, fun hn => absurd lp' hn, fun _ hn => absurd lp' hn, fun _ hn => absurd lN hn, fun _ => ⟨_, _, h.p lp hno, rfl⟩⟩

/-- Cells that the operations read: they stay until the store. -/
theorem JP.g {G : World → Prop} (h : JP ops σ N kb kp V a0 w NB P x off L a u) (h0 : ∀ u, Below w.heap.size w u → G u) (hP : ∀ v u, P v u → G u) (hno : ¬ L N) : G u := by
  by_cases hp : L kp
  · exact hP _ _ (h.p hp hno)
  · exact h0 _ (h.n hp)

/-- The end. -/
theorem JP.done (h : JP ops σ N kb kp V a0 w NB P x off L a u) (hz : ∀ j, j < N → σ j < a0.tmps.size) (hN : L N) : ∃ (V' : Nat → Value) (v' : Value) (u1 : World), P v' u1 ∧ a = puts a0 ((List.range N).map fun j => (σ j, V' j)) ∧ u = u1.setCell ⟨x, off, none⟩ v' := by
  obtain ⟨v', u1, hp, e⟩ := h.s hN
  refine ⟨fun j => a.eval (.tmp (σ j)), v', u1, hp, ?_, e⟩
  refine Fe.puts _ a0 a (by rw [List.map_map]; exact h.fe) (fun p hp => ?_)
  obtain ⟨j, hj, rfl⟩ := List.mem_map.1 hp
  exact ⟨hz j (List.mem_range.1 hj), rfl⟩
theorem JP.start (hdr : Below w.heap.size w w.drew) (hL : ∀ i, ¬ L i) : JP ops σ N kb kp V a0 w NB P x off L a0 w.drew :=
  ⟨Fe.refl _ _, fun j _ _ _ h => absurd h (hL _), fun j o _ hl => absurd hl (hL _), fun _ => hdr, fun h => absurd h (hL _), fun h => absurd h (hL _), fun h => absurd h (hL _)⟩
end

end Go.Proofs.YtilidolbplglcaaGreatDoor
