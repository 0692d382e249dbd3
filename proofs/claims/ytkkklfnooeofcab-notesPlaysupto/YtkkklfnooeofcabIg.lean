/-
  A region whose order is drawn: a list in a cell gets one element more.
-/
import Derived.Test.YtkkklfnooeofcabMWa
import Derived.Deep.RegionHeld3
namespace Go.Proofs.Ytkkklfnooeofcab
open Go.RowKit
set_option linter.unusedVariables false

section
variable {P : Program} {md : Region.Mode} {ops : Array Oper} {Q : Exit → Act → World → Prop}

theorem count_set {l : List Bool} : ∀ {i : Nat}, l[i]? = some false → (l.set i true).count false + 1 = l.count false := by
  induction l with
  | nil => intro i h; simp at h
  | cons b l ih =>
    intro i h
    cases i with
    | zero =>
      simp at h
      subst h
      simp
    | succ i =>
      have := ih (i := i) (by simpa using h)
      simp only [List.set_cons_succ, List.count_cons]
      omega

theorem getD_false {a : Array Bool} {i : Nat} (h : a.getD i true = false) : a.toList[i]? = some false ∧ i < a.size := by
  by_cases hi : i < a.size
  · refine ⟨?_, hi⟩
    simp [Array.getD, hi] at h
    simp [hi, h]
  · simp [Array.getD, hi] at h

/-- Whatever the order: an assertion on what has come up so far, kept by each operation. -/
theorem wpAny_inv (I : Array Bool → Act → World → Prop)
    (hs : ∀ listed a w (i : Nat) (o : Oper), I listed a w → ops[i]? = some o → listed.getD i true = false → (∀ e ∈ o.after, Region.binds md e = true → listed.getD e.on false = true) → wpOp P ops Q i (I (listed.setIfInBounds i true)) a w)
    (he : ∀ listed a w, I listed a w → (∀ (i : Nat) (o : Oper), ops[i]? = some o → listed.getD i true = false → ¬ (∀ e ∈ o.after, Region.binds md e = true → listed.getD e.on false = true)) → Q .normal a w) :
    ∀ fuel listed a w, listed.toList.count false ≤ fuel → I listed a w → wpAny P md ops Q fuel listed a w := by
  have hend : ∀ listed a w, I listed a w → Region.ready md ops listed = [] → Q .normal a w := fun listed a w hI hr => he listed a w hI fun i o ho hu hall => by
    have : i ∈ Region.ready md ops listed := mem_ready.2 ⟨hu, o, ho, hall⟩
    rw [hr] at this
    cases this
  intro fuel
  induction fuel with
  | zero =>
    intro listed a w hc hI
    have hr : Region.ready md ops listed = [] := by
      cases h : Region.ready md ops listed with
      | nil => rfl
      | cons i l =>
        have hi : i ∈ Region.ready md ops listed := by rw [h]; simp
        have h1 := (getD_false (mem_ready.1 hi).1).1
        have h2 := count_set h1
        omega
    exact ⟨hr, hend _ _ _ hI hr⟩
  | succ fuel ih =>
    intro listed a w hc hI
    refine ⟨hend _ _ _ hI, fun i hi => ?_⟩
    obtain ⟨hu, o, ho, hall⟩ := mem_ready.1 hi
    refine wpOp_mono (fun a' w' h' => ih _ a' w' ?_ h') (hs listed a w i o hI ho hu hall)
    have h1 := count_set (getD_false hu).1
    rw [Array.toList_setIfInBounds]
    omega

/-- The region's operations in their order: each waits for earlier ones alone. -/
def Earlier (ops : Array Oper) : Prop := ∀ (i : Nat) (o : Oper), ops[i]? = some o → ∀ e ∈ o.after, Region.binds .any e = true → e.on < i

theorem all_listed (hT : Earlier ops) {listed : Array Bool} (hz : listed.size = ops.size)
    (h : ∀ (i : Nat) (o : Oper), ops[i]? = some o → listed.getD i true = false → ¬ (∀ e ∈ o.after, Region.binds .any e = true → listed.getD e.on false = true)) :
    ∀ i, i < ops.size → listed.getD i false = true := by
  intro i
  induction i using Nat.strongRecOn with
  | _ i ih =>
    intro hi
    have hl : i < listed.size := by omega
    cases hb : listed[i] with
    | true => simp [Array.getD, hl, hb]
    | false =>
      exfalso
      refine h i ops[i] (by simp [hi]) (by simp [Array.getD, hl, hb]) fun e he hb => ?_
      have h1 := hT i ops[i] (by simp [hi]) e he hb
      exact ih e.on h1 (by omega)

theorem wp_region_inv {id : Nat} {a : Act} {w : World} (hm : P.follows .mixedOrders = true) (hT : Earlier ops) (I : (Nat → Prop) → Act → World → Prop)
    (hs : ∀ (L L' : Nat → Prop) a w (i : Nat) (o : Oper), I L a w → ops[i]? = some o → ¬ L i → (∀ e ∈ o.after, Region.binds .any e = true → L e.on) → (∀ j, L' j ↔ (j = i ∨ L j)) → wpOp P ops Q i (I L') a w)
    (he : ∀ (L : Nat → Prop) a w, I L a w → (∀ i, i < ops.size → L i) → Q .normal a w)
    (h0 : ∀ L : Nat → Prop, (∀ i, ¬ L i) → I L a w.drew) : (Code.region id ops true).wp P Q a w := by
  refine wp_region_any hm (wpAny_inv (fun listed a w => listed.size = ops.size ∧ I (fun i => listed.getD i false = true) a w) ?_ ?_ ops.size _ a _ ?_ ⟨by simp, h0 _ ?_⟩)
  · rintro listed a w i o ⟨hz, hI⟩ ho hu hall
    have hi := (getD_false hu).2
    refine wpOp_mono (fun a' w' h' => ⟨by simpa using hz, h'⟩) (hs _ _ a w i o hI ho ?_ hall ?_)
    · simp [Array.getD, hi] at hu ⊢
      exact hu
    · intro j
      by_cases hj : j = i
      · subst hj
        simp [Array.getD, hi]
      · simp only [hj, false_or]
        have : (listed.setIfInBounds i true).getD j false = listed.getD j false := by
          rw [Array.getD_eq_getD_getElem?, Array.getD_eq_getD_getElem?, Array.getElem?_setIfInBounds_ne (Ne.symm hj)]
        rw [this]
  · rintro listed a w ⟨hz, hI⟩ h
    exact he _ a w hI (all_listed hT hz h)
  · simp
  · intro i
    by_cases hi : i < ops.size <;> simp [Array.getD, hi]
end

/-! ### The frame -/
theorem ev_ne (a : Act) {d t : Nat} (v : Value) (h : t ≠ d) : (a.put (some d) v).eval (.tmp t) = a.eval (.tmp t) :=
  Act.eval_put (fun d' hd' => by injection hd' with e; subst e; intro he; injection he with he; exact h he)
theorem ev_eq (a : Act) {d : Nat} (v : Value) (h : d < a.tmps.size) : (a.put (some d) v).eval (.tmp d) = v := by simp [Act.eval, Act.put, h]

/-- All but the slots of D is as it was. -/
structure Fe (a a' : Act) (D : List Nat) : Prop where
  df : a'.defers = a.defers
  sz : a'.tmps.size = a.tmps.size
  eq : ∀ j, j ∉ D → a'.tmps[j]? = a.tmps[j]?
theorem Fe.refl (a : Act) (D : List Nat) : Fe a a D := ⟨rfl, rfl, fun _ _ => rfl⟩
theorem Fe.put {a a' : Act} {D : List Nat} (h : Fe a a' D) {d : Nat} (hd : d ∈ D) (v : Value) : Fe a (a'.put (some d) v) D :=
  ⟨h.df, by simp [Act.put, h.sz], fun j hj => by
    have hn : d ≠ j := fun e => hj (e ▸ hd)
    simp only [Act.put]
    rw [Array.getElem?_setIfInBounds_ne hn]
    exact h.eq j hj⟩
theorem Fe.ev {a a' : Act} {D : List Nat} (h : Fe a a' D) {j : Nat} (hj : j ∉ D) : a'.eval (.tmp j) = a.eval (.tmp j) := by
  simp only [Act.eval, Array.getD_eq_getD_getElem?, h.eq j hj]

def puts (a : Act) (l : List (Nat × Value)) : Act := l.foldl (fun a p => a.put (some p.1) p.2) a
theorem Fe.puts : ∀ (l : List (Nat × Value)) (a a' : Act), Fe a a' (l.map (·.1)) → (∀ p ∈ l, p.1 < a.tmps.size ∧ a'.eval (.tmp p.1) = p.2) → a' = puts a l
  | [], a, a', h, _ => by
    obtain ⟨t', d'⟩ := a'
    obtain ⟨t, d⟩ := a
    have h1 : d' = d := h.df
    have h2 : t' = t := Array.ext_getElem? (fun i => h.eq i (by simp))
    subst h1 h2
    rfl
  | p :: l, a, a', h, hp => by
    refine Fe.puts l (a.put (some p.1) p.2) a' ⟨h.df, by simp [Act.put, h.sz], fun j hj => ?_⟩ (fun x hx => ⟨by simpa [Act.put] using (hp x (by simp [hx])).1, (hp x (by simp [hx])).2⟩)
    by_cases e : j = p.1
    · subst e
      obtain ⟨h1, h2⟩ := hp p (by simp)
      have h3 : p.1 < a'.tmps.size := by rw [h.sz]; exact h1
      simp [Act.eval, h3] at h2
      simp [Act.put, h1, h3, h2]
    · simp only [Act.put]
      rw [Array.getElem?_setIfInBounds_ne (Ne.symm e)]
      exact h.eq j (by simp [e, hj])

def opsAt (n : Nat) : Code → Option (Array Oper)
  | .region k ops _ => if k = n then some ops else none
  | .seq a b => (opsAt n a).orElse fun _ => opsAt n b
  | .block _ c => opsAt n c
  | .scope c => opsAt n c
  | .cond _ a b => (opsAt n a).orElse fun _ => opsAt n b
  | .loop c => opsAt n c
  | _ => none
section
variable {P : Program} {ops : Array Oper} {o : Oper} {a : Act} {w : World} {K : Act → World → Prop} {Q : Exit → Act → World → Prop} {i : Nat}

theorem fields {d : Option Tmp} {p : Op} (ho : ops[i]? = some o) (h : (ops[i]?).map (fun o => (o.dst, o.op, o.guard)) = some (d, p, none)) : o.dst = d ∧ o.op = p ∧ o.guard = none := by
  rw [ho] at h
  simpa using h
theorem dep {L : Nat → Prop} (ho : ops[i]? = some o) (hall : ∀ e ∈ o.after, Region.binds .any e = true → L e.on) (k : Nat) (h : (ops[i]?).map (fun o => o.after.any (fun e => Region.binds .any e && e.on == k)) = some true) : L k := by
  rw [ho] at h
  simp only [Option.map_some, Option.some.injEq, Array.any_eq_true'] at h
  obtain ⟨e, he, hb⟩ := h
  simp only [Bool.and_eq_true, beq_iff_eq] at hb
  exact hb.2 ▸ hall e he hb.1

theorem op_plain (ho : ops[i]? = some o) (hg : o.guard = none) (h : Oper.wp P o a w K Q) : wpOp P ops Q i K a w := by
  refine wpOp_step ho fun K' hK => ?_
  have hw : Region.wanted o (yielded ops a.tmps) = true := by simp [Region.wanted, hg]
  rw [if_pos hw]
  exact Oper.wp_mono hK h

theorem op_move (ho : ops[i]? = some o) (x : Operand) {d : Option Tmp} (h : (ops[i]?).map (fun o => (o.dst, o.op, o.guard)) = some (d, Op.move x, none)) (hK : K (a.put d (a.eval x)) w) : wpOp P ops Q i K a w := by
  obtain ⟨h1, h2, h3⟩ := fields ho h
  refine op_plain ho h3 ?_
  unfold Oper.wp
  simp [execOp, h2, Oper.upon]
  rw [h1]
  exact hK
theorem op_assign (ho : ops[i]? = some o) (x : Operand) {d : Option Tmp} (h : (ops[i]?).map (fun o => (o.dst, o.op, o.guard)) = some (d, Op.assign x, none)) (hK : K (a.put d (a.eval x)) w) : wpOp P ops Q i K a w := by
  obtain ⟨h1, h2, h3⟩ := fields ho h
  refine op_plain ho h3 ?_
  unfold Oper.wp
  simp [execOp, h2, Oper.upon]
  rw [h1]
  exact hK
theorem op_call (ho : ops[i]? = some o) (f : FuncId) (x : Operand) (t : TypeId) {d : Option Tmp} (h : (ops[i]?).map (fun o => (o.dst, o.op, o.guard)) = some (d, Op.call { callee := .value (.func f), args := #[x], argTypes := #[t] }, none)) {fn : Func} {c : Code} (hf : P.funcs[f]? = some fn) (hb : fn.body = some c) (hnm : (fn.name == "runtime.NumGoroutine") = false) {R : Ending → World → Prop} (hC : Calls P f #[a.eval x] w R) (hK : ∀ e w', R e w' → ∃ v, e = .returned v ∧ K (a.put d v) w') : wpOp P ops Q i K a w := by
  obtain ⟨h1, h2, h3⟩ := fields ho h
  refine op_plain ho h3 ?_
  unfold Oper.wp
  have e1 : (execOp a.eval o).run P w = .ok (.enter f #[a.eval x]) w := by
    simp [execOp, h2, resolve, invoke, Deferred.ofValue, show a.eval (.func f) = .func (.func f) #[] #[] from rfl, callFunc, hf, hb]
    simpa using hnm
  rw [e1]
  show Calls P f #[a.eval x] w _
  refine hC.mono fun e w' h => ?_
  obtain ⟨v, rfl, hk⟩ := hK e w' h
  rw [h1]
  exact hk
end




section
variable {ops : Array Oper} {o : Oper} {a : Act} {w : World} {K : Act → World → Prop} {Q : Exit → Act → World → Prop} {i : Nat}

def gOk (ops : Array Oper) (a : Act) : Option (Nat × Bool) → Prop
  | none => True
  | some (k, b) => ∃ d, (ops[k]?).bind (·.dst) = some d ∧ a.eval (.tmp d) = .bool b
theorem wanted_of {g : Option (Nat × Bool)} (hg : o.guard = g) (h : gOk ops a g) : Region.wanted o (yielded ops a.tmps) = true := by
  subst hg
  unfold Region.wanted
  cases hgd : o.guard with
  | none => rfl
  | some p =>
    obtain ⟨k, b⟩ := p
    rw [hgd] at h
    obtain ⟨d, hd', he⟩ := h
    simp only [yielded, hd', Option.bind_some]
    have : a.tmps[d]? = some (.bool b) := by
      simp only [Act.eval, Array.getD_eq_getD_getElem?] at he
      cases ht : a.tmps[d]? with
      | none => rw [ht] at he; simp [undef] at he
      | some v => rw [ht] at he; simp at he; rw [he]
    rw [this]
    simp
theorem flds {d : Option Tmp} {p : Op} {g : Option (Nat × Bool)} (ho : ops[i]? = some o) (h : (ops[i]?).map (fun o => (o.dst, o.op, o.guard)) = some (d, p, g)) : o.dst = d ∧ o.op = p ∧ o.guard = g := by
  rw [ho] at h
  simpa using h
theorem og_plain {g : Option (Nat × Bool)} (ho : ops[i]? = some o) (hg : o.guard = g) (hw : gOk ops a g) (h : Oper.wp Try.prog o a w K Q) : wpOp Try.prog ops Q i K a w := by
  refine wpOp_step ho fun K' hK => ?_
  rw [if_pos (wanted_of hg hw)]
  exact Oper.wp_mono hK h

theorem og_move {g : Option (Nat × Bool)} (ho : ops[i]? = some o) (x : Operand) {d : Option Tmp} (h : (ops[i]?).map (fun o => (o.dst, o.op, o.guard)) = some (d, Op.move x, g)) (hw : gOk ops a g) {v : Value} (hx : a.eval x = v) (hK : K (a.put d v) w) : wpOp Try.prog ops Q i K a w := by
  obtain ⟨h1, h2, h3⟩ := flds ho h
  refine og_plain ho h3 hw ?_
  unfold Oper.wp
  simp [execOp, h2, Oper.upon]
  rw [h1, hx]
  exact hK
theorem og_skip {k : Nat} {b : Bool} (ho : ops[i]? = some o) {d : Option Tmp} (h : (ops[i]?).map (fun o => (o.dst, o.guard)) = some (d, some (k, b))) {t : Nat} (ht : (ops[k]?).bind (·.dst) = some t) (he : a.eval (.tmp t) = .bool (!b)) (hK : K (a.put d undef) w) : wpOp Try.prog ops Q i K a w := by
  rw [ho] at h
  simp only [Option.map_some, Option.some.injEq, Prod.mk.injEq] at h
  obtain ⟨h1, h2⟩ := h
  refine wpOp_step ho fun K' hK' => ?_
  have hn : ¬ (Region.wanted o (yielded ops a.tmps) = true) := by
    unfold Region.wanted
    rw [h2]
    simp only [yielded, ht, Option.bind_some]
    have : a.tmps[t]? = some (.bool (!b)) := by
      simp only [Act.eval, Array.getD_eq_getD_getElem?] at he
      cases hh : a.tmps[t]? with
      | none => rw [hh] at he; simp [undef] at he
      | some v => rw [hh] at he; simp at he; rw [he]
    rw [this]
    cases b <;> simp
  rw [if_neg hn, h1]
  exact hK' _ _ hK
theorem og_assign {g : Option (Nat × Bool)} (ho : ops[i]? = some o) (x : Operand) {d : Option Tmp} (h : (ops[i]?).map (fun o => (o.dst, o.op, o.guard)) = some (d, Op.assign x, g)) (hw : gOk ops a g) {v : Value} (hx : a.eval x = v) (hK : K (a.put d (v)) w) : wpOp Try.prog ops Q i K a w := by
  obtain ⟨h1, h2, h3⟩ := flds ho h
  refine og_plain ho h3 hw ?_
  unfold Oper.wp
  simp [execOp, h2, Oper.upon]
  rw [h1, hx]
  exact hK
theorem og_nil {g : Option (Nat × Bool)} (ho : ops[i]? = some o) (x : Operand) {d : Option Tmp} (h : (ops[i]?).map (fun o => (o.dst, o.op, o.guard)) = some (d, Op.nilCheck x, g)) (hw : gOk ops a g) {p : Addr} (hx : a.eval x = .pointer (some p)) (hK : K (a.put d (.pointer (some p))) w) : wpOp Try.prog ops Q i K a w := by
  obtain ⟨h1, h2, h3⟩ := flds ho h
  refine og_plain ho h3 hw ?_
  unfold Oper.wp
  simp only [execOp, h2, hx]
  go_simp
  exact hK
theorem og_app {g : Option (Nat × Bool)} (ho : ops[i]? = some o) (x y : Operand) (t : TypeId) {d : Option Tmp} (h : (ops[i]?).map (fun o => (o.dst, o.op, o.guard)) = some (d, Op.call { callee := .builtin .append, args := #[x, y], argTypes := #[t, t] }, g)) (hw : gOk ops a g) {v u v' : Value} {w' : World} (hx : a.eval x = v) (hy : a.eval y = u) (hr : ∀ ty, (Builtin.append_ #[t, t] ty #[v, u]).run Try.prog w = .ok v' w') (hK : K (a.put d v') w') : wpOp Try.prog ops Q i K a w := by
  obtain ⟨h1, h2, h3⟩ := flds ho h
  refine og_plain ho h3 hw ?_
  unfold Oper.wp
  simp [execOp, h2, resolve, invoke, builtin, hx, hy, hr, Result.andThen]
  show K (a.put o.dst v') w'
  rw [h1]
  exact hK
end

/-- Does operation k wait for operation j, over others too? -/
def anc (ops : Array Oper) : Nat → Nat → Nat → Bool
  | 0, k, j => k == j
  | f + 1, k, j => k == j || (match ops[k]? with
    | some o => o.after.any (fun e => Region.binds .any e && anc ops f e.on j)
    | none => false)
def Dc (ops : Array Oper) (L : Nat → Prop) : Prop := ∀ (j : Nat) (o : Oper), ops[j]? = some o → L j → ∀ e ∈ o.after, Region.binds .any e = true → L e.on
theorem anc_spec {ops : Array Oper} {L : Nat → Prop} (h : Dc ops L) : ∀ f k j, anc ops f k j = true → L k → L j
  | 0, k, j, ha, hk => by
    simp only [anc, beq_iff_eq] at ha
    exact ha ▸ hk
  | f + 1, k, j, ha, hk => by
    simp only [anc, Bool.or_eq_true, beq_iff_eq] at ha
    rcases ha with rfl | ha
    · exact hk
    · cases ho : ops[k]? with
      | none => rw [ho] at ha; cases ha
      | some o =>
        rw [ho] at ha
        simp only [Array.any_eq_true', Bool.and_eq_true] at ha
        obtain ⟨e, he, hb, hr⟩ := ha
        exact anc_spec h f e.on j hr (h k o ho hk e he hb)
theorem Dc.next {ops : Array Oper} {L L' : Nat → Prop} {i : Nat} {o : Oper} (h : Dc ops L) (ho : ops[i]? = some o) (hall : ∀ e ∈ o.after, Region.binds .any e = true → L e.on) (hu : ∀ j, L' j ↔ (j = i ∨ L j)) : Dc ops L' := by
  intro j oj hj hl e he hb
  rcases (hu j).1 hl with rfl | hl
  · rw [ho] at hj
    injection hj with hj
    subst hj
    exact (hu _).2 (.inr (hall e he hb))
  · exact (hu _).2 (.inr (h j oj hj hl e he hb))

section
variable {ops : Array Oper} {o : Oper} {a : Act} {w : World} {K : Act → World → Prop} {Q : Exit → Act → World → Prop} {i : Nat}
theorem og_call2 {g : Option (Nat × Bool)} (ho : ops[i]? = some o) (f : FuncId) (x y : Operand) (t u : TypeId) {d : Option Tmp} (h : (ops[i]?).map (fun o => (o.dst, o.op, o.guard)) = some (d, Op.call { callee := .value (.func f), args := #[x, y], argTypes := #[t, u] }, g)) (hw : gOk ops a g) {fn : Func} {c : Code} (hf : Try.prog.funcs[f]? = some fn) (hb : fn.body = some c) (hnm : (fn.name == "runtime.NumGoroutine") = false) {R : Ending → World → Prop} (hC : Calls Try.prog f #[a.eval x, a.eval y] w R) (hK : ∀ e w', R e w' → ∃ v, e = .returned v ∧ K (a.put d v) w') : wpOp Try.prog ops Q i K a w := by
  obtain ⟨h1, h2, h3⟩ := flds ho h
  refine og_plain ho h3 hw ?_
  unfold Oper.wp
  have e1 : (execOp a.eval o).run Try.prog w = .ok (.enter f #[a.eval x, a.eval y]) w := by
    simp [execOp, h2, resolve, invoke, Deferred.ofValue, show a.eval (.func f) = .func (.func f) #[] #[] from rfl, callFunc, hf, hb]
    simpa using hnm
  rw [e1]
  show Calls Try.prog f #[a.eval x, a.eval y] w _
  refine hC.mono fun e w' h => ?_
  obtain ⟨v, rfl, hk⟩ := hK e w' h
  rw [h1]
  exact hk
end

/-- Quiet operations have put V j into their slots; W tells of the others, and of the world. -/
structure JR (ops : Array Oper) (σ : Nat → Nat) (D : List Nat) (V : Nat → Option Value) (a0 : Act) (W : (Nat → Prop) → (Nat → Value) → World → Prop) (L : Nat → Prop) (a : Act) (u : World) : Prop where
  fe : Fe a0 a (D.map σ)
  dc : Dc ops L
  e : ∀ j ∈ D, L j → ∀ v, V j = some v → a.eval (.tmp (σ j)) = v
  w : W L (fun j => a.eval (.tmp (σ j))) u
section
variable {ops : Array Oper} {σ : Nat → Nat} {D : List Nat} {V : Nat → Option Value} {a0 : Act} {W : (Nat → Prop) → (Nat → Value) → World → Prop} {L L' : Nat → Prop} {a : Act} {u : World} {i : Nat} {o : Oper}
theorem JR.put (h : JR ops σ D V a0 W L a u) (ho : ops[i]? = some o) (hall : ∀ e ∈ o.after, Region.binds .any e = true → L e.on) (hi : i ∈ D) (hinj : ∀ i ∈ D, ∀ j ∈ D, σ i = σ j → i = j) (hz : ∀ j ∈ D, σ j < a0.tmps.size) (hu : ∀ j, L' j ↔ (j = i ∨ L j)) {v : Value} {u' : World} (hv : ∀ v', V i = some v' → v = v')
    (hW : ∀ val : Nat → Value, val i = v → (∀ j ∈ D, j ≠ i → val j = a.eval (.tmp (σ j))) → W L' val u') : JR ops σ D V a0 W L' (a.put (some (σ i)) v) u' := by
  have e1 : (a.put (some (σ i)) v).eval (.tmp (σ i)) = v := ev_eq _ _ (by rw [h.fe.sz]; exact hz i hi)
  have e2 : ∀ j ∈ D, j ≠ i → (a.put (some (σ i)) v).eval (.tmp (σ j)) = a.eval (.tmp (σ j)) := fun j hj hne => ev_ne _ _ (fun he => hne (hinj j hj i hi he))
  refine ⟨h.fe.put (List.mem_map.2 ⟨i, hi, rfl⟩) _, h.dc.next ho hall hu, fun j hj hl v' hv' => ?_, hW _ e1 e2⟩
  by_cases e : j = i
  · subst e
    rw [e1]
    exact hv v' hv'
  · rw [e2 j hj e]
    exact h.e j hj (((hu j).1 hl).resolve_left e) v' hv'
theorem JR.next (h : JR ops σ D V a0 W L a u) {KL KV : List Nat} (hc : ∀ (L L' : Nat → Prop) (val val' : Nat → Value) u, (∀ k ∈ KL, (L' k ↔ L k)) → (∀ k ∈ KV, val' k = val k) → W L val u → W L' val' u) (hKD : ∀ k ∈ KV, k ∈ D) (ho : ops[i]? = some o) (hall : ∀ e ∈ o.after, Region.binds .any e = true → L e.on) (hi : i ∈ D) (hnL : i ∉ KL) (hnV : i ∉ KV) (hinj : ∀ i ∈ D, ∀ j ∈ D, σ i = σ j → i = j) (hz : ∀ j ∈ D, σ j < a0.tmps.size) (hu : ∀ j, L' j ↔ (j = i ∨ L j)) {v : Value} (hv : V i = some v) : JR ops σ D V a0 W L' (a.put (some (σ i)) v) u := by
  refine h.put ho hall hi hinj hz hu (fun v' hv' => by rw [hv] at hv'; exact Option.some.inj hv') (fun val h1 h2 => ?_)
  refine hc L L' _ val u (fun k hk => ?_) (fun k hk => ?_) h.w
  · rw [hu k]
    exact ⟨fun hh => hh.resolve_left (fun e => hnL (e ▸ hk)), .inr⟩
  · exact h2 k (hKD k hk) (fun e => hnV (e ▸ hk))
theorem JR.eff (h : JR ops σ D V a0 W L a u) (ho : ops[i]? = some o) (hall : ∀ e ∈ o.after, Region.binds .any e = true → L e.on) (hi : i ∉ D) (hu : ∀ j, L' j ↔ (j = i ∨ L j)) {u' : World} (hW : W L' (fun j => a.eval (.tmp (σ j))) u') : JR ops σ D V a0 W L' a u' := by
  refine ⟨h.fe, h.dc.next ho hall hu, fun j hj hl v' hv' => h.e j hj (((hu j).1 hl).resolve_left (fun e => hi (e ▸ hj))) v' hv', hW⟩
theorem JR.done (h : JR ops σ D V a0 W L a u) (hz : ∀ j ∈ D, σ j < a0.tmps.size) : a = puts a0 (D.map fun j => (σ j, a.eval (.tmp (σ j)))) := by
  refine Fe.puts _ a0 a (by rw [List.map_map]; exact h.fe) (fun p hp => ?_)
  obtain ⟨j, hj, rfl⟩ := List.mem_map.1 hp
  exact ⟨hz j hj, rfl⟩
theorem JR.start {w0 : World} (hL : ∀ i, ¬ L i) (hW : W L (fun j => a0.eval (.tmp (σ j))) w0) : JR ops σ D V a0 W L a0 w0 :=
  ⟨Fe.refl _ _, fun j o _ hl => absurd hl (hL _), fun j _ h => absurd h (hL _), hW⟩
end

end Go.Proofs.Ytkkklfnooeofcab
