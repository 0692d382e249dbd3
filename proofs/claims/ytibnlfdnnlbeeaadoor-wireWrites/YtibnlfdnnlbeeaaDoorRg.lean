/-
  A region whose order is drawn, by one assertion on what has come up.
-/
import Derived.Test.YtibnlfdnnlbeeaaDoorXe
namespace Go.Proofs.YtibnlfdnnlbeeaaDoor
open Go.RowKit
set_option linter.unusedVariables false

section
variable {P : Program} {md : Region.Mode} {ops : Array Oper} {Q : Exit → Act → World → Prop}

theorem count_set {l : List Bool} : ∀ {i : Nat}, l[i]? = some false → (l.set i true).count false + 1 = l.count false := by
  induction l with
  | nil => intro i h; simp at h
  | cons b l ih =>
    intro i h
    cases i with
    | zero =>
      simp at h
      subst h
      simp
    | succ i =>
      have := ih (i := i) (by simpa using h)
      simp only [List.set_cons_succ, List.count_cons]
      omega

theorem getD_false {a : Array Bool} {i : Nat} (h : a.getD i true = false) : a.toList[i]? = some false ∧ i < a.size := by
  by_cases hi : i < a.size
  · refine ⟨?_, hi⟩
    simp [Array.getD, hi] at h
    simp [hi, h]
  · simp [Array.getD, hi] at h

/-- Whatever the order: an assertion on what has come up so far, kept by each operation. -/
theorem wpAny_inv (I : Array Bool → Act → World → Prop)
    (hs : ∀ listed a w (i : Nat) (o : Oper), I listed a w → ops[i]? = some o → listed.getD i true = false → (∀ e ∈ o.after, Region.binds md e = true → listed.getD e.on false = true) → wpOp P ops Q i (I (listed.setIfInBounds i true)) a w)
    (he : ∀ listed a w, I listed a w → (∀ (i : Nat) (o : Oper), ops[i]? = some o → listed.getD i true = false → ¬ (∀ e ∈ o.after, Region.binds md e = true → listed.getD e.on false = true)) → Q .normal a w) :
    ∀ fuel listed a w, listed.toList.count false ≤ fuel → I listed a w → wpAny P md ops Q fuel listed a w := by
  have hend : ∀ listed a w, I listed a w → Region.ready md ops listed = [] → Q .normal a w := fun listed a w hI hr => he listed a w hI fun i o ho hu hall => by
    have : i ∈ Region.ready md ops listed := mem_ready.2 ⟨hu, o, ho, hall⟩
    rw [hr] at this
    cases this
  intro fuel
  induction fuel with
  | zero =>
    intro listed a w hc hI
    have hr : Region.ready md ops listed = [] := by
      cases h : Region.ready md ops listed with
      | nil => rfl
      | cons i l =>
        have hi : i ∈ Region.ready md ops listed := by rw [h]; simp
        have h1 := (getD_false (mem_ready.1 hi).1).1
        have h2 := count_set h1
        omega
    exact ⟨hr, hend _ _ _ hI hr⟩
  | succ fuel ih =>
    intro listed a w hc hI
    refine ⟨hend _ _ _ hI, fun i hi => ?_⟩
    obtain ⟨hu, o, ho, hall⟩ := mem_ready.1 hi
    refine wpOp_mono (fun a' w' h' => ih _ a' w' ?_ h') (hs listed a w i o hI ho hu hall)
    have h1 := count_set (getD_false hu).1
    rw [Array.toList_setIfInBounds]
    omega

/-- The region's operations in their order: each waits for earlier ones alone. -/
def Earlier (ops : Array Oper) : Prop := ∀ (i : Nat) (o : Oper), ops[i]? = some o → ∀ e ∈ o.after, Region.binds .any e = true → e.on < i

theorem all_listed (hT : Earlier ops) {listed : Array Bool} (hz : listed.size = ops.size)
    (h : ∀ (i : Nat) (o : Oper), ops[i]? = some o → listed.getD i true = false → ¬ (∀ e ∈ o.after, Region.binds .any e = true → listed.getD e.on false = true)) :
    ∀ i, i < ops.size → listed.getD i false = true := by
  intro i
  induction i using Nat.strongRecOn with
  | _ i ih =>
    intro hi
    have hl : i < listed.size := by omega
    cases hb : listed[i] with
    | true => simp [Array.getD, hl, hb]
    | false =>
      exfalso
      refine h i ops[i] (by simp [hi]) (by simp [Array.getD, hl, hb]) fun e he hb => ?_
      have h1 := hT i ops[i] (by simp [hi]) e he hb
      exact ih e.on h1 (by omega)

theorem wp_region_inv {id : Nat} {a : Act} {w : World} (hm : P.follows .mixedOrders = true) (hT : Earlier ops) (I : (Nat → Prop) → Act → World → Prop)
    (hs : ∀ (L L' : Nat → Prop) a w (i : Nat) (o : Oper), I L a w → ops[i]? = some o → ¬ L i → (∀ e ∈ o.after, Region.binds .any e = true → L e.on) → (∀ j, L' j ↔ (j = i ∨ L j)) → wpOp P ops Q i (I L') a w)
    (he : ∀ (L : Nat → Prop) a w, I L a w → (∀ i, i < ops.size → L i) → Q .normal a w)
    (h0 : ∀ L : Nat → Prop, (∀ i, ¬ L i) → I L a w.drew) : (Code.region id ops true).wp P Q a w := by
  refine wp_region_any hm (wpAny_inv (fun listed a w => listed.size = ops.size ∧ I (fun i => listed.getD i false = true) a w) ?_ ?_ ops.size _ a _ ?_ ⟨by simp, h0 _ ?_⟩)
  · rintro listed a w i o ⟨hz, hI⟩ ho hu hall
    have hi := (getD_false hu).2
    refine wpOp_mono (fun a' w' h' => ⟨by simpa using hz, h'⟩) (hs _ _ a w i o hI ho ?_ hall ?_)
    · simp [Array.getD, hi] at hu ⊢
      exact hu
    · intro j
      by_cases hj : j = i
      · subst hj
        simp [Array.getD, hi]
      · simp only [hj, false_or]
        have : (listed.setIfInBounds i true).getD j false = listed.getD j false := by
          rw [Array.getD_eq_getD_getElem?, Array.getD_eq_getD_getElem?, Array.getElem?_setIfInBounds_ne (Ne.symm hj)]
        rw [this]
  · rintro listed a w ⟨hz, hI⟩ h
    exact he _ a w hI (all_listed hT hz h)
  · simp
  · intro i
    by_cases hi : i < ops.size <;> simp [Array.getD, hi]
end

/-! ### The frame -/
theorem ev_ne (a : Act) {d t : Nat} (v : Value) (h : t ≠ d) : (a.put (some d) v).eval (.tmp t) = a.eval (.tmp t) :=
  Act.eval_put (fun d' hd' => by injection hd' with e; subst e; intro he; injection he with he; exact h he)
theorem ev_eq (a : Act) {d : Nat} (v : Value) (h : d < a.tmps.size) : (a.put (some d) v).eval (.tmp d) = v := by simp [Act.eval, Act.put, h]

/-- All but the slots of D is as it was. -/
structure Fe (a a' : Act) (D : List Nat) : Prop where
  df : a'.defers = a.defers
  sz : a'.tmps.size = a.tmps.size
  eq : ∀ j, j ∉ D → a'.tmps[j]? = a.tmps[j]?
theorem Fe.refl (a : Act) (D : List Nat) : Fe a a D := ⟨rfl, rfl, fun _ _ => rfl⟩
theorem Fe.put {a a' : Act} {D : List Nat} (h : Fe a a' D) {d : Nat} (hd : d ∈ D) (v : Value) : Fe a (a'.put (some d) v) D :=
  ⟨h.df, by simp [Act.put, h.sz], fun j hj => by
    have hn : d ≠ j := fun e => hj (e ▸ hd)
    simp only [Act.put]
    rw [Array.getElem?_setIfInBounds_ne hn]
    exact h.eq j hj⟩
theorem Fe.ev {a a' : Act} {D : List Nat} (h : Fe a a' D) {j : Nat} (hj : j ∉ D) : a'.eval (.tmp j) = a.eval (.tmp j) := by
  simp only [Act.eval, Array.getD_eq_getD_getElem?, h.eq j hj]

def puts (a : Act) (l : List (Nat × Value)) : Act := l.foldl (fun a p => a.put (some p.1) p.2) a
theorem Fe.puts : ∀ (l : List (Nat × Value)) (a a' : Act), Fe a a' (l.map (·.1)) → (∀ p ∈ l, p.1 < a.tmps.size ∧ a'.eval (.tmp p.1) = p.2) → a' = puts a l
  | [], a, a', h, _ => by
    obtain ⟨t', d'⟩ := a'
    obtain ⟨t, d⟩ := a
    have h1 : d' = d := h.df
    have h2 : t' = t := Array.ext_getElem? (fun i => h.eq i (by simp))
    subst h1 h2
    rfl
  | p :: l, a, a', h, hp => by
    refine Fe.puts l (a.put (some p.1) p.2) a' ⟨h.df, by simp [Act.put, h.sz], fun j hj => ?_⟩ (fun x hx => ⟨by simpa [Act.put] using (hp x (by simp [hx])).1, (hp x (by simp [hx])).2⟩)
    by_cases e : j = p.1
    · subst e
      obtain ⟨h1, h2⟩ := hp p (by simp)
      have h3 : p.1 < a'.tmps.size := by rw [h.sz]; exact h1
      simp [Act.eval, h3] at h2
      simp [Act.put, h1, h3, h2]
    · simp only [Act.put]
      rw [Array.getElem?_setIfInBounds_ne (Ne.symm e)]
      exact h.eq j (by simp [e, hj])

def opsAt (n : Nat) : Code → Option (Array Oper)
  | .region k ops _ => if k = n then some ops else none
  | .seq a b => (opsAt n a).orElse fun _ => opsAt n b
  | .block _ c => opsAt n c
  | .scope c => opsAt n c
  | .cond _ a b => (opsAt n a).orElse fun _ => opsAt n b
  | .loop c => opsAt n c
  | _ => none
section
variable {P : Program} {ops : Array Oper} {o : Oper} {a : Act} {w : World} {K : Act → World → Prop} {Q : Exit → Act → World → Prop} {i : Nat}

theorem fields {d : Option Tmp} {p : Op} (ho : ops[i]? = some o) (h : (ops[i]?).map (fun o => (o.dst, o.op, o.guard)) = some (d, p, none)) : o.dst = d ∧ o.op = p ∧ o.guard = none := by
  rw [ho] at h
  simpa using h
theorem dep {L : Nat → Prop} (ho : ops[i]? = some o) (hall : ∀ e ∈ o.after, Region.binds .any e = true → L e.on) (k : Nat) (h : (ops[i]?).map (fun o => o.after.any (fun e => Region.binds .any e && e.on == k)) = some true) : L k := by
  rw [ho] at h
  simp only [Option.map_some, Option.some.injEq, Array.any_eq_true'] at h
  obtain ⟨e, he, hb⟩ := h
  simp only [Bool.and_eq_true, beq_iff_eq] at hb
  exact hb.2 ▸ hall e he hb.1

theorem op_plain (ho : ops[i]? = some o) (hg : o.guard = none) (h : Oper.wp P o a w K Q) : wpOp P ops Q i K a w := by
  refine wpOp_step ho fun K' hK => ?_
  have hw : Region.wanted o (yielded ops a.tmps) = true := by simp [Region.wanted, hg]
  rw [if_pos hw]
  exact Oper.wp_mono hK h

theorem op_move (ho : ops[i]? = some o) (x : Operand) {d : Option Tmp} (h : (ops[i]?).map (fun o => (o.dst, o.op, o.guard)) = some (d, Op.move x, none)) (hK : K (a.put d (a.eval x)) w) : wpOp P ops Q i K a w := by
  obtain ⟨h1, h2, h3⟩ := fields ho h
  refine op_plain ho h3 ?_
  unfold Oper.wp
  simp [execOp, h2, Oper.upon]
  rw [h1]
  exact hK
theorem op_assign (ho : ops[i]? = some o) (x : Operand) {d : Option Tmp} (h : (ops[i]?).map (fun o => (o.dst, o.op, o.guard)) = some (d, Op.assign x, none)) (hK : K (a.put d (a.eval x)) w) : wpOp P ops Q i K a w := by
  obtain ⟨h1, h2, h3⟩ := fields ho h
  refine op_plain ho h3 ?_
  unfold Oper.wp
  simp [execOp, h2, Oper.upon]
  rw [h1]
  exact hK
theorem op_call (ho : ops[i]? = some o) (f : FuncId) (x : Operand) (t : TypeId) {d : Option Tmp} (h : (ops[i]?).map (fun o => (o.dst, o.op, o.guard)) = some (d, Op.call { callee := .value (.func f), args := #[x], argTypes := #[t] }, none)) {fn : Func} {c : Code} (hf : P.funcs[f]? = some fn) (hb : fn.body = some c) (hnm : (fn.name == "runtime.NumGoroutine") = false) {R : Ending → World → Prop} (hC : Calls P f #[a.eval x] w R) (hK : ∀ e w', R e w' → ∃ v, e = .returned v ∧ K (a.put d v) w') : wpOp P ops Q i K a w := by
  obtain ⟨h1, h2, h3⟩ := fields ho h
  refine op_plain ho h3 ?_
  unfold Oper.wp
  have e1 : (execOp a.eval o).run P w = .ok (.enter f #[a.eval x]) w := by
    simp [execOp, h2, resolve, invoke, Deferred.ofValue, show a.eval (.func f) = .func (.func f) #[] #[] from rfl, callFunc, hf, hb]
    simpa using hnm
  rw [e1]
  show Calls P f #[a.eval x] w _
  refine hC.mono fun e w' h => ?_
  obtain ⟨v, rfl, hk⟩ := hK e w' h
  rw [h1]
  exact hk
end


noncomputable def ops16 : Array Oper := (Tryd.f32.body.bind (opsAt 16)).getD #[]
theorem ops16_size : ops16.size = 9 := by kernel_rfl
theorem ops16_earlier : Earlier ops16 := by
  have h : (List.range 9).all (fun i => ((ops16[i]?).map (fun o => o.after.all (fun e => !Region.binds .any e || decide (e.on < i)))).getD true) = true := by kernel_rfl
  intro i o ho e he hb
  have hi : i < 9 := by
    have := (Array.getElem?_eq_some_iff.1 ho).1
    rwa [ops16_size] at this
  have h1 := List.all_eq_true.1 h i (List.mem_range.2 hi)
  rw [ho] at h1
  simp only [Option.map_some, Option.getD_some, Array.all_eq_true'] at h1
  have h2 := h1 e he
  rw [hb] at h2
  simpa using h2

theorem op_index {ops : Array Oper} {o : Oper} {a : Act} {w : World} {K : Act → World → Prop} {Q : Exit → Act → World → Prop} {i : Nat} (ho : ops[i]? = some o) (x y : Operand) {d : Option Tmp} (h : (ops[i]?).map (fun o => (o.dst, o.op, o.guard)) = some (d, Op.indexAddr 60 x y, none)) {b k len cap : Nat} (hx : a.eval x = .slice (some ⟨b, 0, none⟩) len cap) (hy : a.eval y = .int .i64 (k : Nat)) (hk : k < len) (hK : K (a.put d (.pointer (some ⟨b, k, none⟩))) w) : wpOp Tryd.prog ops Q i K a w := by
  obtain ⟨h1, h2, h3⟩ := fields ho h
  refine op_plain ho h3 ?_
  have i1 : (k : Int) < (len : Int) := by omega
  have i0 : (0 : Int) ≤ (k : Int) := by omega
  unfold Oper.wp
  simp only [execOp, h2, hx, hy]
  go_simp
  exact hK
theorem op_loadI {ops : Array Oper} {o : Oper} {a : Act} {w : World} {K : Act → World → Prop} {Q : Exit → Act → World → Prop} {i : Nat} (ho : ops[i]? = some o) (x : Operand) {d : Option Tmp} (h : (ops[i]?).map (fun o => (o.dst, o.op, o.guard)) = some (d, Op.load 3 x, none)) {b k : Nat} {v : Int} (hx : a.eval x = .pointer (some ⟨b, k, none⟩)) (hc : w.cell? ⟨b, k, none⟩ = some (.int .i64 v)) (hK : K (a.put d (.int .i64 v)) w) : wpOp Tryd.prog ops Q i K a w := by
  obtain ⟨h1, h2, h3⟩ := fields ho h
  refine op_plain ho h3 ?_
  unfold Oper.wp
  simp only [execOp, h2, hx]
  go_simp
  exact hK
theorem op_loadM {ops : Array Oper} {o : Oper} {a : Act} {w : World} {K : Act → World → Prop} {Q : Exit → Act → World → Prop} {i : Nat} (ho : ops[i]? = some o) (x : Operand) {d : Option Tmp} (h : (ops[i]?).map (fun o => (o.dst, o.op, o.guard)) = some (d, Op.load 63 x, none)) {b : Nat} {M : Nat → Int} (hx : a.eval x = .pointer (some ⟨b, 0, none⟩)) (hm : MB w b M) (hK : K (a.put d (.agg #[.int .i64 (M 0), .int .i64 (M 1), .int .i64 (M 2), .int .i64 (M 3), .int .i64 (M 4), .int .i64 (M 5), .int .i64 (M 6), .int .i64 (M 7), .int .i64 (M 8), .int .i64 (M 9), .int .i64 (M 10), .int .u8 (M 11), .int .i64 (M 12), .int .i64 (M 13)])) w) : wpOp Tryd.prog ops Q i K a w := by
  obtain ⟨h1, h2, h3⟩ := fields ho h
  refine op_plain ho h3 ?_
  obtain ⟨c0, c1, c2, c3, c4, c5, c6, c7, c8, c9, c10, c11, c12, c13⟩ := hm.at
  have lm := block_lt hm
  unfold Oper.wp
  simp only [execOp, h2, hx]
  go_simp
  exact hK
theorem op_storeM {ops : Array Oper} {o : Oper} {a : Act} {w : World} {K : Act → World → Prop} {Q : Exit → Act → World → Prop} {i : Nat} (ho : ops[i]? = some o) (x y : Operand) (h : (ops[i]?).map (fun o => (o.dst, o.op, o.guard)) = some (none, Op.store 63 x y, none)) {b : Nat} {M U : Nat → Int} (hx : a.eval x = .pointer (some ⟨b, 0, none⟩)) (hy : a.eval y = .agg #[.int .i64 (U 0), .int .i64 (U 1), .int .i64 (U 2), .int .i64 (U 3), .int .i64 (U 4), .int .i64 (U 5), .int .i64 (U 6), .int .i64 (U 7), .int .i64 (U 8), .int .i64 (U 9), .int .i64 (U 10), .int .u8 (U 11), .int .i64 (U 12), .int .i64 (U 13)]) (hm : MB w b M) (hK : K a ((((((((((((((w.setCell ⟨b, 0, none⟩ (.int .i64 (U 0))).setCell ⟨b, 1, none⟩ (.int .i64 (U 1))).setCell ⟨b, 2, none⟩ (.int .i64 (U 2))).setCell ⟨b, 3, none⟩ (.int .i64 (U 3))).setCell ⟨b, 4, none⟩ (.int .i64 (U 4))).setCell ⟨b, 5, none⟩ (.int .i64 (U 5))).setCell ⟨b, 6, none⟩ (.int .i64 (U 6))).setCell ⟨b, 7, none⟩ (.int .i64 (U 7))).setCell ⟨b, 8, none⟩ (.int .i64 (U 8))).setCell ⟨b, 9, none⟩ (.int .i64 (U 9))).setCell ⟨b, 10, none⟩ (.int .i64 (U 10))).setCell ⟨b, 11, none⟩ (.int .u8 (U 11))).setCell ⟨b, 12, none⟩ (.int .i64 (U 12))).setCell ⟨b, 13, none⟩ (.int .i64 (U 13)))) : wpOp Tryd.prog ops Q i K a w := by
  obtain ⟨h1, h2, h3⟩ := fields ho h
  refine op_plain ho h3 ?_
  obtain ⟨c0, c1, c2, c3, c4, c5, c6, c7, c8, c9, c10, c11, c12, c13⟩ := hm.at
  have g0 := frozen_row hm 0
  have g1 := frozen_row hm 1
  have g2 := frozen_row hm 2
  have g3 := frozen_row hm 3
  have g4 := frozen_row hm 4
  have g5 := frozen_row hm 5
  have g6 := frozen_row hm 6
  have g7 := frozen_row hm 7
  have g8 := frozen_row hm 8
  have g9 := frozen_row hm 9
  have g10 := frozen_row hm 10
  have g11 := frozen_row hm 11
  have g12 := frozen_row hm 12
  have g13 := frozen_row hm 13
  have lm := block_lt hm
  unfold Oper.wp
  simp only [execOp, h2, hx, hy]
  clear hx hy h2 h3
  go_simp
  exact hK

/-- What has come up of region 16. -/
structure I16 (a0 : Act) (wd wz : World) (M : Nat → Int) (lb len q : Nat) (f P : Int) (L : Nat → Prop) (a : Act) (w : World) : Prop where
  fe : Fe a0 a [73, 74, 75, 76, 77, 78, 9, 10]
  e0 : L 0 → a.eval (.tmp 73) = .agg #[.int .i64 (M 0), .int .i64 (M 1), .int .i64 (M 2), .int .i64 (M 3), .int .i64 (M 4), .int .i64 (M 5), .int .i64 (M 6), .int .i64 (M 7), .int .i64 (M 8), .int .i64 (M 9), .int .i64 (M 10), .int .u8 (M 11), .int .i64 (M 12), .int .i64 (M 13)]
  e1 : L 1 → a.eval (.tmp 74) = .slice (some ⟨lb, 0, none⟩) len len
  e2 : L 2 → a.eval (.tmp 75) = .int .i64 (q : Nat)
  e3 : L 3 → a.eval (.tmp 76) = .pointer (some ⟨lb, q, none⟩)
  e4 : L 4 → a.eval (.tmp 77) = .int .i64 f
  e5 : L 5 → a.eval (.tmp 78) = .int .i64 P
  e7 : L 7 → a.eval (.tmp 9) = .int .i64 f
  e8 : L 8 → a.eval (.tmp 10) = .int .i64 P
  wa : ¬ L 6 → w = wd
  wb : L 6 → w = wz

set_option maxRecDepth 100000 in
set_option maxHeartbeats 4000000 in
theorem read_region16 (a0 : Act) (w : World) {K : Act → World → Prop} {Q' : Exit → Act → World → Prop} (M : Nat → Int) (lb len q mb rb : Nat) (f P : Int)
    (h11 : a0.eval (.tmp 11) = .pointer (some ⟨mb, 0, none⟩)) (h1 : a0.eval (.tmp 1) = .slice (some ⟨lb, 0, none⟩) len len) (h15 : a0.eval (.tmp 15) = .int .i64 (q : Nat)) (h12 : a0.eval (.tmp 12) = .int .i64 P) (h8 : a0.eval (.tmp 8) = .pointer (some ⟨rb, 0, none⟩)) (hz : 79 ≤ a0.tmps.size) (hq : q < len)
    (hm : MB w.drew mb M) (hr : MB w.drew rb (fun _ => 0)) (hc : w.drew.cell? ⟨lb, q, none⟩ = some (.int .i64 f)) (hc2 : ((((((((((((((w.drew.setCell ⟨rb, 0, none⟩ (.int .i64 (M 0))).setCell ⟨rb, 1, none⟩ (.int .i64 (M 1))).setCell ⟨rb, 2, none⟩ (.int .i64 (M 2))).setCell ⟨rb, 3, none⟩ (.int .i64 (M 3))).setCell ⟨rb, 4, none⟩ (.int .i64 (M 4))).setCell ⟨rb, 5, none⟩ (.int .i64 (M 5))).setCell ⟨rb, 6, none⟩ (.int .i64 (M 6))).setCell ⟨rb, 7, none⟩ (.int .i64 (M 7))).setCell ⟨rb, 8, none⟩ (.int .i64 (M 8))).setCell ⟨rb, 9, none⟩ (.int .i64 (M 9))).setCell ⟨rb, 10, none⟩ (.int .i64 (M 10))).setCell ⟨rb, 11, none⟩ (.int .u8 (M 11))).setCell ⟨rb, 12, none⟩ (.int .i64 (M 12))).setCell ⟨rb, 13, none⟩ (.int .i64 (M 13))).cell? ⟨lb, q, none⟩ = some (.int .i64 f))
    (hK : ∀ v73 v74 v75 v76 v77 v78, K (puts a0 [(73, v73), (74, v74), (75, v75), (76, v76), (77, v77), (78, v78), (9, .int .i64 f), (10, .int .i64 P)]) ((((((((((((((w.drew.setCell ⟨rb, 0, none⟩ (.int .i64 (M 0))).setCell ⟨rb, 1, none⟩ (.int .i64 (M 1))).setCell ⟨rb, 2, none⟩ (.int .i64 (M 2))).setCell ⟨rb, 3, none⟩ (.int .i64 (M 3))).setCell ⟨rb, 4, none⟩ (.int .i64 (M 4))).setCell ⟨rb, 5, none⟩ (.int .i64 (M 5))).setCell ⟨rb, 6, none⟩ (.int .i64 (M 6))).setCell ⟨rb, 7, none⟩ (.int .i64 (M 7))).setCell ⟨rb, 8, none⟩ (.int .i64 (M 8))).setCell ⟨rb, 9, none⟩ (.int .i64 (M 9))).setCell ⟨rb, 10, none⟩ (.int .i64 (M 10))).setCell ⟨rb, 11, none⟩ (.int .u8 (M 11))).setCell ⟨rb, 12, none⟩ (.int .i64 (M 12))).setCell ⟨rb, 13, none⟩ (.int .i64 (M 13)))) :
    (Code.region 16 ops16 true).wp Tryd.prog (Exit.then K Q') a0 w := by
  refine wp_region_inv (by kernel_rfl) ops16_earlier (fun L a u => I16 a0 w.drew ((((((((((((((w.drew.setCell ⟨rb, 0, none⟩ (.int .i64 (M 0))).setCell ⟨rb, 1, none⟩ (.int .i64 (M 1))).setCell ⟨rb, 2, none⟩ (.int .i64 (M 2))).setCell ⟨rb, 3, none⟩ (.int .i64 (M 3))).setCell ⟨rb, 4, none⟩ (.int .i64 (M 4))).setCell ⟨rb, 5, none⟩ (.int .i64 (M 5))).setCell ⟨rb, 6, none⟩ (.int .i64 (M 6))).setCell ⟨rb, 7, none⟩ (.int .i64 (M 7))).setCell ⟨rb, 8, none⟩ (.int .i64 (M 8))).setCell ⟨rb, 9, none⟩ (.int .i64 (M 9))).setCell ⟨rb, 10, none⟩ (.int .i64 (M 10))).setCell ⟨rb, 11, none⟩ (.int .u8 (M 11))).setCell ⟨rb, 12, none⟩ (.int .i64 (M 12))).setCell ⟨rb, 13, none⟩ (.int .i64 (M 13))) M lb len q f P L a u ∧ (L 6 → L 0)) ?_ ?_ ?_
  · rintro L L' x u i o ⟨h, h60⟩ ho hno hall hu
    have hzx : 79 ≤ x.tmps.size := by rw [h.fe.sz]; exact hz
    have q11 := (h.fe.ev (j := 11) (by decide)).trans h11
    have q1 := (h.fe.ev (j := 1) (by decide)).trans h1
    have q15 := (h.fe.ev (j := 15) (by decide)).trans h15
    have q12 := (h.fe.ev (j := 12) (by decide)).trans h12
    have q8 := (h.fe.ev (j := 8) (by decide)).trans h8
    have hi : i < 9 := by
      have := (Array.getElem?_eq_some_iff.1 ho).1
      rwa [ops16_size] at this
    have up : ∀ j, j ≠ i → (L' j ↔ L j) := fun j hj => by rw [hu j]; simp [hj]
    have h60' : L' 6 → L' 0 := fun hl => by
      rcases (hu 6).1 hl with rfl | hl
      · exact (hu 0).2 (.inr (dep ho hall 0 (by kernel_rfl)))
      · exact (hu 0).2 (.inr (h60 hl))
    have cw : ∀ u, I16 a0 w.drew ((((((((((((((w.drew.setCell ⟨rb, 0, none⟩ (.int .i64 (M 0))).setCell ⟨rb, 1, none⟩ (.int .i64 (M 1))).setCell ⟨rb, 2, none⟩ (.int .i64 (M 2))).setCell ⟨rb, 3, none⟩ (.int .i64 (M 3))).setCell ⟨rb, 4, none⟩ (.int .i64 (M 4))).setCell ⟨rb, 5, none⟩ (.int .i64 (M 5))).setCell ⟨rb, 6, none⟩ (.int .i64 (M 6))).setCell ⟨rb, 7, none⟩ (.int .i64 (M 7))).setCell ⟨rb, 8, none⟩ (.int .i64 (M 8))).setCell ⟨rb, 9, none⟩ (.int .i64 (M 9))).setCell ⟨rb, 10, none⟩ (.int .i64 (M 10))).setCell ⟨rb, 11, none⟩ (.int .u8 (M 11))).setCell ⟨rb, 12, none⟩ (.int .i64 (M 12))).setCell ⟨rb, 13, none⟩ (.int .i64 (M 13))) M lb len q f P L x u → u.cell? ⟨lb, q, none⟩ = some (.int .i64 f) := fun u h => by
      by_cases hl : L 6
      · rw [h.wb hl]; exact hc2
      · rw [h.wa hl]; exact hc
    refine wpOp_mono (fun a' w' h' => ⟨h', h60'⟩) ?_
    match i, hi with
    | 0, _ =>
      have d : ¬ L 6 := fun x => hno (h60 x)
      have hw := h.wa d
      subst hw
      refine op_loadM ho (.tmp 11) (d := some 73) (by kernel_rfl) q11 hm ?_
      exact ⟨h.fe.put (by decide) _, fun _ => ev_eq _ _ (by omega), fun hl => (ev_ne _ _ (by decide)).trans (h.e1 ((up 1 (by decide)).1 hl)), fun hl => (ev_ne _ _ (by decide)).trans (h.e2 ((up 2 (by decide)).1 hl)), fun hl => (ev_ne _ _ (by decide)).trans (h.e3 ((up 3 (by decide)).1 hl)), fun hl => (ev_ne _ _ (by decide)).trans (h.e4 ((up 4 (by decide)).1 hl)), fun hl => (ev_ne _ _ (by decide)).trans (h.e5 ((up 5 (by decide)).1 hl)), fun hl => (ev_ne _ _ (by decide)).trans (h.e7 ((up 7 (by decide)).1 hl)), fun hl => (ev_ne _ _ (by decide)).trans (h.e8 ((up 8 (by decide)).1 hl)), fun hn => h.wa (fun x => hn ((up 6 (by decide)).2 x)), fun hl => h.wb ((up 6 (by decide)).1 hl)⟩
    | 1, _ =>
      refine op_move ho (.tmp 1) (d := some 74) (by kernel_rfl) ?_
      rw [q1]
      exact ⟨h.fe.put (by decide) _, fun hl => (ev_ne _ _ (by decide)).trans (h.e0 ((up 0 (by decide)).1 hl)), fun _ => ev_eq _ _ (by omega), fun hl => (ev_ne _ _ (by decide)).trans (h.e2 ((up 2 (by decide)).1 hl)), fun hl => (ev_ne _ _ (by decide)).trans (h.e3 ((up 3 (by decide)).1 hl)), fun hl => (ev_ne _ _ (by decide)).trans (h.e4 ((up 4 (by decide)).1 hl)), fun hl => (ev_ne _ _ (by decide)).trans (h.e5 ((up 5 (by decide)).1 hl)), fun hl => (ev_ne _ _ (by decide)).trans (h.e7 ((up 7 (by decide)).1 hl)), fun hl => (ev_ne _ _ (by decide)).trans (h.e8 ((up 8 (by decide)).1 hl)), fun hn => h.wa (fun x => hn ((up 6 (by decide)).2 x)), fun hl => h.wb ((up 6 (by decide)).1 hl)⟩
    | 2, _ =>
      refine op_move ho (.tmp 15) (d := some 75) (by kernel_rfl) ?_
      rw [q15]
      exact ⟨h.fe.put (by decide) _, fun hl => (ev_ne _ _ (by decide)).trans (h.e0 ((up 0 (by decide)).1 hl)), fun hl => (ev_ne _ _ (by decide)).trans (h.e1 ((up 1 (by decide)).1 hl)), fun _ => ev_eq _ _ (by omega), fun hl => (ev_ne _ _ (by decide)).trans (h.e3 ((up 3 (by decide)).1 hl)), fun hl => (ev_ne _ _ (by decide)).trans (h.e4 ((up 4 (by decide)).1 hl)), fun hl => (ev_ne _ _ (by decide)).trans (h.e5 ((up 5 (by decide)).1 hl)), fun hl => (ev_ne _ _ (by decide)).trans (h.e7 ((up 7 (by decide)).1 hl)), fun hl => (ev_ne _ _ (by decide)).trans (h.e8 ((up 8 (by decide)).1 hl)), fun hn => h.wa (fun x => hn ((up 6 (by decide)).2 x)), fun hl => h.wb ((up 6 (by decide)).1 hl)⟩
    | 3, _ =>
      refine op_index ho (.tmp 74) (.tmp 75) (d := some 76) (by kernel_rfl) (h.e1 (dep ho hall 1 (by kernel_rfl))) (h.e2 (dep ho hall 2 (by kernel_rfl))) hq ?_
      exact ⟨h.fe.put (by decide) _, fun hl => (ev_ne _ _ (by decide)).trans (h.e0 ((up 0 (by decide)).1 hl)), fun hl => (ev_ne _ _ (by decide)).trans (h.e1 ((up 1 (by decide)).1 hl)), fun hl => (ev_ne _ _ (by decide)).trans (h.e2 ((up 2 (by decide)).1 hl)), fun _ => ev_eq _ _ (by omega), fun hl => (ev_ne _ _ (by decide)).trans (h.e4 ((up 4 (by decide)).1 hl)), fun hl => (ev_ne _ _ (by decide)).trans (h.e5 ((up 5 (by decide)).1 hl)), fun hl => (ev_ne _ _ (by decide)).trans (h.e7 ((up 7 (by decide)).1 hl)), fun hl => (ev_ne _ _ (by decide)).trans (h.e8 ((up 8 (by decide)).1 hl)), fun hn => h.wa (fun x => hn ((up 6 (by decide)).2 x)), fun hl => h.wb ((up 6 (by decide)).1 hl)⟩
    | 4, _ =>
      refine op_loadI ho (.tmp 76) (d := some 77) (by kernel_rfl) (h.e3 (dep ho hall 3 (by kernel_rfl))) (cw u h) ?_
      exact ⟨h.fe.put (by decide) _, fun hl => (ev_ne _ _ (by decide)).trans (h.e0 ((up 0 (by decide)).1 hl)), fun hl => (ev_ne _ _ (by decide)).trans (h.e1 ((up 1 (by decide)).1 hl)), fun hl => (ev_ne _ _ (by decide)).trans (h.e2 ((up 2 (by decide)).1 hl)), fun hl => (ev_ne _ _ (by decide)).trans (h.e3 ((up 3 (by decide)).1 hl)), fun _ => ev_eq _ _ (by omega), fun hl => (ev_ne _ _ (by decide)).trans (h.e5 ((up 5 (by decide)).1 hl)), fun hl => (ev_ne _ _ (by decide)).trans (h.e7 ((up 7 (by decide)).1 hl)), fun hl => (ev_ne _ _ (by decide)).trans (h.e8 ((up 8 (by decide)).1 hl)), fun hn => h.wa (fun x => hn ((up 6 (by decide)).2 x)), fun hl => h.wb ((up 6 (by decide)).1 hl)⟩
    | 5, _ =>
      refine op_move ho (.tmp 12) (d := some 78) (by kernel_rfl) ?_
      rw [q12]
      exact ⟨h.fe.put (by decide) _, fun hl => (ev_ne _ _ (by decide)).trans (h.e0 ((up 0 (by decide)).1 hl)), fun hl => (ev_ne _ _ (by decide)).trans (h.e1 ((up 1 (by decide)).1 hl)), fun hl => (ev_ne _ _ (by decide)).trans (h.e2 ((up 2 (by decide)).1 hl)), fun hl => (ev_ne _ _ (by decide)).trans (h.e3 ((up 3 (by decide)).1 hl)), fun hl => (ev_ne _ _ (by decide)).trans (h.e4 ((up 4 (by decide)).1 hl)), fun _ => ev_eq _ _ (by omega), fun hl => (ev_ne _ _ (by decide)).trans (h.e7 ((up 7 (by decide)).1 hl)), fun hl => (ev_ne _ _ (by decide)).trans (h.e8 ((up 8 (by decide)).1 hl)), fun hn => h.wa (fun x => hn ((up 6 (by decide)).2 x)), fun hl => h.wb ((up 6 (by decide)).1 hl)⟩
    | 6, _ =>
      have hw := h.wa hno
      subst hw
      refine op_storeM ho (.tmp 8) (.tmp 73) (by kernel_rfl) q8 (h.e0 (dep ho hall 0 (by kernel_rfl))) hr ?_
      exact ⟨h.fe, fun hl => h.e0 ((up 0 (by decide)).1 hl), fun hl => h.e1 ((up 1 (by decide)).1 hl), fun hl => h.e2 ((up 2 (by decide)).1 hl), fun hl => h.e3 ((up 3 (by decide)).1 hl), fun hl => h.e4 ((up 4 (by decide)).1 hl), fun hl => h.e5 ((up 5 (by decide)).1 hl), fun hl => h.e7 ((up 7 (by decide)).1 hl), fun hl => h.e8 ((up 8 (by decide)).1 hl), fun hn => absurd ((hu 6).2 (.inl rfl)) hn, fun _ => rfl⟩
    | 7, _ =>
      refine op_assign ho (.tmp 77) (d := some 9) (by kernel_rfl) ?_
      rw [h.e4 (dep ho hall 4 (by kernel_rfl))]
      exact ⟨h.fe.put (by decide) _, fun hl => (ev_ne _ _ (by decide)).trans (h.e0 ((up 0 (by decide)).1 hl)), fun hl => (ev_ne _ _ (by decide)).trans (h.e1 ((up 1 (by decide)).1 hl)), fun hl => (ev_ne _ _ (by decide)).trans (h.e2 ((up 2 (by decide)).1 hl)), fun hl => (ev_ne _ _ (by decide)).trans (h.e3 ((up 3 (by decide)).1 hl)), fun hl => (ev_ne _ _ (by decide)).trans (h.e4 ((up 4 (by decide)).1 hl)), fun hl => (ev_ne _ _ (by decide)).trans (h.e5 ((up 5 (by decide)).1 hl)), fun _ => ev_eq _ _ (by omega), fun hl => (ev_ne _ _ (by decide)).trans (h.e8 ((up 8 (by decide)).1 hl)), fun hn => h.wa (fun x => hn ((up 6 (by decide)).2 x)), fun hl => h.wb ((up 6 (by decide)).1 hl)⟩
    | 8, _ =>
      refine op_assign ho (.tmp 78) (d := some 10) (by kernel_rfl) ?_
      rw [h.e5 (dep ho hall 5 (by kernel_rfl))]
      exact ⟨h.fe.put (by decide) _, fun hl => (ev_ne _ _ (by decide)).trans (h.e0 ((up 0 (by decide)).1 hl)), fun hl => (ev_ne _ _ (by decide)).trans (h.e1 ((up 1 (by decide)).1 hl)), fun hl => (ev_ne _ _ (by decide)).trans (h.e2 ((up 2 (by decide)).1 hl)), fun hl => (ev_ne _ _ (by decide)).trans (h.e3 ((up 3 (by decide)).1 hl)), fun hl => (ev_ne _ _ (by decide)).trans (h.e4 ((up 4 (by decide)).1 hl)), fun hl => (ev_ne _ _ (by decide)).trans (h.e5 ((up 5 (by decide)).1 hl)), fun hl => (ev_ne _ _ (by decide)).trans (h.e7 ((up 7 (by decide)).1 hl)), fun _ => ev_eq _ _ (by omega), fun hn => h.wa (fun x => hn ((up 6 (by decide)).2 x)), fun hl => h.wb ((up 6 (by decide)).1 hl)⟩
    | i + 9, hi => omega
  · rintro L x u ⟨h, -⟩ hall
    rw [ops16_size] at hall
    have hw := h.wb (hall 6 (by decide))
    subst hw
    have := hK (x.eval (.tmp 73)) (x.eval (.tmp 74)) (x.eval (.tmp 75)) (x.eval (.tmp 76)) (x.eval (.tmp 77)) (x.eval (.tmp 78))
    have hp := Fe.puts [(73, x.eval (.tmp 73)), (74, x.eval (.tmp 74)), (75, x.eval (.tmp 75)), (76, x.eval (.tmp 76)), (77, x.eval (.tmp 77)), (78, x.eval (.tmp 78)), (9, .int .i64 f), (10, .int .i64 P)] a0 x h.fe (by
      intro p hp
      simp only [List.mem_cons, List.not_mem_nil, or_false] at hp
      rcases hp with rfl | rfl | rfl | rfl | rfl | rfl | rfl | rfl
      all_goals first | exact ⟨by show _ < _; simp only; omega, rfl⟩ | exact ⟨by show _ < _; simp only; omega, h.e7 (hall 7 (by decide))⟩ | exact ⟨by show _ < _; simp only; omega, h.e8 (hall 8 (by decide))⟩)
    rw [← hp] at this
    exact this
  · intro L hL
    refine ⟨⟨Fe.refl _ _, fun h => absurd h (hL _), fun h => absurd h (hL _), fun h => absurd h (hL _), fun h => absurd h (hL _), fun h => absurd h (hL _), fun h => absurd h (hL _), fun h => absurd h (hL _), fun h => absurd h (hL _), fun _ => rfl, fun h => absurd h (hL _)⟩, fun h => absurd h (hL _)⟩

end Go.Proofs.YtibnlfdnnlbeeaaDoor
