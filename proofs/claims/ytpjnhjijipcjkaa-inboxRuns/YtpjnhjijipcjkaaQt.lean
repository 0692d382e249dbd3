/-
  Drawn regions of the law InboxRuns by one assertion.
-/
import Derived.Test.YtpjnhjijipcjkaaQs
namespace Go.Proofs.Ytpjnhjijipcjkaa
open Go.RowKit
set_option linter.unusedVariables false

section
variable {P : Program} {md : Region.Mode} {ops : Array Oper} {Q : Exit → Act → World → Prop}
/-- Whatever the order: an assertion on what has come up so far, kept by each operation. -/
theorem wpAny_inv (I : Array Bool → Act → World → Prop)
    (hs : ∀ listed a w (i : Nat) (o : Oper), I listed a w → ops[i]? = some o → listed.getD i true = false → (∀ e ∈ o.after, Region.binds md e = true → listed.getD e.on false = true) → wpOp P ops Q i (I (listed.setIfInBounds i true)) a w)
    (he : ∀ listed a w, I listed a w → (∀ (i : Nat) (o : Oper), ops[i]? = some o → listed.getD i true = false → ¬ (∀ e ∈ o.after, Region.binds md e = true → listed.getD e.on false = true)) → Q .normal a w) :
    ∀ fuel listed a w, listed.toList.count false ≤ fuel → I listed a w → wpAny P md ops Q fuel listed a w := by
  have hend : ∀ listed a w, I listed a w → Region.ready md ops listed = [] → Q .normal a w := fun listed a w hI hr => he listed a w hI fun i o ho hu hall => by
    have : i ∈ Region.ready md ops listed := mem_ready.2 ⟨hu, o, ho, hall⟩
    rw [hr] at this
    cases this
  intro fuel
  induction fuel with
  | zero =>
    intro listed a w hc hI
    have hr : Region.ready md ops listed = [] := by
      cases h : Region.ready md ops listed with
      | nil => rfl
      | cons i l =>
        have hi : i ∈ Region.ready md ops listed := by rw [h]; simp
        have h1 := (getD_false (mem_ready.1 hi).1).1
        have h2 := count_set h1
        omega
    exact ⟨hr, hend _ _ _ hI hr⟩
  | succ fuel ih =>
    intro listed a w hc hI
    refine ⟨hend _ _ _ hI, fun i hi => ?_⟩
    obtain ⟨hu, o, ho, hall⟩ := mem_ready.1 hi
    refine wpOp_mono (fun a' w' h' => ih _ a' w' ?_ h') (hs listed a w i o hI ho hu hall)
    have h1 := count_set (getD_false hu).1
    rw [Array.toList_setIfInBounds]
    omega

theorem wp_region_inv {id : Nat} {a : Act} {w : World} (hm : P.follows .mixedOrders = true) (hT : Earlier ops) (I : (Nat → Prop) → Act → World → Prop)
    (hs : ∀ (L L' : Nat → Prop) a w (i : Nat) (o : Oper), I L a w → ops[i]? = some o → ¬ L i → (∀ e ∈ o.after, Region.binds .any e = true → L e.on) → (∀ j, L' j ↔ (j = i ∨ L j)) → wpOp P ops Q i (I L') a w)
    (he : ∀ (L : Nat → Prop) a w, I L a w → (∀ i, i < ops.size → L i) → Q .normal a w)
    (h0 : ∀ L : Nat → Prop, (∀ i, ¬ L i) → I L a w.drew) : (Code.region id ops true).wp P Q a w := by
  refine wp_region_any hm (wpAny_inv (fun listed a w => listed.size = ops.size ∧ I (fun i => listed.getD i false = true) a w) ?_ ?_ ops.size _ a _ ?_ ⟨by simp, h0 _ ?_⟩)
  · rintro listed a w i o ⟨hz, hI⟩ ho hu hall
    have hi := (getD_false hu).2
    refine wpOp_mono (fun a' w' h' => ⟨by simpa using hz, h'⟩) (hs _ _ a w i o hI ho ?_ hall ?_)
    · simp [Array.getD, hi] at hu ⊢
      exact hu
    · intro j
      by_cases hj : j = i
      · subst hj
        simp [Array.getD, hi]
      · simp only [hj, false_or]
        have : (listed.setIfInBounds i true).getD j false = listed.getD j false := by
          rw [Array.getD_eq_getD_getElem?, Array.getD_eq_getD_getElem?, Array.getElem?_setIfInBounds_ne (Ne.symm hj)]
        rw [this]
  · rintro listed a w ⟨hz, hI⟩ h
    exact he _ a w hI (all_listed hT hz h)
  · simp
  · intro i
    by_cases hi : i < ops.size <;> simp [Array.getD, hi]
end


section
variable {ops : Array Oper} {o : Oper} {a : Act} {w : World} {K : Act → World → Prop} {Q : Exit → Act → World → Prop} {i : Nat}

def gOk (ops : Array Oper) (a : Act) : Option (Nat × Bool) → Prop
  | none => True
  | some (k, b) => ∃ d, (ops[k]?).bind (·.dst) = some d ∧ a.eval (.tmp d) = .bool b
theorem wanted_of {g : Option (Nat × Bool)} (hg : o.guard = g) (h : gOk ops a g) : Region.wanted o (yielded ops a.tmps) = true := by
  subst hg
  unfold Region.wanted
  cases hgd : o.guard with
  | none => rfl
  | some p =>
    obtain ⟨k, b⟩ := p
    rw [hgd] at h
    obtain ⟨d, hd', he⟩ := h
    simp only [yielded, hd', Option.bind_some]
    have : a.tmps[d]? = some (.bool b) := by
      simp only [Act.eval, Array.getD_eq_getD_getElem?] at he
      cases ht : a.tmps[d]? with
      | none => rw [ht] at he; simp [undef] at he
      | some v => rw [ht] at he; simp at he; rw [he]
    rw [this]
    simp
theorem flds {d : Option Tmp} {p : Op} {g : Option (Nat × Bool)} (ho : ops[i]? = some o) (h : (ops[i]?).map (fun o => (o.dst, o.op, o.guard)) = some (d, p, g)) : o.dst = d ∧ o.op = p ∧ o.guard = g := by
  rw [ho] at h
  simpa using h
theorem og_plain {g : Option (Nat × Bool)} (ho : ops[i]? = some o) (hg : o.guard = g) (hw : gOk ops a g) (h : Oper.wp Try.prog o a w K Q) : wpOp Try.prog ops Q i K a w := by
  refine wpOp_step ho fun K' hK => ?_
  rw [if_pos (wanted_of hg hw)]
  exact Oper.wp_mono hK h

theorem og_move {g : Option (Nat × Bool)} (ho : ops[i]? = some o) (x : Operand) {d : Option Tmp} (h : (ops[i]?).map (fun o => (o.dst, o.op, o.guard)) = some (d, Op.move x, g)) (hw : gOk ops a g) {v : Value} (hx : a.eval x = v) (hK : K (a.put d v) w) : wpOp Try.prog ops Q i K a w := by
  obtain ⟨h1, h2, h3⟩ := flds ho h
  refine og_plain ho h3 hw ?_
  unfold Oper.wp
  simp [execOp, h2, Oper.upon]
  rw [h1, hx]
  exact hK
theorem og_loadA {g : Option (Nat × Bool)} (ho : ops[i]? = some o) (x : Operand) {d : Option Tmp} (h : (ops[i]?).map (fun o => (o.dst, o.op, o.guard)) = some (d, Op.load 28 x, g)) (hw : gOk ops a g) {p j : Nat} {v : Value} (hx : a.eval x = .pointer (some ⟨p, j, none⟩)) (hc : w.cell? ⟨p, j, none⟩ = some v) (hK : K (a.put d (v)) w) : wpOp Try.prog ops Q i K a w := by
  obtain ⟨h1, h2, h3⟩ := flds ho h
  refine og_plain ho h3 hw ?_
  unfold Oper.wp
  simp only [execOp, h2, hx]
  go_simp
  exact hK
theorem og_loadR {g : Option (Nat × Bool)} (ho : ops[i]? = some o) (x : Operand) {d : Option Tmp} (h : (ops[i]?).map (fun o => (o.dst, o.op, o.guard)) = some (d, Op.load 70 x, g)) (hw : gOk ops a g) {p j : Nat} {v : Value} (hx : a.eval x = .pointer (some ⟨p, j, none⟩)) (hc : w.cell? ⟨p, j, none⟩ = some v) (hK : K (a.put d (v)) w) : wpOp Try.prog ops Q i K a w := by
  obtain ⟨h1, h2, h3⟩ := flds ho h
  refine og_plain ho h3 hw ?_
  unfold Oper.wp
  simp only [execOp, h2, hx]
  go_simp
  exact hK
theorem og_loadO {g : Option (Nat × Bool)} (ho : ops[i]? = some o) (x : Operand) {d : Option Tmp} (h : (ops[i]?).map (fun o => (o.dst, o.op, o.guard)) = some (d, Op.load 56 x, g)) (hw : gOk ops a g) {p il ic : Nat} {k s n v : Int} {ia : Option Addr} (hx : a.eval x = .pointer (some ⟨p, 0, none⟩)) (e0 : w.cell? ⟨p, 0, none⟩ = some (.int .i64 k)) (e1 : w.cell? ⟨p, 1, none⟩ = some (.int .i64 s)) (e2 : w.cell? ⟨p, 2, none⟩ = some (.int .i64 n)) (e3 : w.cell? ⟨p, 3, none⟩ = some (.int .i64 v)) (e4 : w.cell? ⟨p, 4, none⟩ = some (.slice ia il ic)) (hK : K (a.put d (opA k s n v ia il ic)) w) : wpOp Try.prog ops Q i K a w := by
  obtain ⟨h1, h2, h3⟩ := flds ho h
  refine og_plain ho h3 hw ?_
  unfold Oper.wp
  simp only [execOp, h2, hx]
  go_simp
  exact hK
theorem og_nil {g : Option (Nat × Bool)} (ho : ops[i]? = some o) (x : Operand) {d : Option Tmp} (h : (ops[i]?).map (fun o => (o.dst, o.op, o.guard)) = some (d, Op.nilCheck x, g)) (hw : gOk ops a g) {p j : Nat} (hx : a.eval x = .pointer (some ⟨p, j, none⟩)) (hK : K (a.put d (.pointer (some ⟨p, j, none⟩))) w) : wpOp Try.prog ops Q i K a w := by
  obtain ⟨h1, h2, h3⟩ := flds ho h
  refine og_plain ho h3 hw ?_
  unfold Oper.wp
  simp only [execOp, h2, hx]
  go_simp
  exact hK
theorem og_field0 {g : Option (Nat × Bool)} (ho : ops[i]? = some o) (x : Operand) {d : Option Tmp} (h : (ops[i]?).map (fun o => (o.dst, o.op, o.guard)) = some (d, Op.fieldAddr 74 x 0, g)) (hw : gOk ops a g) {p : Nat} (hx : a.eval x = .pointer (some ⟨p, 0, none⟩)) (hK : K (a.put d (.pointer (some ⟨p, 0, none⟩))) w) : wpOp Try.prog ops Q i K a w := by
  obtain ⟨h1, h2, h3⟩ := flds ho h
  refine og_plain ho h3 hw ?_
  unfold Oper.wp
  simp only [execOp, h2, hx]
  go_simp
  exact hK
theorem og_field2 {g : Option (Nat × Bool)} (ho : ops[i]? = some o) (x : Operand) {d : Option Tmp} (h : (ops[i]?).map (fun o => (o.dst, o.op, o.guard)) = some (d, Op.fieldAddr 74 x 2, g)) (hw : gOk ops a g) {p : Nat} (hx : a.eval x = .pointer (some ⟨p, 0, none⟩)) (hK : K (a.put d (.pointer (some ⟨p, 2, none⟩))) w) : wpOp Try.prog ops Q i K a w := by
  obtain ⟨h1, h2, h3⟩ := flds ho h
  refine og_plain ho h3 hw ?_
  unfold Oper.wp
  simp only [execOp, h2, hx]
  go_simp
  exact hK
theorem og_index0 {g : Option (Nat × Bool)} (ho : ops[i]? = some o) (x : Operand) {d : Option Tmp} (h : (ops[i]?).map (fun o => (o.dst, o.op, o.guard)) = some (d, Op.indexAddr 71 x (.const (.int .i64 0)), g)) (hw : gOk ops a g) {p j : Nat} (hx : a.eval x = .pointer (some ⟨p, j, none⟩)) (hK : K (a.put d (.pointer (some ⟨p, j, none⟩))) w) : wpOp Try.prog ops Q i K a w := by
  obtain ⟨h1, h2, h3⟩ := flds ho h
  refine og_plain ho h3 hw ?_
  unfold Oper.wp
  simp only [execOp, h2, hx]
  go_simp
  exact hK
theorem og_pickT {g : Option (Nat × Bool)} (ho : ops[i]? = some o) (c y : Operand) {d : Option Tmp} (h : (ops[i]?).map (fun o => (o.dst, o.op, o.guard)) = some (d, Op.pick c y (.const (.bool false)), g)) (hw : gOk ops a g) (hc : a.eval c = .bool true) (hy : a.eval y = .bool true) (hK : K (a.put d (.bool true)) w) : wpOp Try.prog ops Q i K a w := by
  obtain ⟨h1, h2, h3⟩ := flds ho h
  refine og_plain ho h3 hw ?_
  unfold Oper.wp
  simp only [execOp, h2, hc, hy]
  go_simp
  exact hK
theorem og_eql {g : Option (Nat × Bool)} (ho : ops[i]? = some o) (x y : Operand) (n : Int) {d : Option Tmp} (h : (ops[i]?).map (fun o => (o.dst, o.op, o.guard)) = some (d, Op.binOp .eql 3 x y 3, g)) (hw : gOk ops a g) (hx : a.eval x = .int .i64 n) (hy : a.eval y = .int .i64 n) (hK : K (a.put d (.bool true)) w) : wpOp Try.prog ops Q i K a w := by
  obtain ⟨h1, h2, h3⟩ := flds ho h
  refine og_plain ho h3 hw ?_
  unfold Oper.wp
  simp only [execOp, h2, hx, hy]
  go_simp
  exact hK
theorem og_assign {g : Option (Nat × Bool)} (ho : ops[i]? = some o) (x : Operand) {d : Option Tmp} (h : (ops[i]?).map (fun o => (o.dst, o.op, o.guard)) = some (d, Op.assign x, g)) (hw : gOk ops a g) {v : Value} (hx : a.eval x = v) (hK : K (a.put d v) w) : wpOp Try.prog ops Q i K a w := by
  obtain ⟨h1, h2, h3⟩ := flds ho h
  refine og_plain ho h3 hw ?_
  unfold Oper.wp
  simp [execOp, h2, Oper.upon]
  rw [h1, hx]
  exact hK
theorem og_call {g : Option (Nat × Bool)} (ho : ops[i]? = some o) (f : FuncId) (xs : Array Operand) (ts : Array TypeId) {d : Option Tmp} (h : (ops[i]?).map (fun o => (o.dst, o.op, o.guard)) = some (d, Op.call { callee := .value (.func f), args := xs, argTypes := ts }, g)) (hw : gOk ops a g) {fn : Func} {c : Code} (hf : Try.prog.funcs[f]? = some fn) (hb : fn.body = some c) (hnm : (fn.name == "runtime.NumGoroutine") = false) {R : Ending → World → Prop} {vs : Array Value} (hvs : xs.map a.eval = vs) (hC : Calls Try.prog f vs w R) (hK : ∀ e w', R e w' → ∃ v, e = .returned v ∧ K (a.put d v) w') : wpOp Try.prog ops Q i K a w := by
  obtain ⟨h1, h2, h3⟩ := flds ho h
  refine og_plain ho h3 hw ?_
  unfold Oper.wp
  have e1 : (execOp a.eval o).run Try.prog w = .ok (.enter f vs) w := by
    simp [execOp, h2, resolve, invoke, Deferred.ofValue, show a.eval (.func f) = .func (.func f) #[] #[] from rfl, callFunc, hf, hb, hvs]
    simpa using hnm
  rw [e1]
  show Calls Try.prog f vs w _
  refine hC.mono fun e w' h => ?_
  obtain ⟨v, rfl, hk⟩ := hK e w' h
  rw [h1]
  exact hk
end

end Go.Proofs.Ytpjnhjijipcjkaa
