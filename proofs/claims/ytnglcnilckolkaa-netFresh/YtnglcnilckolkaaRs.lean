/-
  A drawn region all of whose operations are done, each with a value that is known ahead.
-/
import Derived.Test.YtnglcnilckolkaaRr
namespace Go.Proofs.Ytnglcnilckolkaa
open Go.RowKit
set_option linter.unusedVariables false

/-- What has come up: operation j has put V j into slot D0 + j. -/
structure IV (D0 N : Nat) (a0 : Act) (uS : World) (V : Nat → Value) (L : Nat → Prop) (a : Act) (u : World) : Prop where
  fe : Fe a0 a ((List.range N).map (D0 + ·))
  e : ∀ j, j < N → L j → a.eval (.tmp (D0 + j)) = V j
  bw : Below uS.heap.size uS u
theorem IV.next {D0 N : Nat} {a0 a : Act} {uS u u' : World} {V : Nat → Value} {L L' : Nat → Prop} {i : Nat} (h : IV D0 N a0 uS V L a u) (hi : i < N) (hz : D0 + N ≤ a0.tmps.size) (hu : ∀ j, L' j ↔ (j = i ∨ L j)) (hb : Below uS.heap.size uS u') : IV D0 N a0 uS V L' (a.put (some (D0 + i)) (V i)) u' := by
  refine ⟨h.fe.put (List.mem_map.2 ⟨i, List.mem_range.2 hi, rfl⟩) _, fun j hj hl => ?_, hb⟩
  by_cases e : j = i
  · subst e
    exact ev_eq _ _ (by rw [h.fe.sz]; omega)
  · exact (ev_ne _ _ (by omega)).trans (h.e j hj (((hu j).1 hl).resolve_left e))

section
variable {ops : Array Oper} {o : Oper} {a : Act} {w : World} {K : Act → World → Prop} {Q : Exit → Act → World → Prop} {i : Nat}

def gOk (ops : Array Oper) (a : Act) : Option (Nat × Bool) → Prop
  | none => True
  | some (k, b) => ∃ d, (ops[k]?).bind (·.dst) = some d ∧ a.eval (.tmp d) = .bool b
theorem wanted_of {g : Option (Nat × Bool)} (hg : o.guard = g) (h : gOk ops a g) : Region.wanted o (yielded ops a.tmps) = true := by
  subst hg
  unfold Region.wanted
  cases hgd : o.guard with
  | none => rfl
  | some p =>
    obtain ⟨k, b⟩ := p
    rw [hgd] at h
    obtain ⟨d, hd', he⟩ := h
    simp only [yielded, hd', Option.bind_some]
    have : a.tmps[d]? = some (.bool b) := by
      simp only [Act.eval, Array.getD_eq_getD_getElem?] at he
      cases ht : a.tmps[d]? with
      | none => rw [ht] at he; simp [undef] at he
      | some v => rw [ht] at he; simp at he; rw [he]
    rw [this]
    simp
theorem flds {d : Option Tmp} {p : Op} {g : Option (Nat × Bool)} (ho : ops[i]? = some o) (h : (ops[i]?).map (fun o => (o.dst, o.op, o.guard)) = some (d, p, g)) : o.dst = d ∧ o.op = p ∧ o.guard = g := by
  rw [ho] at h
  simpa using h
theorem og_plain {g : Option (Nat × Bool)} (ho : ops[i]? = some o) (hg : o.guard = g) (hw : gOk ops a g) (h : Oper.wp Try.prog o a w K Q) : wpOp Try.prog ops Q i K a w := by
  refine wpOp_step ho fun K' hK => ?_
  rw [if_pos (wanted_of hg hw)]
  exact Oper.wp_mono hK h

theorem og_move {g : Option (Nat × Bool)} (ho : ops[i]? = some o) (x : Operand) {d : Option Tmp} (h : (ops[i]?).map (fun o => (o.dst, o.op, o.guard)) = some (d, Op.move x, g)) (hw : gOk ops a g) {v : Value} (hx : a.eval x = v) (hK : K (a.put d v) w) : wpOp Try.prog ops Q i K a w := by
  obtain ⟨h1, h2, h3⟩ := flds ho h
  refine og_plain ho h3 hw ?_
  unfold Oper.wp
  simp [execOp, h2, Oper.upon]
  rw [h1, hx]
  exact hK
theorem og_not {g : Option (Nat × Bool)} (ho : ops[i]? = some o) (x : Operand) {d : Option Tmp} (h : (ops[i]?).map (fun o => (o.dst, o.op, o.guard)) = some (d, Op.unOp .not 4 x, g)) (hw : gOk ops a g) (hx : a.eval x = .bool true) (hK : K (a.put d (.bool false)) w) : wpOp Try.prog ops Q i K a w := by
  obtain ⟨h1, h2, h3⟩ := flds ho h
  refine og_plain ho h3 hw ?_
  unfold Oper.wp
  simp only [execOp, h2, hx]
  go_simp
  exact hK
theorem og_pick {g : Option (Nat × Bool)} (ho : ops[i]? = some o) (c y : Operand) {d : Option Tmp} (h : (ops[i]?).map (fun o => (o.dst, o.op, o.guard)) = some (d, Op.pick c (.const (.bool true)) y, g)) (hw : gOk ops a g) (hc : a.eval c = .bool false) (hy : a.eval y = .bool false) (hK : K (a.put d (.bool false)) w) : wpOp Try.prog ops Q i K a w := by
  obtain ⟨h1, h2, h3⟩ := flds ho h
  refine og_plain ho h3 hw ?_
  unfold Oper.wp
  simp only [execOp, h2, hc, hy]
  go_simp
  exact hK
theorem og_neqE {g : Option (Nat × Bool)} (ho : ops[i]? = some o) (x : Operand) {d : Option Tmp} (h : (ops[i]?).map (fun o => (o.dst, o.op, o.guard)) = some (d, Op.binOp .neq 24 x (.const (.int .i64 0)) 24, g)) (hw : gOk ops a g) (hx : a.eval x = .int .i64 0) (hK : K (a.put d (.bool false)) w) : wpOp Try.prog ops Q i K a w := by
  obtain ⟨h1, h2, h3⟩ := flds ho h
  refine og_plain ho h3 hw ?_
  unfold Oper.wp
  simp only [execOp, h2, hx]
  go_simp
  exact hK
theorem og_neqI {g : Option (Nat × Bool)} (ho : ops[i]? = some o) (x : Operand) (n : Int) {d : Option Tmp} (h : (ops[i]?).map (fun o => (o.dst, o.op, o.guard)) = some (d, Op.binOp .neq 3 x (.const (.int .i64 n)) 3, g)) (hw : gOk ops a g) (hx : a.eval x = .int .i64 n) (hK : K (a.put d (.bool false)) w) : wpOp Try.prog ops Q i K a w := by
  obtain ⟨h1, h2, h3⟩ := flds ho h
  refine og_plain ho h3 hw ?_
  unfold Oper.wp
  simp only [execOp, h2, hx]
  go_simp
  exact hK
theorem og_index {g : Option (Nat × Bool)} (ho : ops[i]? = some o) (x : Operand) (t : TypeId) (ht : t = 73) (k : Nat) {d : Option Tmp} (h : (ops[i]?).map (fun o => (o.dst, o.op, o.guard)) = some (d, Op.indexAddr t x (.const (.int .i64 k)), g)) (hw : gOk ops a g) {b len cap : Nat} (hx : a.eval x = .slice (some ⟨b, 0, none⟩) len cap) (hk : k < len) (hK : K (a.put d (.pointer (some ⟨b, k, none⟩))) w) : wpOp Try.prog ops Q i K a w := by
  obtain ⟨h1, h2, h3⟩ := flds ho h
  subst ht
  refine og_plain ho h3 hw ?_
  have i1 : (k : Int) < (len : Int) := by omega
  have i0 : (0 : Int) ≤ (k : Int) := by omega
  unfold Oper.wp
  simp only [execOp, h2, hx]
  go_simp
  exact hK
theorem og_loadS {g : Option (Nat × Bool)} (ho : ops[i]? = some o) (x : Operand) {d : Option Tmp} (h : (ops[i]?).map (fun o => (o.dst, o.op, o.guard)) = some (d, Op.load 43 x, g)) (hw : gOk ops a g) {b k n c : Nat} {A : Option Addr} (hx : a.eval x = .pointer (some ⟨b, k, none⟩)) (hc : w.cell? ⟨b, k, none⟩ = some (.slice A n c)) (hK : K (a.put d (.slice A n c)) w) : wpOp Try.prog ops Q i K a w := by
  obtain ⟨h1, h2, h3⟩ := flds ho h
  refine og_plain ho h3 hw ?_
  unfold Oper.wp
  simp only [execOp, h2, hx]
  go_simp
  exact hK
theorem og_len {g : Option (Nat × Bool)} (ho : ops[i]? = some o) (x : Operand) {d : Option Tmp} (h : (ops[i]?).map (fun o => (o.dst, o.op, o.guard)) = some (d, Op.call { callee := .builtin .len, args := #[x], argTypes := #[43] }, g)) (hw : gOk ops a g) {A : Option Addr} {n c : Nat} (hx : a.eval x = .slice A n c) (hK : K (a.put d (.int .i64 (n : Nat))) w) : wpOp Try.prog ops Q i K a w := by
  obtain ⟨h1, h2, h3⟩ := flds ho h
  refine og_plain ho h3 hw ?_
  unfold Oper.wp
  simp [execOp, h2, resolve, invoke, builtin, hx, Result.andThen]
  go_simp
  exact hK
theorem og_call2 {g : Option (Nat × Bool)} (ho : ops[i]? = some o) (f : FuncId) (x y : Operand) (t u : TypeId) {d : Option Tmp} (h : (ops[i]?).map (fun o => (o.dst, o.op, o.guard)) = some (d, Op.call { callee := .value (.func f), args := #[x, y], argTypes := #[t, u] }, g)) (hw : gOk ops a g) {fn : Func} {c : Code} (hf : Try.prog.funcs[f]? = some fn) (hb : fn.body = some c) (hnm : (fn.name == "runtime.NumGoroutine") = false) {R : Ending → World → Prop} (hC : Calls Try.prog f #[a.eval x, a.eval y] w R) (hK : ∀ e w', R e w' → ∃ v, e = .returned v ∧ K (a.put d v) w') : wpOp Try.prog ops Q i K a w := by
  obtain ⟨h1, h2, h3⟩ := flds ho h
  refine og_plain ho h3 hw ?_
  unfold Oper.wp
  have e1 : (execOp a.eval o).run Try.prog w = .ok (.enter f #[a.eval x, a.eval y]) w := by
    simp [execOp, h2, resolve, invoke, Deferred.ofValue, show a.eval (.func f) = .func (.func f) #[] #[] from rfl, callFunc, hf, hb]
    simpa using hnm
  rw [e1]
  show Calls Try.prog f #[a.eval x, a.eval y] w _
  refine hC.mono fun e w' h => ?_
  obtain ⟨v, rfl, hk⟩ := hK e w' h
  rw [h1]
  exact hk
end

end Go.Proofs.Ytnglcnilckolkaa
