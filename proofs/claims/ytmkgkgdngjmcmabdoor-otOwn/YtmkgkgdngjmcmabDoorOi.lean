/-
  OtOwn's region 4, in any order: steps.
-/
import Derived.Test.YtmkgkgdngjmcmabDoorOh
namespace Go.Proofs.YtmkgkgdngjmcmabDoor
open Go.RowKit Go.Lib
set_option linter.unusedVariables false

def opsAt (n : Nat) : Code → Option (Array Oper)
  | .region k ops _ => if k = n then some ops else none
  | .seq a b => (opsAt n a).orElse fun _ => opsAt n b
  | .block _ c => opsAt n c
  | .scope c => opsAt n c
  | .cond _ a b => (opsAt n a).orElse fun _ => opsAt n b
  | .loop c => opsAt n c
  | _ => none
noncomputable def ops4 : Array Oper := (Tryd.f3.body.bind (opsAt 4)).getD #[]

section
variable {P : Program} {ops : Array Oper} {o : Oper} {a : Act} {w : World} {K : Act → World → Prop} {Q : Exit → Act → World → Prop} {i : Nat}

theorem fields {d : Option Tmp} {p : Op} (ho : ops[i]? = some o) (h : (ops[i]?).map (fun o => (o.dst, o.op, o.guard)) = some (d, p, none)) : o.dst = d ∧ o.op = p ∧ o.guard = none := by
  rw [ho] at h
  simpa using h
theorem dep {L : Nat → Prop} (ho : ops[i]? = some o) (hall : ∀ e ∈ o.after, Region.binds .any e = true → L e.on) (k : Nat) (h : (ops[i]?).map (fun o => o.after.any (fun e => Region.binds .any e && e.on == k)) = some true) : L k := by
  rw [ho] at h
  simp only [Option.map_some, Option.some.injEq, Array.any_eq_true'] at h
  obtain ⟨e, he, hb⟩ := h
  simp only [Bool.and_eq_true, beq_iff_eq] at hb
  exact hb.2 ▸ hall e he hb.1

theorem op_plain (ho : ops[i]? = some o) (hg : o.guard = none) (h : Oper.wp P o a w K Q) : wpOp P ops Q i K a w := by
  refine wpOp_step ho fun K' hK => ?_
  have hw : Region.wanted o (yielded ops a.tmps) = true := by simp [Region.wanted, hg]
  rw [if_pos hw]
  exact Oper.wp_mono hK h

theorem op_move (ho : ops[i]? = some o) (x : Operand) {d : Option Tmp} (h : (ops[i]?).map (fun o => (o.dst, o.op, o.guard)) = some (d, Op.move x, none)) (hK : K (a.put d (a.eval x)) w) : wpOp P ops Q i K a w := by
  obtain ⟨h1, h2, h3⟩ := fields ho h
  refine op_plain ho h3 ?_
  unfold Oper.wp
  simp [execOp, h2, Oper.upon]
  rw [h1]
  exact hK
theorem op_assign (ho : ops[i]? = some o) (x : Operand) {d : Option Tmp} (h : (ops[i]?).map (fun o => (o.dst, o.op, o.guard)) = some (d, Op.assign x, none)) (hK : K (a.put d (a.eval x)) w) : wpOp P ops Q i K a w := by
  obtain ⟨h1, h2, h3⟩ := fields ho h
  refine op_plain ho h3 ?_
  unfold Oper.wp
  simp [execOp, h2, Oper.upon]
  rw [h1]
  exact hK
theorem op_call (ho : ops[i]? = some o) (f : FuncId) (x : Operand) (t : TypeId) {d : Option Tmp} (h : (ops[i]?).map (fun o => (o.dst, o.op, o.guard)) = some (d, Op.call { callee := .value (.func f), args := #[x], argTypes := #[t] }, none)) {fn : Func} {c : Code} (hf : P.funcs[f]? = some fn) (hb : fn.body = some c) (hnm : (fn.name == "runtime.NumGoroutine") = false) {R : Ending → World → Prop} (hC : Calls P f #[a.eval x] w R) (hK : ∀ e w', R e w' → ∃ v, e = .returned v ∧ K (a.put d v) w') : wpOp P ops Q i K a w := by
  obtain ⟨h1, h2, h3⟩ := fields ho h
  refine op_plain ho h3 ?_
  unfold Oper.wp
  have e1 : (execOp a.eval o).run P w = .ok (.enter f #[a.eval x]) w := by
    simp [execOp, h2, resolve, invoke, Deferred.ofValue, show a.eval (.func f) = .func (.func f) #[] #[] from rfl, callFunc, hf, hb]
    simpa using hnm
  rw [e1]
  show Calls P f #[a.eval x] w _
  refine hC.mono fun e w' h => ?_
  obtain ⟨v, rfl, hk⟩ := hK e w' h
  rw [h1]
  exact hk
end

theorem op_load7 {ops : Array Oper} {o : Oper} {a : Act} {w : World} {K : Act → World → Prop} {Q : Exit → Act → World → Prop} {i : Nat} (ho : ops[i]? = some o) (x : Operand) {d : Option Tmp} (h : (ops[i]?).map (fun o => (o.dst, o.op, o.guard)) = some (d, Op.load 23 x, none)) {q : Nat} (hx : a.eval x = .pointer (some ⟨q, 0, none⟩)) (hq : AtS w q) (hK : K (a.put d (.agg #[.int .i64 1, .int .i64 9, .int .u8 115, .int .i64 9, .int .i64 9])) w) : wpOp Tryd.prog ops Q i K a w := by
  obtain ⟨h1, h2, h3⟩ := fields ho h
  refine op_plain ho h3 ?_
  obtain ⟨⟨z0, z1, z2, z3, z4⟩, -⟩ := cellsF hq
  unfold Oper.wp
  simp only [execOp, h2, hx]
  go_simp
  exact hK
theorem op_build {ops : Array Oper} {o : Oper} {a : Act} {w : World} {K : Act → World → Prop} {Q : Exit → Act → World → Prop} {i : Nat} (ho : ops[i]? = some o) (x : Operand) {d : Option Tmp} (h : (ops[i]?).map (fun o => (o.dst, o.op, o.guard)) = some (d, Op.buildSlice 24 1 #[(0, x)], none)) (hx : a.eval x = .agg #[.int .i64 1, .int .i64 9, .int .u8 115, .int .i64 9, .int .i64 9]) (hK : K (a.put d (.slice (some ⟨w.heap.size, 0, none⟩) 1 1)) (w.alloc (.cells #[.int .i64 1, .int .i64 9, .int .u8 115, .int .i64 9, .int .i64 9] 23))) : wpOp Tryd.prog ops Q i K a w := by
  obtain ⟨h1, h2, h3⟩ := fields ho h
  refine op_plain ho h3 ?_
  unfold Oper.wp
  simp [execOp, h2, hx]
  clear hx h2 h3
  go_simp
  exact hK

end Go.Proofs.YtmkgkgdngjmcmabDoor
