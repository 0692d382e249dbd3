/-
  Region 15 of EncodeItem of the document: a row of one byte, and what written says behind it, in whatever order.
-/
import Derived.Test.YtibnlfdnnlbeeaaDoorRg
import Derived.Test.YtibnlfdnnlbeeaaDoorZc
namespace Go.Proofs.YtibnlfdnnlbeeaaDoor
open Go.RowKit
set_option linter.unusedVariables false

noncomputable def ops15 : Array Oper := (Tryd.f11.body.bind (opsAt 15)).getD #[]
theorem ops15_size : ops15.size = 11 := by kernel_rfl
theorem ops15_earlier : Earlier ops15 := by
  have h : (List.range 11).all (fun i => ((ops15[i]?).map (fun o => o.after.all (fun e => !Region.binds .any e || decide (e.on < i)))).getD true) = true := by kernel_rfl
  intro i o ho e he hb
  have hi : i < 11 := by
    have := (Array.getElem?_eq_some_iff.1 ho).1
    rwa [ops15_size] at this
  have h1 := List.all_eq_true.1 h i (List.mem_range.2 hi)
  rw [ho] at h1
  simp only [Option.map_some, Option.getD_some, Array.all_eq_true'] at h1
  have h2 := h1 e he
  rw [hb] at h2
  simpa using h2

section
variable {ops : Array Oper} {o : Oper} {a : Act} {w : World} {K : Act → World → Prop} {Q : Exit → Act → World → Prop} {i : Nat}
theorem op_field0 (ho : ops[i]? = some o) (x : Operand) {d : Option Tmp} (h : (ops[i]?).map (fun o => (o.dst, o.op, o.guard)) = some (d, Op.fieldAddr 26 x 0, none)) {b : Nat} (hx : a.eval x = .pointer (some ⟨b, 0, none⟩)) (hK : K (a.put d (.pointer (some ⟨b, 0, none⟩))) w) : wpOp Tryd.prog ops Q i K a w := by
  obtain ⟨h1, h2, h3⟩ := fields ho h
  refine op_plain ho h3 ?_
  unfold Oper.wp
  simp only [execOp, h2, hx]
  go_simp
  exact hK
theorem op_convB (ho : ops[i]? = some o) (x : Operand) {d : Option Tmp} (h : (ops[i]?).map (fun o => (o.dst, o.op, o.guard)) = some (d, Op.convert 3 5 x, none)) {v : Int} (hx : a.eval x = .int .i64 v) (hK : K (a.put d (.int .u8 (v % 256))) w) : wpOp Tryd.prog ops Q i K a w := by
  obtain ⟨h1, h2, h3⟩ := fields ho h
  refine op_plain ho h3 ?_
  unfold Oper.wp
  simp only [execOp, h2, hx]
  go_simp
  exact hK
theorem op_build1 (ho : ops[i]? = some o) (x : Operand) {d : Option Tmp} (h : (ops[i]?).map (fun o => (o.dst, o.op, o.guard)) = some (d, Op.buildSlice 22 1 #[(0, x)], none)) {v : Int} (hx : a.eval x = .int .u8 v) (hK : K (a.put d (.slice (some ⟨w.heap.size, 0, none⟩) 1 1)) (w.alloc (.cells #[.int .u8 v] 5))) : wpOp Tryd.prog ops Q i K a w := by
  obtain ⟨h1, h2, h3⟩ := fields ho h
  refine op_plain ho h3 ?_
  unfold Oper.wp
  simp [execOp, h2, hx]
  clear hx h2 h3
  go_simp
  exact hK
theorem op_call2 (ho : ops[i]? = some o) (f : FuncId) (x y : Operand) (t u : TypeId) {d : Option Tmp} (h : (ops[i]?).map (fun o => (o.dst, o.op, o.guard)) = some (d, Op.call { callee := .value (.func f), args := #[x, y], argTypes := #[t, u] }, none)) {fn : Func} {c : Code} (hf : Tryd.prog.funcs[f]? = some fn) (hb : fn.body = some c) (hnm : (fn.name == "runtime.NumGoroutine") = false) {R : Ending → World → Prop} (hC : Calls Tryd.prog f #[a.eval x, a.eval y] w R) (hK : ∀ e w', R e w' → ∃ v, e = .returned v ∧ K (a.put d v) w') : wpOp Tryd.prog ops Q i K a w := by
  obtain ⟨h1, h2, h3⟩ := fields ho h
  refine op_plain ho h3 ?_
  unfold Oper.wp
  have e1 : (execOp a.eval o).run Tryd.prog w = .ok (.enter f #[a.eval x, a.eval y]) w := by
    simp [execOp, h2, resolve, invoke, Deferred.ofValue, show a.eval (.func f) = .func (.func f) #[] #[] from rfl, callFunc, hf, hb]
    simpa using hnm
  rw [e1]
  show Calls Tryd.prog f #[a.eval x, a.eval y] w _
  refine hC.mono fun e w' h => ?_
  obtain ⟨v, rfl, hk⟩ := hK e w' h
  rw [h1]
  exact hk
theorem op_app (ho : ops[i]? = some o) (x y : Operand) {d : Option Tmp} (h : (ops[i]?).map (fun o => (o.dst, o.op, o.guard)) = some (d, Op.call { callee := .builtin .append, args := #[x, y], argTypes := #[22, 22] }, none)) (hK : ∀ K' : Act → World → Prop, (∀ a w, K a w → K' a w) → Oper.wp Tryd.prog o a w K' Q) : wpOp Tryd.prog ops Q i K a w := by
  obtain ⟨h1, h2, h3⟩ := fields ho h
  exact op_plain ho h3 (hK K fun _ _ h => h)
end

/-- What has come up of region 15. -/
structure I15 (a0 : Act) (wd : World) (B xb lb len : Nat) (k : Int) (M : Nat → Int) (n : Nat) (ys : List Int) (L : Nat → Prop) (a : Act) (w : World) : Prop where
  fe : Fe a0 a [44, 45, 46, 47, 48, 49, 50, 51, 2, 3, 4]
  e0 : L 0 → a.eval (.tmp 44) = .pointer (some ⟨xb, 0, none⟩)
  e1 : L 1 → a.eval (.tmp 45) = .int .i64 k
  e2 : L 2 → a.eval (.tmp 46) = .int .u8 (k % 256)
  e3 : L 3 → L 7 ∨ ∃ v, a.eval (.tmp 47) = v ∧ OwnB w B v 1 [k % 256]
  e4 : L 4 → a.eval (.tmp 48) = .agg #[.int .i64 (M 0), .int .i64 (M 1), .int .i64 (M 2), .int .i64 (M 3), .int .i64 (M 4), .int .i64 (M 5), .int .i64 (M 6), .int .i64 (M 7), .int .i64 (M 8), .int .i64 (M 9), .int .i64 (M 10), .int .u8 (M 11), .int .i64 (M 12), .int .i64 (M 13)]
  e5 : L 5 → a.eval (.tmp 49) = .slice (some ⟨lb, 0, none⟩) len len
  e6 : L 6 → L 7 ∨ ∃ v, a.eval (.tmp 50) = v ∧ OwnB w B v n ys
  e7 : L 7 → ∃ v, a.eval (.tmp 51) = v ∧ OwnB w B v (1 + n) ([k % 256] ++ ys)
  e8 : L 8 → a.eval (.tmp 2) = a.eval (.tmp 51)
  e9 : L 9 → a.eval (.tmp 3) = .int .i64 0
  e10 : L 10 → a.eval (.tmp 4) = .int .i64 (-1)
  d7 : L 7 → L 3 ∧ L 6
  d8 : L 8 → L 7
  bw : Below B wd w

set_option maxRecDepth 100000 in
set_option maxHeartbeats 4000000 in
theorem enc_region15 (a0 : Act) (w : World) {K : Act → World → Prop} {Q' : Exit → Act → World → Prop} (B xb mb lb len n : Nat) (k : Int) (M : Nat → Int) (ys : List Int)
    (h1 : a0.eval (.tmp 1) = .pointer (some ⟨xb, 0, none⟩)) (h6 : a0.eval (.tmp 6) = .pointer (some ⟨mb, 0, none⟩)) (h5 : a0.eval (.tmp 5) = .slice (some ⟨lb, 0, none⟩) len len) (hz : 52 ≤ a0.tmps.size)
    (hB : B ≤ w.heap.size) (hxb : xb < B) (hmb : mb < B) (hcx : w.drew.cell? ⟨xb, 0, none⟩ = some (.int .i64 k)) (hm : MB w.drew mb M) (hn0 : 0 < n) (hn1 : n ≤ 4096)
    (HW : ∀ u, Below B w.drew u → Calls Tryd.prog 30 #[.agg #[.int .i64 (M 0), .int .i64 (M 1), .int .i64 (M 2), .int .i64 (M 3), .int .i64 (M 4), .int .i64 (M 5), .int .i64 (M 6), .int .i64 (M 7), .int .i64 (M 8), .int .i64 (M 9), .int .i64 (M 10), .int .u8 (M 11), .int .i64 (M 12), .int .i64 (M 13)], .slice (some ⟨lb, 0, none⟩) len len] u fun e u' => ∃ v, e = .returned v ∧ OwnB u' u.heap.size v n ys ∧ Below u.heap.size u u')
    (hK : ∀ u v v44 v45 v46 v47 v48 v49 v50, OwnB u B v (1 + n) ([k % 256] ++ ys) → Below B w.drew u → K (puts a0 [(44, v44), (45, v45), (46, v46), (47, v47), (48, v48), (49, v49), (50, v50), (51, v), (2, v), (3, .int .i64 0), (4, .int .i64 (-1))]) u) :
    (Code.region 15 ops15 true).wp Tryd.prog (Exit.then K Q') a0 w := by
  obtain ⟨i0, hi0, hz0, hz1, hz2⟩ := info_parts Tryd.info5
  obtain ⟨wd, hwd⟩ : ∃ wd, w.drew = wd := ⟨_, rfl⟩
  have hBd : B ≤ wd.heap.size := by rw [← hwd]; exact hB
  clear hB
  have hB := hBd
  refine wp_region_inv (by kernel_rfl) ops15_earlier (fun L a u => I15 a0 wd B xb lb len k M n ys L a u) ?_ ?_ ?_
  · rintro L L' x u i o h ho hno hall hu
    rw [hwd] at hcx hm HW
    clear hK
    have hzx : 52 ≤ x.tmps.size := by rw [h.fe.sz]; exact hz
    have q1 := (h.fe.ev (j := 1) (by decide)).trans h1
    have q6 := (h.fe.ev (j := 6) (by decide)).trans h6
    have q5 := (h.fe.ev (j := 5) (by decide)).trans h5
    have hi : i < 11 := by
      have := (Array.getElem?_eq_some_iff.1 ho).1
      rwa [ops15_size] at this
    have up : ∀ j, j ≠ i → (L' j ↔ L j) := fun j hj => by rw [hu j]; simp [hj]
    have d7 : L' 7 → L' 3 ∧ L' 6 := fun hl => by
      rcases (hu 7).1 hl with rfl | hl
      · exact ⟨(hu 3).2 (.inr (dep ho hall 3 (by kernel_rfl))), (hu 6).2 (.inr (dep ho hall 6 (by kernel_rfl)))⟩
      · exact ⟨(hu 3).2 (.inr (h.d7 hl).1), (hu 6).2 (.inr (h.d7 hl).2)⟩
    have d8 : L' 8 → L' 7 := fun hl => by
      rcases (hu 8).1 hl with rfl | hl
      · exact (hu 7).2 (.inr (dep ho hall 7 (by kernel_rfl)))
      · exact (hu 7).2 (.inr (h.d8 hl))
    match i, hi with
    | 0, _ =>
      refine op_field0 ho (.tmp 1) (d := some 44) (by kernel_rfl) q1 ?_
      exact ⟨h.fe.put (by decide) _, fun _ => ev_eq _ _ (by omega), fun hl => (ev_ne _ _ (by decide)).trans (h.e1 ((up 1 (by decide)).1 hl)), fun hl => (ev_ne _ _ (by decide)).trans (h.e2 ((up 2 (by decide)).1 hl)), fun hl => (h.e3 ((up 3 (by decide)).1 hl)).imp (fun z => (hu 7).2 (.inr z)) (fun ⟨v, e, q⟩ => ⟨v, (ev_ne _ _ (by decide)).trans e, q⟩), fun hl => (ev_ne _ _ (by decide)).trans (h.e4 ((up 4 (by decide)).1 hl)), fun hl => (ev_ne _ _ (by decide)).trans (h.e5 ((up 5 (by decide)).1 hl)), fun hl => (h.e6 ((up 6 (by decide)).1 hl)).imp (fun z => (hu 7).2 (.inr z)) (fun ⟨v, e, q⟩ => ⟨v, (ev_ne _ _ (by decide)).trans e, q⟩), fun hl => (h.e7 ((up 7 (by decide)).1 hl)).imp (fun v ⟨e, q⟩ => ⟨(ev_ne _ _ (by decide)).trans e, q⟩), fun hl => (ev_ne _ _ (by decide)).trans ((h.e8 ((up 8 (by decide)).1 hl)).trans (ev_ne _ _ (by decide)).symm), fun hl => (ev_ne _ _ (by decide)).trans (h.e9 ((up 9 (by decide)).1 hl)), fun hl => (ev_ne _ _ (by decide)).trans (h.e10 ((up 10 (by decide)).1 hl)), d7, d8, h.bw⟩
    | 1, _ =>
      refine op_loadI ho (.tmp 44) (d := some 45) (by kernel_rfl) (h.e0 (dep ho hall 0 (by kernel_rfl))) ((h.bw.cell (p := ⟨xb, 0, none⟩) hxb).trans hcx) ?_
      exact ⟨h.fe.put (by decide) _, fun hl => (ev_ne _ _ (by decide)).trans (h.e0 ((up 0 (by decide)).1 hl)), fun _ => ev_eq _ _ (by omega), fun hl => (ev_ne _ _ (by decide)).trans (h.e2 ((up 2 (by decide)).1 hl)), fun hl => (h.e3 ((up 3 (by decide)).1 hl)).imp (fun z => (hu 7).2 (.inr z)) (fun ⟨v, e, q⟩ => ⟨v, (ev_ne _ _ (by decide)).trans e, q⟩), fun hl => (ev_ne _ _ (by decide)).trans (h.e4 ((up 4 (by decide)).1 hl)), fun hl => (ev_ne _ _ (by decide)).trans (h.e5 ((up 5 (by decide)).1 hl)), fun hl => (h.e6 ((up 6 (by decide)).1 hl)).imp (fun z => (hu 7).2 (.inr z)) (fun ⟨v, e, q⟩ => ⟨v, (ev_ne _ _ (by decide)).trans e, q⟩), fun hl => (h.e7 ((up 7 (by decide)).1 hl)).imp (fun v ⟨e, q⟩ => ⟨(ev_ne _ _ (by decide)).trans e, q⟩), fun hl => (ev_ne _ _ (by decide)).trans ((h.e8 ((up 8 (by decide)).1 hl)).trans (ev_ne _ _ (by decide)).symm), fun hl => (ev_ne _ _ (by decide)).trans (h.e9 ((up 9 (by decide)).1 hl)), fun hl => (ev_ne _ _ (by decide)).trans (h.e10 ((up 10 (by decide)).1 hl)), d7, d8, h.bw⟩
    | 2, _ =>
      refine op_convB ho (.tmp 45) (d := some 46) (by kernel_rfl) (h.e1 (dep ho hall 1 (by kernel_rfl))) ?_
      exact ⟨h.fe.put (by decide) _, fun hl => (ev_ne _ _ (by decide)).trans (h.e0 ((up 0 (by decide)).1 hl)), fun hl => (ev_ne _ _ (by decide)).trans (h.e1 ((up 1 (by decide)).1 hl)), fun _ => ev_eq _ _ (by omega), fun hl => (h.e3 ((up 3 (by decide)).1 hl)).imp (fun z => (hu 7).2 (.inr z)) (fun ⟨v, e, q⟩ => ⟨v, (ev_ne _ _ (by decide)).trans e, q⟩), fun hl => (ev_ne _ _ (by decide)).trans (h.e4 ((up 4 (by decide)).1 hl)), fun hl => (ev_ne _ _ (by decide)).trans (h.e5 ((up 5 (by decide)).1 hl)), fun hl => (h.e6 ((up 6 (by decide)).1 hl)).imp (fun z => (hu 7).2 (.inr z)) (fun ⟨v, e, q⟩ => ⟨v, (ev_ne _ _ (by decide)).trans e, q⟩), fun hl => (h.e7 ((up 7 (by decide)).1 hl)).imp (fun v ⟨e, q⟩ => ⟨(ev_ne _ _ (by decide)).trans e, q⟩), fun hl => (ev_ne _ _ (by decide)).trans ((h.e8 ((up 8 (by decide)).1 hl)).trans (ev_ne _ _ (by decide)).symm), fun hl => (ev_ne _ _ (by decide)).trans (h.e9 ((up 9 (by decide)).1 hl)), fun hl => (ev_ne _ _ (by decide)).trans (h.e10 ((up 10 (by decide)).1 hl)), d7, d8, h.bw⟩
    | 3, _ =>
      refine op_build1 ho (.tmp 46) (d := some 47) (by kernel_rfl) (h.e2 (dep ho hall 2 (by kernel_rfl))) ?_
      have hBu : B ≤ u.heap.size := Nat.le_trans hB h.bw.size
      have bz : Below u.heap.size u (u.alloc (.cells #[.int .u8 (k % 256)] 5)) := (Below.refl _ _).alloc (Nat.le_refl _) _
      have bb := h.bw.trans (bz.mono hBu)
      have own : OwnB (u.alloc (.cells #[.int .u8 (k % 256)] 5)) B (.slice (some ⟨u.heap.size, 0, none⟩) 1 1) 1 [k % 256] := World.ownsRow_lit u #[.int .u8 (k % 256)] 1 hBu (by unfold maxLen; omega) rfl
      exact ⟨h.fe.put (by decide) _, fun hl => (ev_ne _ _ (by decide)).trans (h.e0 ((up 0 (by decide)).1 hl)), fun hl => (ev_ne _ _ (by decide)).trans (h.e1 ((up 1 (by decide)).1 hl)), fun hl => (ev_ne _ _ (by decide)).trans (h.e2 ((up 2 (by decide)).1 hl)), fun _ => .inr ⟨_, ev_eq _ _ (by omega), own⟩, fun hl => (ev_ne _ _ (by decide)).trans (h.e4 ((up 4 (by decide)).1 hl)), fun hl => (ev_ne _ _ (by decide)).trans (h.e5 ((up 5 (by decide)).1 hl)), fun hl => (h.e6 ((up 6 (by decide)).1 hl)).imp (fun z => (hu 7).2 (.inr z)) (fun ⟨v, e, q⟩ => ⟨v, (ev_ne _ _ (by decide)).trans e, q.below bz (Nat.le_refl _)⟩), fun hl => absurd (h.d7 ((up 7 (by decide)).1 hl)).1 hno, fun hl => (ev_ne _ _ (by decide)).trans ((h.e8 ((up 8 (by decide)).1 hl)).trans (ev_ne _ _ (by decide)).symm), fun hl => (ev_ne _ _ (by decide)).trans (h.e9 ((up 9 (by decide)).1 hl)), fun hl => (ev_ne _ _ (by decide)).trans (h.e10 ((up 10 (by decide)).1 hl)), d7, d8, bb⟩
    | 4, _ =>
      refine op_loadM ho (.tmp 6) (d := some 48) (by kernel_rfl) q6 ((h.bw.block mb hmb).trans hm) ?_
      exact ⟨h.fe.put (by decide) _, fun hl => (ev_ne _ _ (by decide)).trans (h.e0 ((up 0 (by decide)).1 hl)), fun hl => (ev_ne _ _ (by decide)).trans (h.e1 ((up 1 (by decide)).1 hl)), fun hl => (ev_ne _ _ (by decide)).trans (h.e2 ((up 2 (by decide)).1 hl)), fun hl => (h.e3 ((up 3 (by decide)).1 hl)).imp (fun z => (hu 7).2 (.inr z)) (fun ⟨v, e, q⟩ => ⟨v, (ev_ne _ _ (by decide)).trans e, q⟩), fun _ => ev_eq _ _ (by omega), fun hl => (ev_ne _ _ (by decide)).trans (h.e5 ((up 5 (by decide)).1 hl)), fun hl => (h.e6 ((up 6 (by decide)).1 hl)).imp (fun z => (hu 7).2 (.inr z)) (fun ⟨v, e, q⟩ => ⟨v, (ev_ne _ _ (by decide)).trans e, q⟩), fun hl => (h.e7 ((up 7 (by decide)).1 hl)).imp (fun v ⟨e, q⟩ => ⟨(ev_ne _ _ (by decide)).trans e, q⟩), fun hl => (ev_ne _ _ (by decide)).trans ((h.e8 ((up 8 (by decide)).1 hl)).trans (ev_ne _ _ (by decide)).symm), fun hl => (ev_ne _ _ (by decide)).trans (h.e9 ((up 9 (by decide)).1 hl)), fun hl => (ev_ne _ _ (by decide)).trans (h.e10 ((up 10 (by decide)).1 hl)), d7, d8, h.bw⟩
    | 5, _ =>
      refine op_move ho (.tmp 5) (d := some 49) (by kernel_rfl) ?_
      rw [q5]
      exact ⟨h.fe.put (by decide) _, fun hl => (ev_ne _ _ (by decide)).trans (h.e0 ((up 0 (by decide)).1 hl)), fun hl => (ev_ne _ _ (by decide)).trans (h.e1 ((up 1 (by decide)).1 hl)), fun hl => (ev_ne _ _ (by decide)).trans (h.e2 ((up 2 (by decide)).1 hl)), fun hl => (h.e3 ((up 3 (by decide)).1 hl)).imp (fun z => (hu 7).2 (.inr z)) (fun ⟨v, e, q⟩ => ⟨v, (ev_ne _ _ (by decide)).trans e, q⟩), fun hl => (ev_ne _ _ (by decide)).trans (h.e4 ((up 4 (by decide)).1 hl)), fun _ => ev_eq _ _ (by omega), fun hl => (h.e6 ((up 6 (by decide)).1 hl)).imp (fun z => (hu 7).2 (.inr z)) (fun ⟨v, e, q⟩ => ⟨v, (ev_ne _ _ (by decide)).trans e, q⟩), fun hl => (h.e7 ((up 7 (by decide)).1 hl)).imp (fun v ⟨e, q⟩ => ⟨(ev_ne _ _ (by decide)).trans e, q⟩), fun hl => (ev_ne _ _ (by decide)).trans ((h.e8 ((up 8 (by decide)).1 hl)).trans (ev_ne _ _ (by decide)).symm), fun hl => (ev_ne _ _ (by decide)).trans (h.e9 ((up 9 (by decide)).1 hl)), fun hl => (ev_ne _ _ (by decide)).trans (h.e10 ((up 10 (by decide)).1 hl)), d7, d8, h.bw⟩
    | 6, _ =>
      have hBu : B ≤ u.heap.size := Nat.le_trans hB h.bw.size
      refine op_call2 ho 30 (.tmp 48) (.tmp 49) 63 60 (d := some 50) (by kernel_rfl) Tryd.func30 rfl (by kernel_rfl) (R := fun e u' => ∃ v, e = .returned v ∧ OwnB u' u.heap.size v n ys ∧ Below u.heap.size u u') (by rw [h.e4 (dep ho hall 4 (by kernel_rfl)), h.e5 (dep ho hall 5 (by kernel_rfl))]; exact HW u h.bw) ?_
      rintro e u' ⟨v, rfl, hown, bz⟩
      refine ⟨v, rfl, ?_⟩
      have bb := h.bw.trans (bz.mono hBu)
      have own := hown.mono hBu
      exact ⟨h.fe.put (by decide) _, fun hl => (ev_ne _ _ (by decide)).trans (h.e0 ((up 0 (by decide)).1 hl)), fun hl => (ev_ne _ _ (by decide)).trans (h.e1 ((up 1 (by decide)).1 hl)), fun hl => (ev_ne _ _ (by decide)).trans (h.e2 ((up 2 (by decide)).1 hl)), fun hl => (h.e3 ((up 3 (by decide)).1 hl)).imp (fun z => (hu 7).2 (.inr z)) (fun ⟨v, e, q⟩ => ⟨v, (ev_ne _ _ (by decide)).trans e, q.below bz (Nat.le_refl _)⟩), fun hl => (ev_ne _ _ (by decide)).trans (h.e4 ((up 4 (by decide)).1 hl)), fun hl => (ev_ne _ _ (by decide)).trans (h.e5 ((up 5 (by decide)).1 hl)), fun _ => .inr ⟨_, ev_eq _ _ (by omega), own⟩, fun hl => absurd (h.d7 ((up 7 (by decide)).1 hl)).2 hno, fun hl => (ev_ne _ _ (by decide)).trans ((h.e8 ((up 8 (by decide)).1 hl)).trans (ev_ne _ _ (by decide)).symm), fun hl => (ev_ne _ _ (by decide)).trans (h.e9 ((up 9 (by decide)).1 hl)), fun hl => (ev_ne _ _ (by decide)).trans (h.e10 ((up 10 (by decide)).1 hl)), d7, d8, bb⟩
    | 7, _ =>
      have hBu : B ≤ u.heap.size := Nat.le_trans hB h.bw.size
      obtain ⟨f1, f2, f3⟩ := fields (d := some 51) (p := Op.call { callee := Callee.builtin Builtin.append, args := #[.tmp 47, .tmp 50], argTypes := #[22, 22] }) ho (by kernel_rfl)
      obtain ⟨v3, q3, o3⟩ := (h.e3 (dep ho hall 3 (by kernel_rfl))).resolve_left hno
      obtain ⟨v6, q6', o6⟩ := (h.e6 (dep ho hall 6 (by kernel_rfl))).resolve_left hno
      obtain ⟨s6, c6, rfl, hB6⟩ := o6.isB
      have hn6 := hB6.1
      obtain ⟨b6, off6, rfl, hlt6, hc6⟩ := hB6.2.2.2 hn0
      refine op_plain ho f3 ?_
      refine wp_append_own u (.tmp 47) (.tmp 50) 22 f2 B 5 i0 (.int .u8 0) 1 1 Tryd.underlying22 hi0 hz0 hz1 hz2 rfl (by decide) v3 1 (ints [k % 256]) q3 o3 ⟨b6, off6, none⟩ n c6 (ints ys) q6' (by simp [ints, hn6]) ?_ ?_ (by unfold maxLen; omega) (by omega) hBu ?_
      · intro j u' hj
        have hjl : j < n := by
          have := (List.getElem?_eq_some_iff.1 hj).1
          simp [ints, hn6] at this
          exact this
        rw [add_lit, hc6 j hjl, ← hj]
        simp [ints, List.getD_eq_getElem?_getD, hn6, hjl]
      · intro u' hu'
        obtain ⟨z, -, rfl⟩ := List.mem_map.1 hu'
        rfl
      · intro v' w' hown' hgrow _
        rw [f1]
        have own : OwnB w' B v' (1 + n) ([k % 256] ++ ys) := by
          show w'.ownsRow _ _ _ _ _ _
          have e : ints ([k % 256] ++ ys) = ints [k % 256] ++ ints ys := by simp [ints]
          rw [e]
          exact hown'
        have bb : Below B wd w' := h.bw.grown hgrow hBu (fun z hz => (World.ownsRow.lt o3 z hz).1)
        exact ⟨h.fe.put (by decide) _, fun hl => (ev_ne _ _ (by decide)).trans (h.e0 ((up 0 (by decide)).1 hl)), fun hl => (ev_ne _ _ (by decide)).trans (h.e1 ((up 1 (by decide)).1 hl)), fun hl => (ev_ne _ _ (by decide)).trans (h.e2 ((up 2 (by decide)).1 hl)), fun _ => .inl ((hu 7).2 (.inl rfl)), fun hl => (ev_ne _ _ (by decide)).trans (h.e4 ((up 4 (by decide)).1 hl)), fun hl => (ev_ne _ _ (by decide)).trans (h.e5 ((up 5 (by decide)).1 hl)), fun _ => .inl ((hu 7).2 (.inl rfl)), fun _ => ⟨_, ev_eq _ _ (by omega), own⟩, fun hl => absurd (h.d8 ((up 8 (by decide)).1 hl)) hno, fun hl => (ev_ne _ _ (by decide)).trans (h.e9 ((up 9 (by decide)).1 hl)), fun hl => (ev_ne _ _ (by decide)).trans (h.e10 ((up 10 (by decide)).1 hl)), d7, d8, bb⟩
    | 8, _ =>
      refine op_assign ho (.tmp 51) (d := some 2) (by kernel_rfl) ?_
      exact ⟨h.fe.put (by decide) _, fun hl => (ev_ne _ _ (by decide)).trans (h.e0 ((up 0 (by decide)).1 hl)), fun hl => (ev_ne _ _ (by decide)).trans (h.e1 ((up 1 (by decide)).1 hl)), fun hl => (ev_ne _ _ (by decide)).trans (h.e2 ((up 2 (by decide)).1 hl)), fun hl => (h.e3 ((up 3 (by decide)).1 hl)).imp (fun z => (hu 7).2 (.inr z)) (fun ⟨v, e, q⟩ => ⟨v, (ev_ne _ _ (by decide)).trans e, q⟩), fun hl => (ev_ne _ _ (by decide)).trans (h.e4 ((up 4 (by decide)).1 hl)), fun hl => (ev_ne _ _ (by decide)).trans (h.e5 ((up 5 (by decide)).1 hl)), fun hl => (h.e6 ((up 6 (by decide)).1 hl)).imp (fun z => (hu 7).2 (.inr z)) (fun ⟨v, e, q⟩ => ⟨v, (ev_ne _ _ (by decide)).trans e, q⟩), fun hl => (h.e7 ((up 7 (by decide)).1 hl)).imp (fun v ⟨e, q⟩ => ⟨(ev_ne _ _ (by decide)).trans e, q⟩), fun _ => (ev_eq _ _ (by omega)).trans (ev_ne _ _ (by decide)).symm, fun hl => (ev_ne _ _ (by decide)).trans (h.e9 ((up 9 (by decide)).1 hl)), fun hl => (ev_ne _ _ (by decide)).trans (h.e10 ((up 10 (by decide)).1 hl)), d7, d8, h.bw⟩
    | 9, _ =>
      refine op_assign ho (.const (.int .i64 0)) (d := some 3) (by kernel_rfl) ?_
      show I15 a0 wd B xb lb len k M n ys L' (x.put (some 3) (.int .i64 0)) u
      exact ⟨h.fe.put (by decide) _, fun hl => (ev_ne _ _ (by decide)).trans (h.e0 ((up 0 (by decide)).1 hl)), fun hl => (ev_ne _ _ (by decide)).trans (h.e1 ((up 1 (by decide)).1 hl)), fun hl => (ev_ne _ _ (by decide)).trans (h.e2 ((up 2 (by decide)).1 hl)), fun hl => (h.e3 ((up 3 (by decide)).1 hl)).imp (fun z => (hu 7).2 (.inr z)) (fun ⟨v, e, q⟩ => ⟨v, (ev_ne _ _ (by decide)).trans e, q⟩), fun hl => (ev_ne _ _ (by decide)).trans (h.e4 ((up 4 (by decide)).1 hl)), fun hl => (ev_ne _ _ (by decide)).trans (h.e5 ((up 5 (by decide)).1 hl)), fun hl => (h.e6 ((up 6 (by decide)).1 hl)).imp (fun z => (hu 7).2 (.inr z)) (fun ⟨v, e, q⟩ => ⟨v, (ev_ne _ _ (by decide)).trans e, q⟩), fun hl => (h.e7 ((up 7 (by decide)).1 hl)).imp (fun v ⟨e, q⟩ => ⟨(ev_ne _ _ (by decide)).trans e, q⟩), fun hl => (ev_ne _ _ (by decide)).trans ((h.e8 ((up 8 (by decide)).1 hl)).trans (ev_ne _ _ (by decide)).symm), fun _ => ev_eq _ _ (by omega), fun hl => (ev_ne _ _ (by decide)).trans (h.e10 ((up 10 (by decide)).1 hl)), d7, d8, h.bw⟩
    | 10, _ =>
      refine op_assign ho (.const (.int .i64 (-1))) (d := some 4) (by kernel_rfl) ?_
      show I15 a0 wd B xb lb len k M n ys L' (x.put (some 4) (.int .i64 (-1))) u
      exact ⟨h.fe.put (by decide) _, fun hl => (ev_ne _ _ (by decide)).trans (h.e0 ((up 0 (by decide)).1 hl)), fun hl => (ev_ne _ _ (by decide)).trans (h.e1 ((up 1 (by decide)).1 hl)), fun hl => (ev_ne _ _ (by decide)).trans (h.e2 ((up 2 (by decide)).1 hl)), fun hl => (h.e3 ((up 3 (by decide)).1 hl)).imp (fun z => (hu 7).2 (.inr z)) (fun ⟨v, e, q⟩ => ⟨v, (ev_ne _ _ (by decide)).trans e, q⟩), fun hl => (ev_ne _ _ (by decide)).trans (h.e4 ((up 4 (by decide)).1 hl)), fun hl => (ev_ne _ _ (by decide)).trans (h.e5 ((up 5 (by decide)).1 hl)), fun hl => (h.e6 ((up 6 (by decide)).1 hl)).imp (fun z => (hu 7).2 (.inr z)) (fun ⟨v, e, q⟩ => ⟨v, (ev_ne _ _ (by decide)).trans e, q⟩), fun hl => (h.e7 ((up 7 (by decide)).1 hl)).imp (fun v ⟨e, q⟩ => ⟨(ev_ne _ _ (by decide)).trans e, q⟩), fun hl => (ev_ne _ _ (by decide)).trans ((h.e8 ((up 8 (by decide)).1 hl)).trans (ev_ne _ _ (by decide)).symm), fun hl => (ev_ne _ _ (by decide)).trans (h.e9 ((up 9 (by decide)).1 hl)), fun _ => ev_eq _ _ (by omega), d7, d8, h.bw⟩
    | i + 11, hi => omega
  · rintro L x u h hall
    rw [ops15_size] at hall
    obtain ⟨v, hv, own⟩ := h.e7 (hall 7 (by decide))
    have h2 := (h.e8 (hall 8 (by decide))).trans hv
    have := hK u v (x.eval (.tmp 44)) (x.eval (.tmp 45)) (x.eval (.tmp 46)) (x.eval (.tmp 47)) (x.eval (.tmp 48)) (x.eval (.tmp 49)) (x.eval (.tmp 50)) own (by rw [hwd]; exact h.bw)
    have hp := Fe.puts [(44, x.eval (.tmp 44)), (45, x.eval (.tmp 45)), (46, x.eval (.tmp 46)), (47, x.eval (.tmp 47)), (48, x.eval (.tmp 48)), (49, x.eval (.tmp 49)), (50, x.eval (.tmp 50)), (51, v), (2, v), (3, .int .i64 0), (4, .int .i64 (-1))] a0 x h.fe (by
      intro p hp
      simp only [List.mem_cons, List.not_mem_nil, or_false] at hp
      rcases hp with rfl | rfl | rfl | rfl | rfl | rfl | rfl | rfl | rfl | rfl | rfl
      all_goals first | exact ⟨by show _ < _; simp only; omega, rfl⟩ | exact ⟨by show _ < _; simp only; omega, hv⟩ | exact ⟨by show _ < _; simp only; omega, h2⟩ | exact ⟨by show _ < _; simp only; omega, h.e9 (hall 9 (by decide))⟩ | exact ⟨by show _ < _; simp only; omega, h.e10 (hall 10 (by decide))⟩)
    rw [← hp] at this
    exact this
  · intro L hL
    rw [hwd]
    exact ⟨Fe.refl _ _, fun h => absurd h (hL _), fun h => absurd h (hL _), fun h => absurd h (hL _), fun h => absurd h (hL _), fun h => absurd h (hL _), fun h => absurd h (hL _), fun h => absurd h (hL _), fun h => absurd h (hL _), fun h => absurd h (hL _), fun h => absurd h (hL _), fun h => absurd h (hL _), fun h => absurd h (hL _), fun h => absurd h (hL _), Below.refl _ _⟩

end Go.Proofs.YtibnlfdnnlbeeaaDoor
