/-
  A region whose order is drawn, by one assertion on what has come up, within a round.
-/
import Derived.Test.YtpjnhjijipcjkaaMQ
import Derived.OrdersIn
import Derived.Deep.RegionHeld3
namespace Go.Proofs.Ytpjnhjijipcjkaa
open Go.RowKit
set_option linter.unusedVariables false

section
variable {F : Fence} {n : Nat} {P : Program} {md : Region.Mode} {ops : Array Oper} {Q : Exit → Act → World → Prop}

theorem count_set {l : List Bool} : ∀ {i : Nat}, l[i]? = some false → (l.set i true).count false + 1 = l.count false := by
  induction l with
  | nil => intro i h; simp at h
  | cons b l ih =>
    intro i h
    cases i with
    | zero =>
      simp at h
      subst h
      simp
    | succ i =>
      have := ih (i := i) (by simpa using h)
      simp only [List.set_cons_succ, List.count_cons]
      omega

theorem getD_false {a : Array Bool} {i : Nat} (h : a.getD i true = false) : a.toList[i]? = some false ∧ i < a.size := by
  by_cases hi : i < a.size
  · refine ⟨?_, hi⟩
    simp [Array.getD, hi] at h
    simp [hi, h]
  · simp [Array.getD, hi] at h

/-- Whatever the order: an assertion on what has come up so far, kept by each operation. -/
theorem wpAnyIn_inv (I : Array Bool → Act → World → Prop)
    (hs : ∀ listed a w (i : Nat) (o : Oper), I listed a w → ops[i]? = some o → listed.getD i true = false → (∀ e ∈ o.after, Region.binds md e = true → listed.getD e.on false = true) → wpOpIn F n P ops Q i (I (listed.setIfInBounds i true)) a w)
    (he : ∀ listed a w, I listed a w → (∀ (i : Nat) (o : Oper), ops[i]? = some o → listed.getD i true = false → ¬ (∀ e ∈ o.after, Region.binds md e = true → listed.getD e.on false = true)) → Q .normal a w) :
    ∀ fuel listed a w, listed.toList.count false ≤ fuel → I listed a w → wpAnyIn F n P md ops Q fuel listed a w := by
  have hend : ∀ listed a w, I listed a w → Region.ready md ops listed = [] → Q .normal a w := fun listed a w hI hr => he listed a w hI fun i o ho hu hall => by
    have : i ∈ Region.ready md ops listed := mem_ready.2 ⟨hu, o, ho, hall⟩
    rw [hr] at this
    cases this
  intro fuel
  induction fuel with
  | zero =>
    intro listed a w hc hI
    have hr : Region.ready md ops listed = [] := by
      cases h : Region.ready md ops listed with
      | nil => rfl
      | cons i l =>
        have hi : i ∈ Region.ready md ops listed := by rw [h]; simp
        have h1 := (getD_false (mem_ready.1 hi).1).1
        have h2 := count_set h1
        omega
    exact ⟨hr, hend _ _ _ hI hr⟩
  | succ fuel ih =>
    intro listed a w hc hI
    refine ⟨hend _ _ _ hI, fun i hi => ?_⟩
    obtain ⟨hu, o, ho, hall⟩ := mem_ready.1 hi
    refine wpOpIn_mono (fun a' w' h' => ih _ a' w' ?_ h') (hs listed a w i o hI ho hu hall)
    have h1 := count_set (getD_false hu).1
    rw [Array.toList_setIfInBounds]
    omega

/-- The region's operations in their order: each waits for earlier ones alone. -/
def Earlier (ops : Array Oper) : Prop := ∀ (i : Nat) (o : Oper), ops[i]? = some o → ∀ e ∈ o.after, Region.binds .any e = true → e.on < i

theorem all_listed (hT : Earlier ops) {listed : Array Bool} (hz : listed.size = ops.size)
    (h : ∀ (i : Nat) (o : Oper), ops[i]? = some o → listed.getD i true = false → ¬ (∀ e ∈ o.after, Region.binds .any e = true → listed.getD e.on false = true)) :
    ∀ i, i < ops.size → listed.getD i false = true := by
  intro i
  induction i using Nat.strongRecOn with
  | _ i ih =>
    intro hi
    have hl : i < listed.size := by omega
    cases hb : listed[i] with
    | true => simp [Array.getD, hl, hb]
    | false =>
      exfalso
      refine h i ops[i] (by simp [hi]) (by simp [Array.getD, hl, hb]) fun e he hb => ?_
      have h1 := hT i ops[i] (by simp [hi]) e he hb
      exact ih e.on h1 (by omega)

theorem wpIn_region_inv {id : Nat} {a : Act} {w : World} (hm : P.follows .mixedOrders = true) (hT : Earlier ops) (I : (Nat → Prop) → Act → World → Prop)
    (hs : ∀ (L L' : Nat → Prop) a w (i : Nat) (o : Oper), I L a w → ops[i]? = some o → ¬ L i → (∀ e ∈ o.after, Region.binds .any e = true → L e.on) → (∀ j, L' j ↔ (j = i ∨ L j)) → wpOpIn F n P ops Q i (I L') a w)
    (he : ∀ (L : Nat → Prop) a w, I L a w → (∀ i, i < ops.size → L i) → Q .normal a w)
    (h0 : ∀ L : Nat → Prop, (∀ i, ¬ L i) → I L a w.drew) : (Code.region id ops true).wpIn F n P Q a w := by
  refine wpIn_region_any hm (wpAnyIn_inv (fun listed a w => listed.size = ops.size ∧ I (fun i => listed.getD i false = true) a w) ?_ ?_ ops.size _ a _ ?_ ⟨by simp, h0 _ ?_⟩)
  · rintro listed a w i o ⟨hz, hI⟩ ho hu hall
    have hi := (getD_false hu).2
    refine wpOpIn_mono (fun a' w' h' => ⟨by simpa using hz, h'⟩) (hs _ _ a w i o hI ho ?_ hall ?_)
    · simp [Array.getD, hi] at hu ⊢
      exact hu
    · intro j
      by_cases hj : j = i
      · subst hj
        simp [Array.getD, hi]
      · simp only [hj, false_or]
        have : (listed.setIfInBounds i true).getD j false = listed.getD j false := by
          rw [Array.getD_eq_getD_getElem?, Array.getD_eq_getD_getElem?, Array.getElem?_setIfInBounds_ne (Ne.symm hj)]
        rw [this]
  · rintro listed a w ⟨hz, hI⟩ h
    exact he _ a w hI (all_listed hT hz h)
  · simp
  · intro i
    by_cases hi : i < ops.size <;> simp [Array.getD, hi]
end

/-! ### The frame -/
theorem ev_ne (a : Act) {d t : Nat} (v : Value) (h : t ≠ d) : (a.put (some d) v).eval (.tmp t) = a.eval (.tmp t) :=
  Act.eval_put (fun d' hd' => by injection hd' with e; subst e; intro he; injection he with he; exact h he)
theorem ev_eq (a : Act) {d : Nat} (v : Value) (h : d < a.tmps.size) : (a.put (some d) v).eval (.tmp d) = v := by simp [Act.eval, Act.put, h]

/-- All but the slots of D is as it was. -/
structure Fe (a a' : Act) (D : List Nat) : Prop where
  df : a'.defers = a.defers
  sz : a'.tmps.size = a.tmps.size
  eq : ∀ j, j ∉ D → a'.tmps[j]? = a.tmps[j]?
theorem Fe.refl (a : Act) (D : List Nat) : Fe a a D := ⟨rfl, rfl, fun _ _ => rfl⟩
theorem Fe.put {a a' : Act} {D : List Nat} (h : Fe a a' D) {d : Nat} (hd : d ∈ D) (v : Value) : Fe a (a'.put (some d) v) D :=
  ⟨h.df, by simp [Act.put, h.sz], fun j hj => by
    have hn : d ≠ j := fun e => hj (e ▸ hd)
    simp only [Act.put]
    rw [Array.getElem?_setIfInBounds_ne hn]
    exact h.eq j hj⟩
theorem Fe.ev {a a' : Act} {D : List Nat} (h : Fe a a' D) {j : Nat} (hj : j ∉ D) : a'.eval (.tmp j) = a.eval (.tmp j) := by
  simp only [Act.eval, Array.getD_eq_getD_getElem?, h.eq j hj]

def puts (a : Act) (l : List (Nat × Value)) : Act := l.foldl (fun a p => a.put (some p.1) p.2) a
theorem Fe.puts : ∀ (l : List (Nat × Value)) (a a' : Act), Fe a a' (l.map (·.1)) → (∀ p ∈ l, p.1 < a.tmps.size ∧ a'.eval (.tmp p.1) = p.2) → a' = puts a l
  | [], a, a', h, _ => by
    obtain ⟨t', d'⟩ := a'
    obtain ⟨t, d⟩ := a
    have h1 : d' = d := h.df
    have h2 : t' = t := Array.ext_getElem? (fun i => h.eq i (by simp))
    subst h1 h2
    rfl
  | p :: l, a, a', h, hp => by
    refine Fe.puts l (a.put (some p.1) p.2) a' ⟨h.df, by simp [Act.put, h.sz], fun j hj => ?_⟩ (fun x hx => ⟨by simpa [Act.put] using (hp x (by simp [hx])).1, (hp x (by simp [hx])).2⟩)
    by_cases e : j = p.1
    · subst e
      obtain ⟨h1, h2⟩ := hp p (by simp)
      have h3 : p.1 < a'.tmps.size := by rw [h.sz]; exact h1
      simp [Act.eval, h3] at h2
      simp [Act.put, h1, h3, h2]
    · simp only [Act.put]
      rw [Array.getElem?_setIfInBounds_ne (Ne.symm e)]
      exact h.eq j (by simp [e, hj])

def opsAt (n : Nat) : Code → Option (Array Oper)
  | .region k ops _ => if k = n then some ops else none
  | .seq a b => (opsAt n a).orElse fun _ => opsAt n b
  | .block _ c => opsAt n c
  | .scope c => opsAt n c
  | .cond _ a b => (opsAt n a).orElse fun _ => opsAt n b
  | .loop c => opsAt n c
  | .rangeFunc _ _ _ c => opsAt n c
  | _ => none
section
variable {P : Program} {ops : Array Oper} {o : Oper} {a : Act} {w : World} {K : Act → World → Prop} {Q : Exit → Act → World → Prop} {i : Nat}

theorem fields {d : Option Tmp} {p : Op} (ho : ops[i]? = some o) (h : (ops[i]?).map (fun o => (o.dst, o.op, o.guard)) = some (d, p, none)) : o.dst = d ∧ o.op = p ∧ o.guard = none := by
  rw [ho] at h
  simpa using h
theorem depI {L : Nat → Prop} (ho : ops[i]? = some o) (hall : ∀ e ∈ o.after, Region.binds .any e = true → L e.on) (k : Nat) (h : (ops[i]?).map (fun o => o.after.any (fun e => Region.binds .any e && e.on == k)) = some true) : L k := by
  rw [ho] at h
  simp only [Option.map_some, Option.some.injEq, Array.any_eq_true'] at h
  obtain ⟨e, he, hb⟩ := h
  simp only [Bool.and_eq_true, beq_iff_eq] at hb
  exact hb.2 ▸ hall e he hb.1
end

section
variable {ops : Array Oper} {o : Oper} {a : Act} {w : World} {K : Act → World → Prop} {Q : Exit → Act → World → Prop} {i l N : Nat}
theorem oi_plain (ho : ops[i]? = some o) (hg : o.guard = none) (hnd : ∀ c, o.op ≠ .defer c) (h : o.uponIn (Fence.wide.inRound l) N Try.prog a K Q ((execOp a.eval o).run Try.prog w)) : wpOpIn (Fence.wide.inRound l) N Try.prog ops Q i K a w := by
  unfold wpOpIn
  rw [ho]
  simp only [Region.wanted, hg, if_true]
  refine ⟨fun _ _ => trivial, ?_⟩
  rw [show (Fence.wide.inRound l).round = some l from rfl, Oper.semAt_some l _ _ hnd]
  exact h
theorem oi_load1 (ho : ops[i]? = some o) (x : Operand) {d : Option Tmp} (h : (ops[i]?).map (fun o => (o.dst, o.op, o.guard)) = some (d, Op.load 61 x, none)) {p j : Nat} {v : Value} (hx : a.eval x = .pointer (some ⟨p, j, none⟩)) (hc : w.cell? ⟨p, j, none⟩ = some v) (hK : K (a.put d v) w) : wpOpIn (Fence.wide.inRound l) N Try.prog ops Q i K a w := by
  obtain ⟨h1, h2, h3⟩ := fields ho h
  refine oi_plain ho h3 (fun c => by rw [h2]; simp) ?_
  simp only [execOp, h2, hx]
  go_simp
  exact hK
theorem oi_load2 (ho : ops[i]? = some o) (x : Operand) {d : Option Tmp} (h : (ops[i]?).map (fun o => (o.dst, o.op, o.guard)) = some (d, Op.load 28 x, none)) {p j : Nat} {v : Value} (hx : a.eval x = .pointer (some ⟨p, j, none⟩)) (hc : w.cell? ⟨p, j, none⟩ = some v) (hK : K (a.put d v) w) : wpOpIn (Fence.wide.inRound l) N Try.prog ops Q i K a w := by
  obtain ⟨h1, h2, h3⟩ := fields ho h
  refine oi_plain ho h3 (fun c => by rw [h2]; simp) ?_
  simp only [execOp, h2, hx]
  go_simp
  exact hK
theorem oi_loadO (ho : ops[i]? = some o) (x : Operand) {d : Option Tmp} (h : (ops[i]?).map (fun o => (o.dst, o.op, o.guard)) = some (d, Op.load 56 x, none)) {p il ic : Nat} {k s n v : Int} {ia : Option Addr} (hx : a.eval x = .pointer (some ⟨p, 0, none⟩)) (h0 : w.cell? ⟨p, 0, none⟩ = some (.int .i64 k)) (h1 : w.cell? ⟨p, 1, none⟩ = some (.int .i64 s)) (h2 : w.cell? ⟨p, 2, none⟩ = some (.int .i64 n)) (h3 : w.cell? ⟨p, 3, none⟩ = some (.int .i64 v)) (h4 : w.cell? ⟨p, 4, none⟩ = some (.slice ia il ic)) (hK : K (a.put d (opA k s n v ia il ic)) w) : wpOpIn (Fence.wide.inRound l) N Try.prog ops Q i K a w := by
  obtain ⟨e1, e2, e3⟩ := fields ho h
  refine oi_plain ho e3 (fun c => by rw [e2]; simp) ?_
  simp only [execOp, e2, hx]
  go_simp
  exact hK
theorem oi_nil (ho : ops[i]? = some o) (x : Operand) {d : Option Tmp} (h : (ops[i]?).map (fun o => (o.dst, o.op, o.guard)) = some (d, Op.nilCheck x, none)) {p j : Nat} (hx : a.eval x = .pointer (some ⟨p, j, none⟩)) (hK : K (a.put d (.pointer (some ⟨p, j, none⟩))) w) : wpOpIn (Fence.wide.inRound l) N Try.prog ops Q i K a w := by
  obtain ⟨h1, h2, h3⟩ := fields ho h
  refine oi_plain ho h3 (fun c => by rw [h2]; simp) ?_
  simp only [execOp, h2, hx]
  go_simp
  exact hK
theorem oi_field (ho : ops[i]? = some o) (x : Operand) {d : Option Tmp} (h : (ops[i]?).map (fun o => (o.dst, o.op, o.guard)) = some (d, Op.fieldAddr 74 x 0, none)) {p j : Nat} (hx : a.eval x = .pointer (some ⟨p, j, none⟩)) (hK : K (a.put d (.pointer (some ⟨p, j, none⟩))) w) : wpOpIn (Fence.wide.inRound l) N Try.prog ops Q i K a w := by
  obtain ⟨h1, h2, h3⟩ := fields ho h
  refine oi_plain ho h3 (fun c => by rw [h2]; simp) ?_
  simp only [execOp, h2, hx]
  go_simp
  exact hK
theorem oi_assign (ho : ops[i]? = some o) (x : Operand) {d : Option Tmp} (h : (ops[i]?).map (fun o => (o.dst, o.op, o.guard)) = some (d, Op.assign x, none)) {v : Value} (hx : a.eval x = v) (hK : K (a.put d v) w) : wpOpIn (Fence.wide.inRound l) N Try.prog ops Q i K a w := by
  obtain ⟨h1, h2, h3⟩ := fields ho h
  refine oi_plain ho h3 (fun c => by rw [h2]; simp) ?_
  simp [execOp, h2, Oper.uponIn]
  rw [h1, hx]
  exact hK
theorem oi_call (ho : ops[i]? = some o) (f : FuncId) (xs : Array Operand) (ts : Array TypeId) {d : Option Tmp} (h : (ops[i]?).map (fun o => (o.dst, o.op, o.guard)) = some (d, Op.call { callee := .value (.func f), args := xs, argTypes := ts }, none)) {fn : Func} {c : Code} (hf : Try.prog.funcs[f]? = some fn) (hb : fn.body = some c) (hnm : (fn.name == "runtime.NumGoroutine") = false) {R : Ending → World → Prop} {vs : Array Value} (hvs : xs.map a.eval = vs) (hC : Calls Try.prog f vs w R) (hK : ∀ e w', R e w' → ∃ v, e = .returned v ∧ K (a.put d v) w') : wpOpIn (Fence.wide.inRound l) N Try.prog ops Q i K a w := by
  obtain ⟨h1, h2, h3⟩ := fields ho h
  refine oi_plain ho h3 (fun c => by rw [h2]; simp) ?_
  have e1 : (execOp a.eval o).run Try.prog w = .ok (.enter f vs) w := by
    simp [execOp, h2, resolve, invoke, Deferred.ofValue, show a.eval (.func f) = .func (.func f) #[] #[] from rfl, callFunc, hf, hb, hvs]
    simpa using hnm
  rw [e1, Oper.uponIn_enter]
  refine ⟨fun hh => by simp [Fence.wide] at hh, CallsIn.inRound l (callsIn_wide.2 (hC.mono fun e w' h => ?_))⟩
  obtain ⟨v, rfl, hk⟩ := hK e w' h
  rw [h1]
  exact hk
end

end Go.Proofs.Ytpjnhjijipcjkaa
