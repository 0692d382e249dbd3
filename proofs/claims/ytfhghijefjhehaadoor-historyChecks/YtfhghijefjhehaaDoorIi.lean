/-
  Drawn regions with calls that make new blocks at most: one that lays a new object, one that stores at its end.
-/
import Derived.Test.YtfhghijefjhehaaDoorIh
import Derived.Test.YtfhghijefjhehaaDoorHi
namespace Go.Proofs.YtfhghijefjhehaaDoor
open Go.RowKit
set_option linter.unusedVariables false

section
variable {ops : Array Oper} {o : Oper} {a : Act} {w : World} {K : Act → World → Prop} {Q : Exit → Act → World → Prop} {i : Nat}
theorem og_call2 {g : Option (Nat × Bool)} (ho : ops[i]? = some o) (f : FuncId) (x y : Operand) (t u : TypeId) {d : Option Tmp} (h : (ops[i]?).map (fun o => (o.dst, o.op, o.guard)) = some (d, Op.call { callee := .value (.func f), args := #[x, y], argTypes := #[t, u] }, g)) (hw : gOk ops a g) {fn : Func} {c : Code} (hf : Tryd.prog.funcs[f]? = some fn) (hb : fn.body = some c) (hnm : (fn.name == "runtime.NumGoroutine") = false) {R : Ending → World → Prop} (hC : Calls Tryd.prog f #[a.eval x, a.eval y] w R) (hK : ∀ e w', R e w' → ∃ v, e = .returned v ∧ K (a.put d v) w') : wpOp Tryd.prog ops Q i K a w := by
  obtain ⟨h1, h2, h3⟩ := flds ho h
  refine og_plain ho h3 hw ?_
  unfold Oper.wp
  have e1 : (execOp a.eval o).run Tryd.prog w = .ok (.enter f #[a.eval x, a.eval y]) w := by
    simp [execOp, h2, resolve, invoke, Deferred.ofValue, show a.eval (.func f) = .func (.func f) #[] #[] from rfl, callFunc, hf, hb]
    simpa using hnm
  rw [e1]
  show Calls Tryd.prog f #[a.eval x, a.eval y] w _
  refine hC.mono fun e w' h => ?_
  obtain ⟨v, rfl, hk⟩ := hK e w' h
  rw [h1]
  exact hk
end

/-- Quiet operations and calls have put V j into their slots; ka lays a new block, N fills it. -/
structure JA (ops : Array Oper) (σ : Nat → Nat) (N ka : Nat) (V : Nat → Value) (a0 : Act) (w : World) (Z D : Array Value) (T : TypeId) (L : Nat → Prop) (a : Act) (u : World) : Prop where
  fe : Fe a0 a ((List.range N).map σ)
  e : ∀ j, j < N → j ≠ ka → L j → a.eval (.tmp (σ j)) = V j
  dc : Dc ops L
  n : Below w.heap.size w u
  al : L ka → ∃ g, a.eval (.tmp (σ ka)) = .pointer (some ⟨g, 0, none⟩) ∧ w.heap.size ≤ g ∧ (¬ L N → u.heap[g]? = some (.cells Z T (0, 0))) ∧ (L N → u.heap[g]? = some (.cells D T (0, 0)))

section
variable {ops : Array Oper} {σ : Nat → Nat} {N ka : Nat} {V : Nat → Value} {a0 : Act} {w : World} {Z D : Array Value} {T : TypeId} {L L' : Nat → Prop} {a : Act} {u u' : World} {i : Nat} {o : Oper}
theorem JA.next (h : JA ops σ N ka V a0 w Z D T L a u) (ho : ops[i]? = some o) (hall : ∀ e ∈ o.after, Region.binds .any e = true → L e.on) (hi : i < N) (ib : i ≠ ka) (hb : ka < N) (hinj : ∀ i j, i < N → j < N → σ i = σ j → i = j) (hz : ∀ j, j < N → σ j < a0.tmps.size) (hu : ∀ j, L' j ↔ (j = i ∨ L j)) (hB : Below u.heap.size u u') :
    JA ops σ N ka V a0 w Z D T L' (a.put (some (σ i)) (V i)) u' := by
  have la : L' ka ↔ L ka := by rw [hu]; exact ⟨fun h => h.resolve_left (Ne.symm ib), .inr⟩
  have lN : L' N ↔ L N := by rw [hu]; exact ⟨fun h => h.resolve_left (by omega), .inr⟩
  have k1 : (a.put (some (σ i)) (V i)).eval (.tmp (σ ka)) = a.eval (.tmp (σ ka)) := ev_ne _ _ (fun he => ib (hinj _ _ hb hi he).symm)
  refine ⟨h.fe.put (List.mem_map.2 ⟨i, List.mem_range.2 hi, rfl⟩) _, fun j hj j1 hl => ?_, h.dc.next ho hall hu, h.n.trans (hB.mono h.n.size), ?_⟩
  · by_cases e : j = i
    · subst e
      exact ev_eq _ _ (by rw [h.fe.sz]; exact hz j hj)
    · exact (ev_ne _ _ (fun he => e (hinj j i hj hi he))).trans (h.e j hj j1 (((hu j).1 hl).resolve_left e))
  · rw [la, lN, k1]
    intro hl
    obtain ⟨g, g1, g2, g3, g4⟩ := h.al hl
    exact ⟨g, g1, g2, fun hn => block_keep hB (g3 hn) (block_lt (g3 hn)), fun hn => block_keep hB (g4 hn) (block_lt (g4 hn))⟩
theorem JA.lay (h : JA ops σ N ka V a0 w Z D T L a u) (ho : ops[ka]? = some o) (hall : ∀ e ∈ o.after, Region.binds .any e = true → L e.on) (hno : ¬ L ka) (hb : ka < N) (hinj : ∀ i j, i < N → j < N → σ i = σ j → i = j) (hz : ∀ j, j < N → σ j < a0.tmps.size) (hu : ∀ j, L' j ↔ (j = ka ∨ L j)) (a2 : anc ops 40 N ka = true) :
    JA ops σ N ka V a0 w Z D T L' (a.put (some (σ ka)) (.pointer (some ⟨u.heap.size, 0, none⟩))) (u.alloc (.cells Z T)) := by
  have nN : ¬ L N := fun hl => hno (anc_spec h.dc _ _ _ a2 hl)
  have lN : L' N ↔ L N := by rw [hu]; exact ⟨fun h => h.resolve_left (by omega), .inr⟩
  refine ⟨h.fe.put (List.mem_map.2 ⟨ka, List.mem_range.2 hb, rfl⟩) _, fun j hj j1 hl => ?_, h.dc.next ho hall hu, h.n.alloc h.n.size _, fun _ => ⟨_, ev_eq _ _ (by rw [h.fe.sz]; exact hz ka hb), h.n.size, fun _ => heap_alloc_new _ _, fun hl => absurd (lN.1 hl) nN⟩⟩
  exact (ev_ne _ _ (fun he => j1 (hinj j ka hj hb he))).trans (h.e j hj j1 (((hu j).1 hl).resolve_left j1))
theorem JA.fill (h : JA ops σ N ka V a0 w Z D T L a u) (ho : ops[N]? = some o) (hall : ∀ e ∈ o.after, Region.binds .any e = true → L e.on) (hno : ¬ L N) (hb : ka < N) (hu : ∀ j, L' j ↔ (j = N ∨ L j)) (la : L ka) {g : Nat} (hg : a.eval (.tmp (σ ka)) = .pointer (some ⟨g, 0, none⟩)) (hF : Below w.heap.size w u') (hD : u'.heap[g]? = some (.cells D T (0, 0))) :
    JA ops σ N ka V a0 w Z D T L' a u' := by
  have lN : L' N := (hu N).2 (.inl rfl)
  refine ⟨h.fe, fun j hj j1 hl => h.e j hj j1 (((hu j).1 hl).resolve_left (by omega)), h.dc.next ho hall hu, hF, fun _ => ?_⟩
  obtain ⟨g', g1, g2, -, -⟩ := h.al la
  have : g' = g := by
    rw [hg] at g1
    simpa using g1.symm
  subst this
  exact ⟨g', g1, g2, fun hn => absurd lN hn, fun _ => hD⟩
theorem JA.done (h : JA ops σ N ka V a0 w Z D T L a u) (hz : ∀ j, j < N → σ j < a0.tmps.size) (hb : ka < N) (hN : L N) (hk : L ka) : ∃ (V' : Nat → Value) (g : Nat), V' ka = .pointer (some ⟨g, 0, none⟩) ∧ w.heap.size ≤ g ∧ u.heap[g]? = some (.cells D T (0, 0)) ∧ a = puts a0 ((List.range N).map fun j => (σ j, V' j)) := by
  obtain ⟨g, g1, g2, -, g4⟩ := h.al hk
  refine ⟨fun j => a.eval (.tmp (σ j)), g, g1, g2, g4 hN, ?_⟩
  refine Fe.puts _ a0 a (by rw [List.map_map]; exact h.fe) (fun p hp => ?_)
  obtain ⟨j, hj, rfl⟩ := List.mem_map.1 hp
  exact ⟨hz j (List.mem_range.1 hj), rfl⟩
theorem JA.start (hdr : Below w.heap.size w w.drew) (hL : ∀ i, ¬ L i) : JA ops σ N ka V a0 w Z D T L a0 w.drew :=
  ⟨Fe.refl _ _, fun j _ _ h => absurd h (hL _), fun j o _ hl => absurd hl (hL _), hdr, fun h => absurd h (hL _)⟩
end

/-- Quiet operations and calls have put V j into their slots; N stores. -/
structure JQ (ops : Array Oper) (σ : Nat → Nat) (N : Nat) (V : Nat → Value) (a0 : Act) (w : World) (F : World → World) (L : Nat → Prop) (a : Act) (u : World) : Prop where
  fe : Fe a0 a ((List.range N).map σ)
  e : ∀ j, j < N → L j → a.eval (.tmp (σ j)) = V j
  dc : Dc ops L
  n : ¬ L N → Below w.heap.size w u
  s : L N → ∃ u1, Below w.heap.size w u1 ∧ u = F u1

section
variable {ops : Array Oper} {σ : Nat → Nat} {N : Nat} {V : Nat → Value} {a0 : Act} {w : World} {F : World → World} {L L' : Nat → Prop} {a : Act} {u u' : World} {i : Nat} {o : Oper}
theorem JQ.next (h : JQ ops σ N V a0 w F L a u) (ho : ops[i]? = some o) (hall : ∀ e ∈ o.after, Region.binds .any e = true → L e.on) (hi : i < N) (hno : ¬ L i) (hinj : ∀ i j, i < N → j < N → σ i = σ j → i = j) (hz : ∀ j, j < N → σ j < a0.tmps.size) (hu : ∀ j, L' j ↔ (j = i ∨ L j)) (a2 : anc ops 40 N i = true) (hB : Below u.heap.size u u') :
    JQ ops σ N V a0 w F L' (a.put (some (σ i)) (V i)) u' := by
  have nN : ¬ L N := fun hl => hno (anc_spec h.dc _ _ _ a2 hl)
  have lN : L' N ↔ L N := by rw [hu]; exact ⟨fun h => h.resolve_left (by omega), .inr⟩
  have hn := h.n nN
  refine ⟨h.fe.put (List.mem_map.2 ⟨i, List.mem_range.2 hi, rfl⟩) _, fun j hj hl => ?_, h.dc.next ho hall hu, fun _ => hn.trans (hB.mono hn.size), fun hl => absurd (lN.1 hl) nN⟩
  by_cases e : j = i
  · subst e
    exact ev_eq _ _ (by rw [h.fe.sz]; exact hz j hj)
  · exact (ev_ne _ _ (fun he => e (hinj j i hj hi he))).trans (h.e j hj (((hu j).1 hl).resolve_left e))
theorem JQ.store (h : JQ ops σ N V a0 w F L a u) (ho : ops[N]? = some o) (hall : ∀ e ∈ o.after, Region.binds .any e = true → L e.on) (hno : ¬ L N) (hu : ∀ j, L' j ↔ (j = N ∨ L j)) : JQ ops σ N V a0 w F L' a (F u) := by
  have lN : L' N := (hu N).2 (.inl rfl)
  exact ⟨h.fe, fun j hj hl => h.e j hj (((hu j).1 hl).resolve_left (by omega)), h.dc.next ho hall hu, fun hn => absurd lN hn, fun _ => ⟨u, h.n hno, rfl⟩⟩
theorem JQ.done (h : JQ ops σ N V a0 w F L a u) (hz : ∀ j, j < N → σ j < a0.tmps.size) (hN : L N) : ∃ (V' : Nat → Value) (u1 : World), Below w.heap.size w u1 ∧ u = F u1 ∧ a = puts a0 ((List.range N).map fun j => (σ j, V' j)) := by
  obtain ⟨u1, h1, h2⟩ := h.s hN
  refine ⟨fun j => a.eval (.tmp (σ j)), u1, h1, h2, ?_⟩
  refine Fe.puts _ a0 a (by rw [List.map_map]; exact h.fe) (fun p hp => ?_)
  obtain ⟨j, hj, rfl⟩ := List.mem_map.1 hp
  exact ⟨hz j (List.mem_range.1 hj), rfl⟩
theorem JQ.start (hdr : Below w.heap.size w w.drew) (hL : ∀ i, ¬ L i) : JQ ops σ N V a0 w F L a0 w.drew :=
  ⟨Fe.refl _ _, fun j _ h => absurd h (hL _), fun j o _ hl => absurd hl (hL _), fun _ => hdr, fun h => absurd h (hL _)⟩
end

end Go.Proofs.YtfhghijefjhehaaDoor
