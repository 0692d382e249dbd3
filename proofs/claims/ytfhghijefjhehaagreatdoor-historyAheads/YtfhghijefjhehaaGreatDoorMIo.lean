/-
  Texts put together: Io Ii Ij Lc Wc.
-/
import Derived.Test.YtfhghijefjhehaaGreatDoorAsWalk
import Derived.Test.YtfhghijefjhehaaGreatDoorMHza
import Derived.Test.YtfhghijefjhehaaGreatDoorMIh
import Derived.Test.YtfhghijefjhehaaGreatDoorMIc
import Derived.Test.YtfhghijefjhehaaGreatDoorMNb
import Derived.Test.YtfhghijefjhehaaGreatDoorMHg
import Derived.ArgAppend
import Derived.Test.YtfhghijefjhehaaGreatDoorWb
/-! Io -/
namespace Go.Proofs.YtfhghijefjhehaaGreatDoor
open Go.RowKit Go.Extern.Stop Go.Stop Go.Extern
set_option linter.unusedVariables false

/-- All but one block is as it was. -/
def But (r : Nat) (w w' : World) : Prop := Fr (fun k => k = r) w w'
theorem But.of_below {r : Nat} {w w' : World} (h : Below w.heap.size w w') : But r w w' := Fr.of_below h
theorem But.trans {r : Nat} {a b c : World} (h : But r a b) (k : But r b c) : But r a c := Fr.trans h k
theorem But.setCell (r : Nat) (w : World) (i : Nat) (u : Value) : But r w (w.setCell ⟨r, i, none⟩ u) := Fr.setCell _ _ _ rfl
theorem But.below {r B : Nat} {w w' : World} (h : But r w w') (hB : B ≤ w.heap.size) (hr : B ≤ r) : Below B w w' := Fr.below h hB (fun k hk => hk ▸ hr)

/-- The variable errors.errorType holds the handle of the type error. -/
def Handle (w : World) : Prop := w.cell? ⟨0, 0, none⟩ = some (.iface 232 (.agg #[.pointer (some ⟨2, 29, none⟩)]))

theorem cell_lt {w : World} {a : Addr} {v : Value} (h : w.cell? a = some v) : a.block < w.heap.size := by
  by_cases hb : a.block < w.heap.size
  · exact hb
  · unfold World.cell? at h
    rw [Array.getElem?_eq_none (by omega)] at h
    simp at h

theorem Handle.below {w w' : World} {B : Nat} (h : Handle w) (hb : Below B w w') (hB : 0 < B) : Handle w' := (hb.cell (p := ⟨0, 0, none⟩) hB).trans h
theorem Handle.pos {w : World} (h : Handle w) : 0 < w.heap.size := cell_lt h

theorem but_four {w : World} {tb : Nat} (o1 o2 o3 o4 : Obj) (u : Value) : But tb w (((((w.alloc o1).alloc o2).alloc o3).alloc o4).setCell ⟨tb, 0, none⟩ u) := by
  have h : Below w.heap.size w ((((w.alloc o1).alloc o2).alloc o3).alloc o4) := by
    repeat (first | exact Below.refl _ _ | refine Below.alloc ?_ (by simp <;> omega) _)
  exact (But.of_below h).trans (But.setCell tb _ 0 u)

theorem set_four {w : World} {tb : Nat} {old : Value} (h : w.cell? ⟨tb, 0, none⟩ = some old) (o1 o2 o3 o4 : Obj) (u : Value) : (((((w.alloc o1).alloc o2).alloc o3).alloc o4).setCell ⟨tb, 0, none⟩ u).cell? ⟨tb, 0, none⟩ = some u := by
  have hb : Below w.heap.size w ((((w.alloc o1).alloc o2).alloc o3).alloc o4) := by
    repeat (first | exact Below.refl _ _ | refine Below.alloc ?_ (by simp <;> omega) _)
  have h1 := (hb.cell (p := ⟨tb, 0, none⟩) (cell_lt h)).trans h
  exact World.cell?_setCell_same _ _ _ h1

/-- errors.As at a *Errno, said of what turns. -/
theorem as_code' (b off tb : Nat) (n : Int) (old : Value) (w : World) (hg : Handle w) (ht0 : w.cell? ⟨tb, 0, none⟩ = some old) (hf0 : w.frozen? ⟨tb, 0, none⟩ = false) (he : w.cell? ⟨b, off + 1, none⟩ = some (.iface 60 (.int .i64 n))) :
    Calls Tryz.prog 58 #[.iface 122 (.pointer (some ⟨b, off, none⟩)), .iface 140 (.pointer (some ⟨tb, 0, none⟩))] w fun e w' => e = .returned (.bool true) ∧ w'.cell? ⟨tb, 0, none⟩ = some (.int .i64 n) ∧ But tb w w' := by
  refine (as_code b off n ⟨tb, 0, none⟩ old w hg ht0 hf0 he).mono ?_
  rintro e w' ⟨rfl, rfl⟩
  exact ⟨rfl, set_four ht0 _ _ _ _ _, but_four _ _ _ _ _⟩

theorem as_hit' (e : Addr) (tb : Nat) (old : Value) (w : World) (hg : Handle w) (ht0 : w.cell? ⟨tb, 0, none⟩ = some old) (hf0 : w.frozen? ⟨tb, 0, none⟩ = false) :
    Calls Tryz.prog 58 #[.iface 122 (.pointer (some e)), .iface 141 (.pointer (some ⟨tb, 0, none⟩))] w fun ev w' => ev = .returned (.bool true) ∧ w'.cell? ⟨tb, 0, none⟩ = some (.pointer (some e)) ∧ But tb w w' := by
  refine (as_hit e ⟨tb, 0, none⟩ old w hg ht0 hf0).mono ?_
  rintro ev w' ⟨rfl, rfl⟩
  exact ⟨rfl, set_four ht0 _ _ _ _ _, but_four _ _ _ _ _⟩

theorem below_but {w w' : World} {o : Obj} (h : But w.heap.size (w.alloc o) w') : Below w.heap.size w w' :=
  ((Below.refl _ _).alloc (Nat.le_refl _) o).trans (h.below (by simp) (Nat.le_refl _))

set_option maxHeartbeats 1000000 in
theorem code_any (b off : Nat) (n : Int) (w : World) (hg : Handle w) (he : w.cell? ⟨b, off + 1, none⟩ = some (.iface 60 (.int .i64 n))) :
    Calls Tryz.prog 24 #[.iface 122 (.pointer (some ⟨b, off, none⟩))] w fun e w' => e = .returned (.int .i64 n) ∧ Below w.heap.size w w' := by
  have hbel : Below w.heap.size w (w.alloc (.cells #[.int .i64 0] 60)) := (Below.refl _ _).alloc (Nat.le_refl _) _
  have hg1 := hg.below hbel hg.pos
  have he1 := (hbel.cell (p := ⟨b, off + 1, none⟩) (cell_lt he)).trans he
  have ht : (w.alloc (.cells #[.int .i64 0] 60)).cell? ⟨w.heap.size, 0, none⟩ = some (.int .i64 0) := by simp
  have hf : (w.alloc (.cells #[.int .i64 0] 60)).frozen? ⟨w.heap.size, 0, none⟩ = false := by simp
  have C := hd (as_code' b off w.heap.size n _ _ hg1 ht hf he1)
  clear hg hg1 he he1 ht hf hbel
  go_enter Tryz.func24, Tryz.ntmps24
  go_wp2_with fail
  refine C.out.mono ?_
  rintro e w1 ⟨rfl, hc, hbut⟩
  have R := hd (below_but hbut)
  clear hbut C
  go_wp2
  go_ret
  exact ⟨rfl, R.out⟩

set_option maxHeartbeats 1000000 in
theorem place_any (b off : Nat) (p : Int) (w : World) (hg : Handle w) (he : w.cell? ⟨b, off, none⟩ = some (.int .i64 p)) :
    Calls Tryz.prog 25 #[.iface 122 (.pointer (some ⟨b, off, none⟩))] w fun e w' => e = .returned (.int .i64 p) ∧ Below w.heap.size w w' := by
  have hbel : Below w.heap.size w (w.alloc (.cells #[.pointer none] 122)) := (Below.refl _ _).alloc (Nat.le_refl _) _
  have hg1 := hg.below hbel hg.pos
  have ht : (w.alloc (.cells #[.pointer none] 122)).cell? ⟨w.heap.size, 0, none⟩ = some (.pointer none) := by simp
  have hf : (w.alloc (.cells #[.pointer none] 122)).frozen? ⟨w.heap.size, 0, none⟩ = false := by simp
  have C := hd (as_hit' ⟨b, off, none⟩ w.heap.size _ _ hg1 ht hf)
  have HE := hd he
  clear hg hg1 ht hf hbel he
  go_enter Tryz.func25, Tryz.ntmps25
  go_wp2_with fail
  refine C.out.mono ?_
  rintro e w1 ⟨rfl, hc, hbut⟩
  have R := hd (below_but hbut)
  have hcell := (R.out.cell (p := ⟨b, off, none⟩) (cell_lt HE.out)).trans HE.out
  clear hbut C HE
  go_wp2
  go_ret
  exact ⟨rfl, R.out⟩


/-- A Fault in a block of its own. -/
def IsF (w : World) (v : Value) (at' code : Int) : Prop := ∃ b, v = .iface 122 (.pointer (some ⟨b, 0, none⟩)) ∧ w.heap[b]? = some (.cells #[.int .i64 at', .iface 60 (.int .i64 code)] 124 (0, 0))
theorem IsF.below {w w' : World} {v : Value} {p c : Int} (h : IsF w v p c) (hb : Below w.heap.size w w') : IsF w' v p c := by
  obtain ⟨b, e, hh⟩ := h
  exact ⟨b, e, (hb.block b (block_lt hh)).trans hh⟩

set_option maxHeartbeats 1000000 in
theorem wrap_any (p c : Int) (w : World) :
    Calls Tryz.prog 16 #[.int .i64 p, .int .i64 c] w fun e w' => ∃ v, e = .returned v ∧ IsF w' v p c ∧ Below w.heap.size w w' := by
  have hn := heap_alloc_new w (.cells #[.int .i64 p, .iface 60 (.int .i64 c)] 124)
  have HN := hd hn
  clear hn
  go_enter Tryz.func16, Tryz.ntmps16
  go_wp2
  go_ret
  exact ⟨_, rfl, ⟨_, rfl, HN.out⟩, (Below.refl _ _).alloc (Nat.le_refl _) _⟩

theorem num_any (c : Int) (w : World) : Calls Tryz.prog 23 #[.int .i64 c] w fun e w' => e = .returned (.int .i64 c) ∧ Below w.heap.size w w' := by
  go_enter Tryz.func23, Tryz.ntmps23
  go_wp2
  go_ret
  exact ⟨rfl, Below.refl _ _⟩

theorem IsF.code {w : World} {v : Value} {p c : Int} (h : IsF w v p c) (hg : Handle w) :
    Calls Tryz.prog 24 #[v] w fun e w' => e = .returned (.int .i64 c) ∧ Below w.heap.size w w' := by
  obtain ⟨b, rfl, hh⟩ := h
  exact code_any b 0 c w hg (by rw [cell_row hh]; rfl)
theorem IsF.place {w : World} {v : Value} {p c : Int} (h : IsF w v p c) (hg : Handle w) :
    Calls Tryz.prog 25 #[v] w fun e w' => e = .returned (.int .i64 p) ∧ Below w.heap.size w w' := by
  obtain ⟨b, rfl, hh⟩ := h
  exact place_any b 0 p w hg (by rw [cell_row hh]; rfl)

set_option maxHeartbeats 4000000 in
theorem same_some (v : Value) (p c : Int) (w : World) (hF : IsF w v p c) (hH : Handle w) (hc : c ≠ 0) :
    Calls Tryz.prog 10 #[v, .int .i64 c, .int .i64 p] w fun e w' => e = .returned (.bool true) ∧ Below w.heap.size w w' := by
  have HF := hd hF
  have HH := hd hH
  have C1 := hd (hF.code hH)
  obtain ⟨b, rfl, hh⟩ := hF
  have kc : (c == 0) = false := by simpa using hc
  clear hh hH hc
  go_enter Tryz.func10, Tryz.ntmps10
  go_wp2_with fail
  refine C1.out.mono ?_
  rintro e u1 ⟨rfl, b1⟩
  have B1 := hd b1
  clear b1 C1
  go_wp2_with fail
  refine (num_any c _).mono ?_
  rintro e u2 ⟨rfl, b2⟩
  have B2 := hd (B1.out.trans (b2.mono B1.out.size))
  clear b2
  have C2 := hd ((HF.out.below B2.out).place (HH.out.below B2.out HH.out.pos))
  go_wp2_with fail
  refine C2.out.mono ?_
  rintro e u3 ⟨rfl, b3⟩
  have B3 := hd (B2.out.trans (b3.mono B2.out.size))
  clear b3 C2
  go_wp2
  go_ret
  exact ⟨rfl, B3.out⟩

set_option maxHeartbeats 4000000 in
theorem same_none (w : World) : Calls Tryz.prog 10 #[.nilIface, .int .i64 0, .int .i64 (-1)] w fun e w' => e = .returned (.bool true) ∧ Below w.heap.size w w' := by
  go_enter Tryz.func10, Tryz.ntmps10
  go_wp2
  go_ret
  exact ⟨rfl, by repeat (first | exact Below.refl _ _ | refine Below.alloc ?_ (by simp) _ | refine Below.setCell ?_ (by simp) _)⟩

end Go.Proofs.YtfhghijefjhehaaGreatDoor

/-! Ii -/
namespace Go.Proofs.YtfhghijefjhehaaGreatDoor
open Go.RowKit
set_option linter.unusedVariables false

section
variable {ops : Array Oper} {o : Oper} {a : Act} {w : World} {K : Act → World → Prop} {Q : Exit → Act → World → Prop} {i : Nat}
theorem og_call2 {g : Option (Nat × Bool)} (ho : ops[i]? = some o) (f : FuncId) (x y : Operand) (t u : TypeId) {d : Option Tmp} (h : (ops[i]?).map (fun o => (o.dst, o.op, o.guard)) = some (d, Op.call { callee := .value (.func f), args := #[x, y], argTypes := #[t, u] }, g)) (hw : gOk ops a g) {fn : Func} {c : Code} (hf : Tryz.prog.funcs[f]? = some fn) (hb : fn.body = some c) (hnm : (fn.name == "runtime.NumGoroutine") = false) {R : Ending → World → Prop} (hC : Calls Tryz.prog f #[a.eval x, a.eval y] w R) (hK : ∀ e w', R e w' → ∃ v, e = .returned v ∧ K (a.put d v) w') : wpOp Tryz.prog ops Q i K a w := by
  obtain ⟨h1, h2, h3⟩ := flds ho h
  refine og_plain ho h3 hw ?_
  unfold Oper.wp
  have e1 : (execOp a.eval o).run Tryz.prog w = .ok (.enter f #[a.eval x, a.eval y]) w := by
    simp [execOp, h2, resolve, invoke, Deferred.ofValue, show a.eval (.func f) = .func (.func f) #[] #[] from rfl, callFunc, hf, hb]
    simpa using hnm
  rw [e1]
  show Calls Tryz.prog f #[a.eval x, a.eval y] w _
  refine hC.mono fun e w' h => ?_
  obtain ⟨v, rfl, hk⟩ := hK e w' h
  rw [h1]
  exact hk
end

/-- Quiet operations and calls have put V j into their slots; ka lays a new block, N fills it. -/
structure JA (ops : Array Oper) (σ : Nat → Nat) (N ka : Nat) (V : Nat → Value) (a0 : Act) (w : World) (Z D : Array Value) (T : TypeId) (L : Nat → Prop) (a : Act) (u : World) : Prop where
  fe : Fe a0 a ((List.range N).map σ)
  e : ∀ j, j < N → j ≠ ka → L j → a.eval (.tmp (σ j)) = V j
  dc : Dc ops L
  n : Below w.heap.size w u
  al : L ka → ∃ g, a.eval (.tmp (σ ka)) = .pointer (some ⟨g, 0, none⟩) ∧ w.heap.size ≤ g ∧ (¬ L N → u.heap[g]? = some (.cells Z T (0, 0))) ∧ (L N → u.heap[g]? = some (.cells D T (0, 0)))

section
variable {ops : Array Oper} {σ : Nat → Nat} {N ka : Nat} {V : Nat → Value} {a0 : Act} {w : World} {Z D : Array Value} {T : TypeId} {L L' : Nat → Prop} {a : Act} {u u' : World} {i : Nat} {o : Oper}
theorem JA.next (h : JA ops σ N ka V a0 w Z D T L a u) (ho : ops[i]? = some o) (hall : ∀ e ∈ o.after, Region.binds .any e = true → L e.on) (hi : i < N) (ib : i ≠ ka) (hb : ka < N) (hinj : ∀ i j, i < N → j < N → σ i = σ j → i = j) (hz : ∀ j, j < N → σ j < a0.tmps.size) (hu : ∀ j, L' j ↔ (j = i ∨ L j)) (hB : Below u.heap.size u u') :
    JA ops σ N ka V a0 w Z D T L' (a.put (some (σ i)) (V i)) u' := by
  have la : L' ka ↔ L ka := by rw [hu]; exact ⟨fun h => h.resolve_left (Ne.symm ib), .inr⟩
  have lN : L' N ↔ L N := by rw [hu]; exact ⟨fun h => h.resolve_left (by omega), .inr⟩
  have k1 : (a.put (some (σ i)) (V i)).eval (.tmp (σ ka)) = a.eval (.tmp (σ ka)) := ev_ne _ _ (fun he => ib (hinj _ _ hb hi he).symm)
  refine ⟨h.fe.put (List.mem_map.2 ⟨i, List.mem_range.2 hi, rfl⟩) _, fun j hj j1 hl => ?_, h.dc.next ho hall hu, h.n.trans (hB.mono h.n.size), ?_⟩
  · by_cases e : j = i
    · subst e
      exact ev_eq _ _ (by rw [h.fe.sz]; exact hz j hj)
    · exact (ev_ne _ _ (fun he => e (hinj j i hj hi he))).trans (h.e j hj j1 (((hu j).1 hl).resolve_left e))
  · rw [la, lN, k1]
    intro hl
    obtain ⟨g, g1, g2, g3, g4⟩ := h.al hl
    exact ⟨g, g1, g2, fun hn => block_keep hB (g3 hn) (block_lt (g3 hn)), fun hn => block_keep hB (g4 hn) (block_lt (g4 hn))⟩
theorem JA.lay (h : JA ops σ N ka V a0 w Z D T L a u) (ho : ops[ka]? = some o) (hall : ∀ e ∈ o.after, Region.binds .any e = true → L e.on) (hno : ¬ L ka) (hb : ka < N) (hinj : ∀ i j, i < N → j < N → σ i = σ j → i = j) (hz : ∀ j, j < N → σ j < a0.tmps.size) (hu : ∀ j, L' j ↔ (j = ka ∨ L j)) (a2 : anc ops 40 N ka = true) :
    JA ops σ N ka V a0 w Z D T L' (a.put (some (σ ka)) (.pointer (some ⟨u.heap.size, 0, none⟩))) (u.alloc (.cells Z T)) := by
  have nN : ¬ L N := fun hl => hno (anc_spec h.dc _ _ _ a2 hl)
  have lN : L' N ↔ L N := by rw [hu]; exact ⟨fun h => h.resolve_left (by omega), .inr⟩
  refine ⟨h.fe.put (List.mem_map.2 ⟨ka, List.mem_range.2 hb, rfl⟩) _, fun j hj j1 hl => ?_, h.dc.next ho hall hu, h.n.alloc h.n.size _, fun _ => ⟨_, ev_eq _ _ (by rw [h.fe.sz]; exact hz ka hb), h.n.size, fun _ => heap_alloc_new _ _, fun hl => absurd (lN.1 hl) nN⟩⟩
  exact (ev_ne _ _ (fun he => j1 (hinj j ka hj hb he))).trans (h.e j hj j1 (((hu j).1 hl).resolve_left j1))
theorem JA.fill (h : JA ops σ N ka V a0 w Z D T L a u) (ho : ops[N]? = some o) (hall : ∀ e ∈ o.after, Region.binds .any e = true → L e.on) (hno : ¬ L N) (hb : ka < N) (hu : ∀ j, L' j ↔ (j = N ∨ L j)) (la : L ka) {g : Nat} (hg : a.eval (.tmp (σ ka)) = .pointer (some ⟨g, 0, none⟩)) (hF : Below w.heap.size w u') (hD : u'.heap[g]? = some (.cells D T (0, 0))) :
    JA ops σ N ka V a0 w Z D T L' a u' := by
  have lN : L' N := (hu N).2 (.inl rfl)
  refine ⟨h.fe, fun j hj j1 hl => h.e j hj j1 (((hu j).1 hl).resolve_left (by omega)), h.dc.next ho hall hu, hF, fun _ => ?_⟩
  obtain ⟨g', g1, g2, -, -⟩ := h.al la
  have : g' = g := by
    rw [hg] at g1
    simpa using g1.symm
  subst this
  exact ⟨g', g1, g2, fun hn => absurd lN hn, fun _ => hD⟩
theorem JA.done (h : JA ops σ N ka V a0 w Z D T L a u) (hz : ∀ j, j < N → σ j < a0.tmps.size) (hb : ka < N) (hN : L N) (hk : L ka) : ∃ (V' : Nat → Value) (g : Nat), V' ka = .pointer (some ⟨g, 0, none⟩) ∧ w.heap.size ≤ g ∧ u.heap[g]? = some (.cells D T (0, 0)) ∧ a = puts a0 ((List.range N).map fun j => (σ j, V' j)) := by
  obtain ⟨g, g1, g2, -, g4⟩ := h.al hk
  refine ⟨fun j => a.eval (.tmp (σ j)), g, g1, g2, g4 hN, ?_⟩
  refine Fe.puts _ a0 a (by rw [List.map_map]; exact h.fe) (fun p hp => ?_)
  obtain ⟨j, hj, rfl⟩ := List.mem_map.1 hp
  exact ⟨hz j (List.mem_range.1 hj), rfl⟩
theorem JA.start (hdr : Below w.heap.size w w.drew) (hL : ∀ i, ¬ L i) : JA ops σ N ka V a0 w Z D T L a0 w.drew :=
  ⟨Fe.refl _ _, fun j _ _ h => absurd h (hL _), fun j o _ hl => absurd hl (hL _), hdr, fun h => absurd h (hL _)⟩
end

/-- Quiet operations and calls have put V j into their slots; N stores. -/
structure JQ (ops : Array Oper) (σ : Nat → Nat) (N : Nat) (V : Nat → Value) (a0 : Act) (w : World) (F : World → World) (L : Nat → Prop) (a : Act) (u : World) : Prop where
  fe : Fe a0 a ((List.range N).map σ)
  e : ∀ j, j < N → L j → a.eval (.tmp (σ j)) = V j
  dc : Dc ops L
  n : ¬ L N → Below w.heap.size w u
  s : L N → ∃ u1, Below w.heap.size w u1 ∧ u = F u1

section
variable {ops : Array Oper} {σ : Nat → Nat} {N : Nat} {V : Nat → Value} {a0 : Act} {w : World} {F : World → World} {L L' : Nat → Prop} {a : Act} {u u' : World} {i : Nat} {o : Oper}
theorem JQ.next (h : JQ ops σ N V a0 w F L a u) (ho : ops[i]? = some o) (hall : ∀ e ∈ o.after, Region.binds .any e = true → L e.on) (hi : i < N) (hno : ¬ L i) (hinj : ∀ i j, i < N → j < N → σ i = σ j → i = j) (hz : ∀ j, j < N → σ j < a0.tmps.size) (hu : ∀ j, L' j ↔ (j = i ∨ L j)) (a2 : anc ops 40 N i = true) (hB : Below u.heap.size u u') :
    JQ ops σ N V a0 w F L' (a.put (some (σ i)) (V i)) u' := by
  have nN : ¬ L N := fun hl => hno (anc_spec h.dc _ _ _ a2 hl)
  have lN : L' N ↔ L N := by rw [hu]; exact ⟨fun h => h.resolve_left (by omega), .inr⟩
  have hn := h.n nN
  refine ⟨h.fe.put (List.mem_map.2 ⟨i, List.mem_range.2 hi, rfl⟩) _, fun j hj hl => ?_, h.dc.next ho hall hu, fun _ => hn.trans (hB.mono hn.size), fun hl => absurd (lN.1 hl) nN⟩
  by_cases e : j = i
  · subst e
    exact ev_eq _ _ (by rw [h.fe.sz]; exact hz j hj)
  · exact (ev_ne _ _ (fun he => e (hinj j i hj hi he))).trans (h.e j hj (((hu j).1 hl).resolve_left e))
theorem JQ.store (h : JQ ops σ N V a0 w F L a u) (ho : ops[N]? = some o) (hall : ∀ e ∈ o.after, Region.binds .any e = true → L e.on) (hno : ¬ L N) (hu : ∀ j, L' j ↔ (j = N ∨ L j)) : JQ ops σ N V a0 w F L' a (F u) := by
  have lN : L' N := (hu N).2 (.inl rfl)
  exact ⟨h.fe, fun j hj hl => h.e j hj (((hu j).1 hl).resolve_left (by omega)), h.dc.next ho hall hu, fun hn => absurd lN hn, fun _ => ⟨u, h.n hno, rfl⟩⟩
theorem JQ.done (h : JQ ops σ N V a0 w F L a u) (hz : ∀ j, j < N → σ j < a0.tmps.size) (hN : L N) : ∃ (V' : Nat → Value) (u1 : World), Below w.heap.size w u1 ∧ u = F u1 ∧ a = puts a0 ((List.range N).map fun j => (σ j, V' j)) := by
  obtain ⟨u1, h1, h2⟩ := h.s hN
  refine ⟨fun j => a.eval (.tmp (σ j)), u1, h1, h2, ?_⟩
  refine Fe.puts _ a0 a (by rw [List.map_map]; exact h.fe) (fun p hp => ?_)
  obtain ⟨j, hj, rfl⟩ := List.mem_map.1 hp
  exact ⟨hz j (List.mem_range.1 hj), rfl⟩
theorem JQ.start (hdr : Below w.heap.size w w.drew) (hL : ∀ i, ¬ L i) : JQ ops σ N V a0 w F L a0 w.drew :=
  ⟨Fe.refl _ _, fun j _ h => absurd h (hL _), fun j o _ hl => absurd hl (hL _), fun _ => hdr, fun h => absurd h (hL _)⟩
end

end Go.Proofs.YtfhghijefjhehaaGreatDoor

/-! Ij -/
namespace Go.Proofs.YtfhghijefjhehaaGreatDoor
open Go.RowKit
set_option linter.unusedVariables false

def zD : Array Value := #[.int .i64 0, .int .i64 0, .int .i64 0, .int .u8 0, .int .i64 0, .int .i64 0, .int .u8 0, .int .i64 0, .int .i64 0]
theorem fieldDoc (a b c d e f g h i : Int) (p : Option Addr) (n m : Nat) (W : World) : (Instr.field 76 (.agg #[.int .i64 a, .int .i64 b, .int .i64 c, .int .i64 d, .int .i64 e, .int .i64 f, .int .u8 g, .int .i64 h, .int .i64 i, .slice p n m]) 5).run Tryz.prog W = .ok (.slice p n m) W := by kernel_rfl

noncomputable def opslayD : Array Oper := (Tryz.f45.body.bind (opsAt 2)).getD #[]
theorem opslayD_size : opslayD.size = 8 := by kernel_rfl
theorem opslayD_earlier : Earlier opslayD := by
  have h : (List.range 8).all (fun i => ((opslayD[i]?).map (fun o => o.after.all (fun e => !Region.binds .any e || decide (e.on < i)))).getD true) = true := by kernel_rfl
  intro i o ho e he hb
  have hi : i < 8 := by
    have := (Array.getElem?_eq_some_iff.1 ho).1
    rwa [opslayD_size] at this
  have h1 := List.all_eq_true.1 h i (List.mem_range.2 hi)
  rw [ho] at h1
  simp only [Option.map_some, Option.getD_some, Array.all_eq_true'] at h1
  have h2 := h1 e he
  rw [hb] at h2
  simpa using h2
def sllayD (j : Nat) : Nat := ([9, 10, 11, 12, 13, 14, 6] : List Nat).getD j 0
def VlayD (be : Nat) (st si ha ma ok op oc ol os : Int) (ad : Option Addr) (nd cd : Nat) (j : Nat) : Value := [.agg #[.int .i64 st, .int .i64 si, .int .i64 ha, .int .i64 ma, .int .i64 ok, .int .i64 op, .int .u8 oc, .int .i64 ol, .int .i64 os, .slice ad nd cd], .agg #[.int .i64 ha, .int .i64 ok, .int .i64 op, .int .u8 oc, .int .i64 ol, .int .i64 os], .pointer (some ⟨be, 4, none⟩), .agg #[.int .i64 ok, .int .i64 op, .int .u8 oc, .int .i64 ol, .int .i64 os], .agg #[.int .u8 oc, .int .i64 ol, .int .i64 os], .agg #[.int .i64 ha, .int .i64 ok, .int .i64 op, .int .u8 oc, .int .i64 ol, .int .i64 os, .int .u8 oc, .int .i64 ol, .int .i64 os], .bool false].getD j (.bool false)

set_option maxRecDepth 100000 in
set_option maxHeartbeats 4000000 in
theorem layD (a0 : Act) (w : World) {Q : Exit → Act → World → Prop} (be : Nat) (st si ha ma ok op oc ol os : Int) (ad : Option Addr) (nd cd : Nat) (h5 : a0.eval (.tmp 5) = .pointer (some ⟨be, 0, none⟩)) (hzz : 14 < a0.tmps.size)
    (lbe : be < w.heap.size) (k0 : w.cell? ⟨be, 0, none⟩ = some (.int .i64 st)) (k1 : w.cell? ⟨be, 1, none⟩ = some (.int .i64 si)) (k2 : w.cell? ⟨be, 2, none⟩ = some (.int .i64 ha)) (k3 : w.cell? ⟨be, 3, none⟩ = some (.int .i64 ma)) (k4 : w.cell? ⟨be, 4, none⟩ = some (.int .i64 ok)) (k5 : w.cell? ⟨be, 5, none⟩ = some (.int .i64 op)) (k6 : w.cell? ⟨be, 6, none⟩ = some (.int .u8 oc)) (k7 : w.cell? ⟨be, 7, none⟩ = some (.int .i64 ol)) (k8 : w.cell? ⟨be, 8, none⟩ = some (.int .i64 os)) (k9 : w.cell? ⟨be, 9, none⟩ = some (.slice ad nd cd))
    (CE : ∀ U, Calls Tryz.prog 84 #[.agg #[.int .i64 st, .int .i64 si, .int .i64 ha, .int .i64 ma, .int .i64 ok, .int .i64 op, .int .u8 oc, .int .i64 ol, .int .i64 os, .slice ad nd cd]] U fun e w' => e = .returned (.agg #[.int .i64 ha, .int .i64 ok, .int .i64 op, .int .u8 oc, .int .i64 ol, .int .i64 os]) ∧ Below U.heap.size U w') (CL : ∀ U, Calls Tryz.prog 59 #[.agg #[.int .i64 ok, .int .i64 op, .int .u8 oc, .int .i64 ol, .int .i64 os]] U fun e w' => e = .returned (.agg #[.int .u8 oc, .int .i64 ol, .int .i64 os]) ∧ Below U.heap.size U w')
    (hK : ∀ (V' : Nat → Value) u g, V' 6 = .pointer (some ⟨g, 0, none⟩) → w.heap.size ≤ g → u.heap[g]? = some (.cells #[.int .i64 ha, .int .i64 ok, .int .i64 op, .int .u8 oc, .int .i64 ol, .int .i64 os, .int .u8 oc, .int .i64 ol, .int .i64 os] 143 (0, 0)) → Below w.heap.size w u → Q .normal (puts a0 ((List.range 7).map fun j => (sllayD j, V' j))) u) :
    (Code.region 2 opslayD true).wp Tryz.prog Q a0 w := by
  have inj : ∀ i j, i < 7 → j < 7 → sllayD i = sllayD j → i = j := by
    have h : (List.range 7).all (fun i => (List.range 7).all (fun j => decide (sllayD i = sllayD j → i = j))) = true := by kernel_rfl
    intro i j hi hj he
    have h1 := List.all_eq_true.1 h i (List.mem_range.2 hi)
    have h2 := List.all_eq_true.1 h1 j (List.mem_range.2 hj)
    exact (of_decide_eq_true h2) he
  have hz : ∀ j, j < 7 → sllayD j < a0.tmps.size := by
    have h : (List.range 7).all (fun i => decide (sllayD i ≤ 14)) = true := by kernel_rfl
    intro j hj
    have := of_decide_eq_true (List.all_eq_true.1 h j (List.mem_range.2 hj))
    omega
  refine wp_region_inv (by kernel_rfl) opslayD_earlier (fun L a u => JA opslayD sllayD 7 6 (VlayD be st si ha ma ok op oc ol os ad nd cd) a0 w zD #[.int .i64 ha, .int .i64 ok, .int .i64 op, .int .u8 oc, .int .i64 ol, .int .i64 os, .int .u8 oc, .int .i64 ol, .int .i64 os] 143 L a u) ?_ ?_ ?_
  · rintro L L' a' u i o h ho hno hall hu
    clear hK
    have q5 := (h.fe.ev (j := 5) (by decide)).trans h5
    have E := h.e
    have hi : i < 8 := by
      have := (Array.getElem?_eq_some_iff.1 ho).1
      rwa [opslayD_size] at this
    match i, hi with
    | 0, _ =>
      obtain ⟨h1, h2, h3⟩ := flds (d := some 9) (p := Op.load 76 (.tmp 5)) (g := none) ho (by kernel_rfl)
      have g0 := q5
      have c0 := (h.n.cell (p := ⟨be, 0, none⟩) lbe).trans k0
      have c1 := (h.n.cell (p := ⟨be, 1, none⟩) lbe).trans k1
      have c2 := (h.n.cell (p := ⟨be, 2, none⟩) lbe).trans k2
      have c3 := (h.n.cell (p := ⟨be, 3, none⟩) lbe).trans k3
      have c4 := (h.n.cell (p := ⟨be, 4, none⟩) lbe).trans k4
      have c5 := (h.n.cell (p := ⟨be, 5, none⟩) lbe).trans k5
      have c6 := (h.n.cell (p := ⟨be, 6, none⟩) lbe).trans k6
      have c7 := (h.n.cell (p := ⟨be, 7, none⟩) lbe).trans k7
      have c8 := (h.n.cell (p := ⟨be, 8, none⟩) lbe).trans k8
      have c9 := (h.n.cell (p := ⟨be, 9, none⟩) lbe).trans k9
      refine og_plain ho h3 trivial ?_
      unfold Oper.wp
      simp only [execOp, h2, g0]
      go_simp
      exact h.next (i := 0) ho hall (by decide) (by decide) (by decide) inj hz hu (Below.refl _ _)
    | 1, _ =>
      refine op_call ho 84 (.tmp 9) 76 (d := some 10) (by kernel_rfl) Tryz.func84 rfl (by kernel_rfl) (by rw [(show a'.eval (.tmp 9) = .agg #[.int .i64 st, .int .i64 si, .int .i64 ha, .int .i64 ma, .int .i64 ok, .int .i64 op, .int .u8 oc, .int .i64 ol, .int .i64 os, .slice ad nd cd] from E 0 (by decide) (by decide) (dep ho hall 0 (by kernel_rfl)))]; exact CE u) ?_
      rintro e w' ⟨rfl, bb⟩
      exact ⟨_, rfl, h.next (i := 1) ho hall (by decide) (by decide) (by decide) inj hz hu bb⟩
    | 2, _ =>
      obtain ⟨h1, h2, h3⟩ := flds (d := some 11) (p := Op.fieldAddr 76 (.tmp 5) 4) (g := none) ho (by kernel_rfl)
      have g0 := q5
      refine og_plain ho h3 trivial ?_
      unfold Oper.wp
      simp only [execOp, h2, g0]
      go_simp
      exact h.next (i := 2) ho hall (by decide) (by decide) (by decide) inj hz hu (Below.refl _ _)
    | 3, _ =>
      obtain ⟨h1, h2, h3⟩ := flds (d := some 12) (p := Op.load 69 (.tmp 11)) (g := none) ho (by kernel_rfl)
      have g0 := (show a'.eval (.tmp 11) = .pointer (some ⟨be, 4, none⟩) from E 2 (by decide) (by decide) (dep ho hall 2 (by kernel_rfl)))
      have c0 := (h.n.cell (p := ⟨be, 4, none⟩) lbe).trans k4
      have c1 := (h.n.cell (p := ⟨be, 5, none⟩) lbe).trans k5
      have c2 := (h.n.cell (p := ⟨be, 6, none⟩) lbe).trans k6
      have c3 := (h.n.cell (p := ⟨be, 7, none⟩) lbe).trans k7
      have c4 := (h.n.cell (p := ⟨be, 8, none⟩) lbe).trans k8
      refine og_plain ho h3 trivial ?_
      unfold Oper.wp
      simp only [execOp, h2, g0]
      go_simp
      exact h.next (i := 3) ho hall (by decide) (by decide) (by decide) inj hz hu (Below.refl _ _)
    | 4, _ =>
      refine op_call ho 59 (.tmp 12) 69 (d := some 13) (by kernel_rfl) Tryz.func59 rfl (by kernel_rfl) (by rw [(show a'.eval (.tmp 12) = .agg #[.int .i64 ok, .int .i64 op, .int .u8 oc, .int .i64 ol, .int .i64 os] from E 3 (by decide) (by decide) (dep ho hall 3 (by kernel_rfl)))]; exact CL u) ?_
      rintro e w' ⟨rfl, bb⟩
      exact ⟨_, rfl, h.next (i := 4) ho hall (by decide) (by decide) (by decide) inj hz hu bb⟩
    | 5, _ =>
      obtain ⟨h1, h2, h3⟩ := flds (d := some 14) (p := Op.build 143 #[(0, .tmp 10), (1, .tmp 13)]) (g := none) ho (by kernel_rfl)
      have g0 := (show a'.eval (.tmp 10) = .agg #[.int .i64 ha, .int .i64 ok, .int .i64 op, .int .u8 oc, .int .i64 ol, .int .i64 os] from E 1 (by decide) (by decide) (dep ho hall 1 (by kernel_rfl)))
      have g1 := (show a'.eval (.tmp 13) = .agg #[.int .u8 oc, .int .i64 ol, .int .i64 os] from E 4 (by decide) (by decide) (dep ho hall 4 (by kernel_rfl)))
      have t0 : a'.tmps[10]?.getD undef = .agg #[.int .i64 ha, .int .i64 ok, .int .i64 op, .int .u8 oc, .int .i64 ol, .int .i64 os] := by simpa [Act.eval] using g0
      have t1 : a'.tmps[13]?.getD undef = .agg #[.int .u8 oc, .int .i64 ol, .int .i64 os] := by simpa [Act.eval] using g1
      refine og_plain ho h3 trivial ?_
      unfold Oper.wp
      simp only [execOp, h2]
      go_simp
      exact h.next (i := 5) ho hall (by decide) (by decide) (by decide) inj hz hu (Below.refl _ _)
    | 6, _ =>
      obtain ⟨h1, h2, h3⟩ := flds (d := some 6) (p := Op.alloc 143) (g := none) ho (by kernel_rfl)
      refine og_plain ho h3 trivial ?_
      unfold Oper.wp
      simp only [execOp, h2]
      go_simp
      exact h.lay ho hall hno (by decide) inj hz hu (by kernel_rfl)
    | 7, _ =>
      obtain ⟨h1, h2, h3⟩ := flds (d := none) (p := Op.store 143 (.tmp 6) (.tmp 14)) (g := none) ho (by kernel_rfl)
      have la : L 6 := dep ho hall 6 (by kernel_rfl)
      obtain ⟨g, g1, g2, g3, -⟩ := h.al la
      have hg := g3 hno
      have g0 : a'.eval (.tmp 6) = .pointer (some ⟨g, 0, none⟩) := g1
      have gv := (show a'.eval (.tmp 14) = .agg #[.int .i64 ha, .int .i64 ok, .int .i64 op, .int .u8 oc, .int .i64 ol, .int .i64 os, .int .u8 oc, .int .i64 ol, .int .i64 os] from E 5 (by decide) (by decide) (dep ho hall 5 (by kernel_rfl)))
      have z0 := cell_row hg 0; have z1 := cell_row hg 1; have z2 := cell_row hg 2; have z3 := cell_row hg 3; have z4 := cell_row hg 4; have z5 := cell_row hg 5; have z6 := cell_row hg 6; have z7 := cell_row hg 7; have z8 := cell_row hg 8
      simp [zD] at z0 z1 z2 z3 z4 z5 z6 z7 z8
      have f0 := frozen_row hg 0; have f1 := frozen_row hg 1; have f2 := frozen_row hg 2; have f3 := frozen_row hg 3; have f4 := frozen_row hg 4; have f5 := frozen_row hg 5; have f6 := frozen_row hg 6; have f7 := frozen_row hg 7; have f8 := frozen_row hg 8
      refine og_plain ho h3 trivial ?_
      unfold Oper.wp
      simp only [execOp, h2, g0, gv]
      go_simp
      refine h.fill ho hall hno (by decide) hu la g1 ?_ ?_
      · iterate 9 refine Below.setCell ?_ g2 _
        exact h.n
      · unfold zD at hg
        have e0 := set_row hg 0 (.int .i64 ha)
        have e1 := set_row e0 1 (.int .i64 ok)
        have e2 := set_row e1 2 (.int .i64 op)
        have e3 := set_row e2 3 (.int .u8 oc)
        have e4 := set_row e3 4 (.int .i64 ol)
        have e5 := set_row e4 5 (.int .i64 os)
        have e6 := set_row e5 6 (.int .u8 oc)
        have e7 := set_row e6 7 (.int .i64 ol)
        have e8 := set_row e7 8 (.int .i64 os)
        simpa using e8
    | i + 8, hi => omega
  · rintro L a' u h hall
    rw [opslayD_size] at hall
    obtain ⟨V', g, hv, hg, hD, rfl⟩ := h.done hz (by decide) (hall 7 (by omega)) (hall 6 (by omega))
    exact hK V' u g hv hg hD h.n
  · intro L hL
    exact JA.start ((Below.refl _ _).drew) hL

noncomputable def opstakeD : Array Oper := (Tryz.f45.body.bind (opsAt 4)).getD #[]
theorem opstakeD_size : opstakeD.size = 14 := by kernel_rfl
theorem opstakeD_earlier : Earlier opstakeD := by
  have h : (List.range 14).all (fun i => ((opstakeD[i]?).map (fun o => o.after.all (fun e => !Region.binds .any e || decide (e.on < i)))).getD true) = true := by kernel_rfl
  intro i o ho e he hb
  have hi : i < 14 := by
    have := (Array.getElem?_eq_some_iff.1 ho).1
    rwa [opstakeD_size] at this
  have h1 := List.all_eq_true.1 h i (List.mem_range.2 hi)
  rw [ho] at h1
  simp only [Option.map_some, Option.getD_some, Array.all_eq_true'] at h1
  have h2 := h1 e he
  rw [hb] at h2
  simpa using h2
def sltakeD (j : Nat) : Nat := ([19, 20, 21, 22, 23, 24, 25, 26, 27, 28, 29, 30, 31] : List Nat).getD j 0
def VtakeD (x be bd cN bp po pnd pcd pN : Nat) (lv pst psi pha pma pok pop poc pol pos ec el es : Int) (j : Nat) : Value := [.pointer (some ⟨x, 0, none⟩), .pointer (some ⟨x, 0, none⟩), .pointer (some ⟨be, 1, none⟩), .int .i64 (cN : Int), .int .i64 lv, .agg #[.int .i64 pst, .int .i64 psi, .int .i64 pha, .int .i64 pma, .int .i64 pok, .int .i64 pop, .int .u8 poc, .int .i64 pol, .int .i64 pos, .slice (some ⟨bp, po, none⟩) pnd pcd], .slice (some ⟨bp, po, none⟩) pnd pcd, .pointer (some ⟨be, 4, none⟩), .pointer (some ⟨be, 5, none⟩), .int .i64 (pN : Int), .pointer (some ⟨bp, po + pN * 3, none⟩), .agg #[.int .u8 ec, .int .i64 el, .int .i64 es], .pointer (some ⟨bd, 6, none⟩)].getD j (.bool false)

set_option maxRecDepth 100000 in
set_option maxHeartbeats 4000000 in
theorem takeD (a0 : Act) (w : World) {Q : Exit → Act → World → Prop} (x be bd cN bp po pnd pcd pN : Nat) (lv pst psi pha pma pok pop poc pol pos ec el es : Int) (h0 : a0.eval (.tmp 0) = .pointer (some ⟨x, 0, none⟩)) (h5 : a0.eval (.tmp 5) = .pointer (some ⟨be, 0, none⟩)) (h6 : a0.eval (.tmp 6) = .pointer (some ⟨bd, 0, none⟩)) (hzz : 31 < a0.tmps.size)
    (lbe : be < w.heap.size) (lbp : bp < w.heap.size) (lbd : bd < w.heap.size) (k1 : w.cell? ⟨be, 1, none⟩ = some (.int .i64 (cN : Int))) (k5 : w.cell? ⟨be, 5, none⟩ = some (.int .i64 (pN : Int))) (m0 : w.cell? ⟨bp, po + pN * 3, none⟩ = some (.int .u8 ec)) (m1 : w.cell? ⟨bp, po + pN * 3 + 1, none⟩ = some (.int .i64 el)) (m2 : w.cell? ⟨bp, po + pN * 3 + 2, none⟩ = some (.int .i64 es)) (y0 y1 y2 : Value) (d0 : w.cell? ⟨bd, 6, none⟩ = some y0) (d1 : w.cell? ⟨bd, 7, none⟩ = some y1) (d2 : w.cell? ⟨bd, 8, none⟩ = some y2) (i1 : (pN : Int) < (pnd : Int)) (i0 : (0 : Int) ≤ (pN : Int))
    (hfz : ∀ u, Below w.heap.size w u → u.frozen? ⟨bd, 6, none⟩ = false ∧ u.frozen? ⟨bd, 7, none⟩ = false ∧ u.frozen? ⟨bd, 8, none⟩ = false)
    (CLt : ∀ U, Below w.heap.size w U → Calls Tryz.prog 80 #[.pointer (some ⟨x, 0, none⟩), .int .i64 (cN : Int)] U fun e w' => e = .returned (.int .i64 lv) ∧ Below U.heap.size U w')
    (CEv : ∀ U, Below w.heap.size w U → Calls Tryz.prog 79 #[.pointer (some ⟨x, 0, none⟩), .int .i64 lv] U fun e w' => e = .returned (.agg #[.int .i64 pst, .int .i64 psi, .int .i64 pha, .int .i64 pma, .int .i64 pok, .int .i64 pop, .int .u8 poc, .int .i64 pol, .int .i64 pos, .slice (some ⟨bp, po, none⟩) pnd pcd]) ∧ Below U.heap.size U w')
    (hK : ∀ (V' : Nat → Value) u1, Below w.heap.size w u1 → Q .normal (puts a0 ((List.range 13).map fun j => (sltakeD j, V' j))) ((fun v => ((v.setCell ⟨bd, 6, none⟩ (.int .u8 ec)).setCell ⟨bd, 7, none⟩ (.int .i64 el)).setCell ⟨bd, 8, none⟩ (.int .i64 es)) u1)) :
    (Code.region 4 opstakeD true).wp Tryz.prog Q a0 w := by
  have inj : ∀ i j, i < 13 → j < 13 → sltakeD i = sltakeD j → i = j := by
    have h : (List.range 13).all (fun i => (List.range 13).all (fun j => decide (sltakeD i = sltakeD j → i = j))) = true := by kernel_rfl
    intro i j hi hj he
    have h1 := List.all_eq_true.1 h i (List.mem_range.2 hi)
    have h2 := List.all_eq_true.1 h1 j (List.mem_range.2 hj)
    exact (of_decide_eq_true h2) he
  have hz : ∀ j, j < 13 → sltakeD j < a0.tmps.size := by
    have h : (List.range 13).all (fun i => decide (sltakeD i ≤ 31)) = true := by kernel_rfl
    intro j hj
    have := of_decide_eq_true (List.all_eq_true.1 h j (List.mem_range.2 hj))
    omega
  refine wp_region_inv (by kernel_rfl) opstakeD_earlier (fun L a u => JQ opstakeD sltakeD 13 (VtakeD x be bd cN bp po pnd pcd pN lv pst psi pha pma pok pop poc pol pos ec el es) a0 w (fun v => ((v.setCell ⟨bd, 6, none⟩ (.int .u8 ec)).setCell ⟨bd, 7, none⟩ (.int .i64 el)).setCell ⟨bd, 8, none⟩ (.int .i64 es)) L a u) ?_ ?_ ?_
  · rintro L L' a' u i o h ho hno hall hu
    clear hK
    have q0 := (h.fe.ev (j := 0) (by decide)).trans h0
    have q5 := (h.fe.ev (j := 5) (by decide)).trans h5
    have q6 := (h.fe.ev (j := 6) (by decide)).trans h6
    have E := h.e
    have hi : i < 14 := by
      have := (Array.getElem?_eq_some_iff.1 ho).1
      rwa [opstakeD_size] at this
    match i, hi with
    | 0, _ =>
      have hbw := h.n (fun hl => hno (anc_spec h.dc 40 13 0 (by kernel_rfl) hl))
      obtain ⟨h1, h2, h3⟩ := flds (d := some 19) (p := Op.move (.tmp 0)) (g := none) ho (by kernel_rfl)
      have g0 := q0
      refine og_plain ho h3 trivial ?_
      unfold Oper.wp
      simp only [execOp, h2, g0]
      go_simp
      exact h.next (i := 0) ho hall (by decide) hno inj hz hu (by kernel_rfl) (Below.refl _ _)
    | 1, _ =>
      have hbw := h.n (fun hl => hno (anc_spec h.dc 40 13 1 (by kernel_rfl) hl))
      obtain ⟨h1, h2, h3⟩ := flds (d := some 20) (p := Op.move (.tmp 0)) (g := none) ho (by kernel_rfl)
      have g0 := q0
      refine og_plain ho h3 trivial ?_
      unfold Oper.wp
      simp only [execOp, h2, g0]
      go_simp
      exact h.next (i := 1) ho hall (by decide) hno inj hz hu (by kernel_rfl) (Below.refl _ _)
    | 2, _ =>
      have hbw := h.n (fun hl => hno (anc_spec h.dc 40 13 2 (by kernel_rfl) hl))
      obtain ⟨h1, h2, h3⟩ := flds (d := some 21) (p := Op.fieldAddr 76 (.tmp 5) 1) (g := none) ho (by kernel_rfl)
      have g0 := q5
      refine og_plain ho h3 trivial ?_
      unfold Oper.wp
      simp only [execOp, h2, g0]
      go_simp
      exact h.next (i := 2) ho hall (by decide) hno inj hz hu (by kernel_rfl) (Below.refl _ _)
    | 3, _ =>
      have hbw := h.n (fun hl => hno (anc_spec h.dc 40 13 3 (by kernel_rfl) hl))
      obtain ⟨h1, h2, h3⟩ := flds (d := some 22) (p := Op.load 3 (.tmp 21)) (g := none) ho (by kernel_rfl)
      have g0 := (show a'.eval (.tmp 21) = .pointer (some ⟨be, 1, none⟩) from E 2 (by decide) (dep ho hall 2 (by kernel_rfl)))
      have c0 := (hbw.cell (p := ⟨be, 1, none⟩) lbe).trans k1
      refine og_plain ho h3 trivial ?_
      unfold Oper.wp
      simp only [execOp, h2, g0]
      go_simp
      exact h.next (i := 3) ho hall (by decide) hno inj hz hu (by kernel_rfl) (Below.refl _ _)
    | 4, _ =>
      have hbw := h.n (fun hl => hno (anc_spec h.dc 40 13 4 (by kernel_rfl) hl))
      refine og_call2 (g := none) ho 80 (.tmp 20) (.tmp 22) 56 3 (d := some 23) (by kernel_rfl) trivial Tryz.func80 rfl (by kernel_rfl) (by rw [(show a'.eval (.tmp 20) = .pointer (some ⟨x, 0, none⟩) from E 1 (by decide) (dep ho hall 1 (by kernel_rfl))), (show a'.eval (.tmp 22) = .int .i64 (cN : Int) from E 3 (by decide) (dep ho hall 3 (by kernel_rfl)))]; exact CLt u hbw) ?_
      rintro e w' ⟨rfl, bb⟩
      exact ⟨_, rfl, h.next (i := 4) ho hall (by decide) hno inj hz hu (by kernel_rfl) bb⟩
    | 5, _ =>
      have hbw := h.n (fun hl => hno (anc_spec h.dc 40 13 5 (by kernel_rfl) hl))
      refine og_call2 (g := none) ho 79 (.tmp 19) (.tmp 23) 56 3 (d := some 24) (by kernel_rfl) trivial Tryz.func79 rfl (by kernel_rfl) (by rw [(show a'.eval (.tmp 19) = .pointer (some ⟨x, 0, none⟩) from E 0 (by decide) (dep ho hall 0 (by kernel_rfl))), (show a'.eval (.tmp 23) = .int .i64 lv from E 4 (by decide) (dep ho hall 4 (by kernel_rfl)))]; exact CEv u hbw) ?_
      rintro e w' ⟨rfl, bb⟩
      exact ⟨_, rfl, h.next (i := 5) ho hall (by decide) hno inj hz hu (by kernel_rfl) bb⟩
    | 6, _ =>
      have hbw := h.n (fun hl => hno (anc_spec h.dc 40 13 6 (by kernel_rfl) hl))
      obtain ⟨h1, h2, h3⟩ := flds (d := some 25) (p := Op.field 76 (.tmp 24) 5) (g := none) ho (by kernel_rfl)
      have g0 := (show a'.eval (.tmp 24) = .agg #[.int .i64 pst, .int .i64 psi, .int .i64 pha, .int .i64 pma, .int .i64 pok, .int .i64 pop, .int .u8 poc, .int .i64 pol, .int .i64 pos, .slice (some ⟨bp, po, none⟩) pnd pcd] from E 5 (by decide) (dep ho hall 5 (by kernel_rfl)))
      have fd := fieldDoc pst psi pha pma pok pop poc pol pos (some ⟨bp, po, none⟩) pnd pcd u
      refine og_plain ho h3 trivial ?_
      unfold Oper.wp
      simp only [execOp, h2, g0]
      go_simp
      exact h.next (i := 6) ho hall (by decide) hno inj hz hu (by kernel_rfl) (Below.refl _ _)
    | 7, _ =>
      have hbw := h.n (fun hl => hno (anc_spec h.dc 40 13 7 (by kernel_rfl) hl))
      obtain ⟨h1, h2, h3⟩ := flds (d := some 26) (p := Op.fieldAddr 76 (.tmp 5) 4) (g := none) ho (by kernel_rfl)
      have g0 := q5
      refine og_plain ho h3 trivial ?_
      unfold Oper.wp
      simp only [execOp, h2, g0]
      go_simp
      exact h.next (i := 7) ho hall (by decide) hno inj hz hu (by kernel_rfl) (Below.refl _ _)
    | 8, _ =>
      have hbw := h.n (fun hl => hno (anc_spec h.dc 40 13 8 (by kernel_rfl) hl))
      obtain ⟨h1, h2, h3⟩ := flds (d := some 27) (p := Op.fieldAddr 69 (.tmp 26) 1) (g := none) ho (by kernel_rfl)
      have g0 := (show a'.eval (.tmp 26) = .pointer (some ⟨be, 4, none⟩) from E 7 (by decide) (dep ho hall 7 (by kernel_rfl)))
      refine og_plain ho h3 trivial ?_
      unfold Oper.wp
      simp only [execOp, h2, g0]
      go_simp
      exact h.next (i := 8) ho hall (by decide) hno inj hz hu (by kernel_rfl) (Below.refl _ _)
    | 9, _ =>
      have hbw := h.n (fun hl => hno (anc_spec h.dc 40 13 9 (by kernel_rfl) hl))
      obtain ⟨h1, h2, h3⟩ := flds (d := some 28) (p := Op.load 3 (.tmp 27)) (g := none) ho (by kernel_rfl)
      have g0 := (show a'.eval (.tmp 27) = .pointer (some ⟨be, 5, none⟩) from E 8 (by decide) (dep ho hall 8 (by kernel_rfl)))
      have c0 := (hbw.cell (p := ⟨be, 5, none⟩) lbe).trans k5
      refine og_plain ho h3 trivial ?_
      unfold Oper.wp
      simp only [execOp, h2, g0]
      go_simp
      exact h.next (i := 9) ho hall (by decide) hno inj hz hu (by kernel_rfl) (Below.refl _ _)
    | 10, _ =>
      have hbw := h.n (fun hl => hno (anc_spec h.dc 40 13 10 (by kernel_rfl) hl))
      obtain ⟨h1, h2, h3⟩ := flds (d := some 29) (p := Op.indexAddr 70 (.tmp 25) (.tmp 28)) (g := none) ho (by kernel_rfl)
      have g0 := (show a'.eval (.tmp 25) = .slice (some ⟨bp, po, none⟩) pnd pcd from E 6 (by decide) (dep ho hall 6 (by kernel_rfl)))
      have g1 := (show a'.eval (.tmp 28) = .int .i64 (pN : Int) from E 9 (by decide) (dep ho hall 9 (by kernel_rfl)))
      refine og_plain ho h3 trivial ?_
      unfold Oper.wp
      simp only [execOp, h2, g0, g1]
      go_simp
      exact h.next (i := 10) ho hall (by decide) hno inj hz hu (by kernel_rfl) (Below.refl _ _)
    | 11, _ =>
      have hbw := h.n (fun hl => hno (anc_spec h.dc 40 13 11 (by kernel_rfl) hl))
      obtain ⟨h1, h2, h3⟩ := flds (d := some 30) (p := Op.load 42 (.tmp 29)) (g := none) ho (by kernel_rfl)
      have g0 := (show a'.eval (.tmp 29) = .pointer (some ⟨bp, po + pN * 3, none⟩) from E 10 (by decide) (dep ho hall 10 (by kernel_rfl)))
      have c0 := (hbw.cell (p := ⟨bp, po + pN * 3, none⟩) lbp).trans m0
      have c1 := (hbw.cell (p := ⟨bp, po + pN * 3 + 1, none⟩) lbp).trans m1
      have c2 := (hbw.cell (p := ⟨bp, po + pN * 3 + 2, none⟩) lbp).trans m2
      refine og_plain ho h3 trivial ?_
      unfold Oper.wp
      simp only [execOp, h2, g0]
      go_simp
      exact h.next (i := 11) ho hall (by decide) hno inj hz hu (by kernel_rfl) (Below.refl _ _)
    | 12, _ =>
      have hbw := h.n (fun hl => hno (anc_spec h.dc 40 13 12 (by kernel_rfl) hl))
      obtain ⟨h1, h2, h3⟩ := flds (d := some 31) (p := Op.fieldAddr 143 (.tmp 6) 1) (g := none) ho (by kernel_rfl)
      have g0 := q6
      refine og_plain ho h3 trivial ?_
      unfold Oper.wp
      simp only [execOp, h2, g0]
      go_simp
      exact h.next (i := 12) ho hall (by decide) hno inj hz hu (by kernel_rfl) (Below.refl _ _)
    | 13, _ =>
      obtain ⟨h1, h2, h3⟩ := flds (d := none) (p := Op.store 42 (.tmp 31) (.tmp 30)) (g := none) ho (by kernel_rfl)
      have g0 := (show a'.eval (.tmp 31) = .pointer (some ⟨bd, 6, none⟩) from E 12 (by decide) (dep ho hall 12 (by kernel_rfl)))
      have gv := (show a'.eval (.tmp 30) = .agg #[.int .u8 ec, .int .i64 el, .int .i64 es] from E 11 (by decide) (dep ho hall 11 (by kernel_rfl)))
      have hbw := h.n hno
      have z0 := (hbw.cell (p := ⟨bd, 6, none⟩) lbd).trans d0; have z1 := (hbw.cell (p := ⟨bd, 7, none⟩) lbd).trans d1; have z2 := (hbw.cell (p := ⟨bd, 8, none⟩) lbd).trans d2
      have f0 := (hfz u hbw).1; have f1 := (hfz u hbw).2.1; have f2 := (hfz u hbw).2.2
      refine og_plain ho h3 trivial ?_
      unfold Oper.wp
      simp only [execOp, h2, g0, gv]
      go_simp
      exact h.store ho hall hno hu
    | i + 14, hi => omega
  · rintro L a' u h hall
    rw [opstakeD_size] at hall
    obtain ⟨V', u1, hb, rfl, rfl⟩ := h.done hz (hall 13 (by omega))
    exact hK V' u1 hb
  · intro L hL
    exact JQ.start ((Below.refl _ _).drew) hL

end Go.Proofs.YtfhghijefjhehaaGreatDoor

/-! Lc -/
namespace Go.Proofs.YtfhghijefjhehaaGreatDoor
open Go.RowKit
set_option linter.unusedVariables false

/-- nil, or a part of the row at block g, all of which is its own. -/
def FO (w : World) (β : Option Nat) (v : Value) (fs : List OpE) : Prop :=
  match β with
  | none => v = .slice none 0 0 ∧ fs = []
  | some g => ∃ off cap, ∃ cur : List Value, v = .slice (some ⟨g, off, none⟩) fs.length cap ∧ w.heap[g]? = some (.cells cur.toArray 69 (0, 0)) ∧ fs.length ≤ cap ∧ cap ≤ 9223372036854775807 ∧ off + cap * 5 ≤ cur.length ∧ ∀ j u, (cO fs)[j]? = some u → cur[off + j]? = some u
theorem FO.fr {S : Nat → Prop} {w w' : World} {β : Option Nat} {v : Value} {fs : List OpE} (h : FO w β v fs) (hF : Fr S w w') (hS : ∀ g, β = some g → ¬ S g) : FO w' β v fs := by
  cases β with
  | none => exact h
  | some g =>
    obtain ⟨off, cap, cur, h1, h2, h3⟩ := h
    exact ⟨off, cap, cur, h1, hF.keeps h2 (hS g rfl), h3⟩
theorem FO.lt {w : World} {β : Option Nat} {v : Value} {fs : List OpE} (h : FO w β v fs) : ∀ g, β = some g → g < w.heap.size := by
  rintro g rfl
  obtain ⟨off, cap, cur, h1, h2, h3⟩ := h
  exact block_lt h2
theorem FO.is {w : World} {β : Option Nat} {v : Value} {fs : List OpE} (h : FO w β v fs) : ∃ a c, v = .slice a fs.length c ∧ IsO w a fs.length c fs := by
  cases β with
  | none =>
    obtain ⟨rfl, rfl⟩ := h
    exact ⟨none, 0, rfl, rfl, by simp, by omega, fun h => by simp at h⟩
  | some g =>
    obtain ⟨off, cap, cur, rfl, h2, h3, h4, h5, h6⟩ := h
    refine ⟨_, cap, rfl, rfl, h3, h4, fun _ => ⟨g, off, rfl, block_lt h2, fun j u hj => ?_⟩⟩
    rw [cell_row h2]
    simpa using h6 j u hj
theorem FO.of_own {w : World} {base : Nat} {v : Value} {fs : List OpE} (h : OwnO w base v fs) : ∃ g, base ≤ g ∧ FO w (some g) v fs := by
  obtain ⟨g, c, h1, rfl, h3⟩ := h
  refine ⟨g, h1, 0, c, ?_⟩
  obtain ⟨cur, k1, k2, k3, k4, k5, k6⟩ := h3
  refine ⟨cur, rfl, k1, k4, k5, by rw [k6]; omega, fun j u hj => ?_⟩
  rw [← k2] at hj
  have hjl := (List.getElem?_eq_some_iff.1 hj).1
  rw [List.length_take] at hjl
  rw [List.getElem?_take, if_pos (by omega)] at hj
  rw [Nat.zero_add]
  exact hj

/-- The first form taken away: the slice begins one later (or, where no room is left, where it did). -/
theorem FO.tail {w : World} {β : Option Nat} {x : OpE} {fs : List OpE} {a : Option Addr} {n c : Nat} (h : FO w β (.slice a n c) (x :: fs)) : ∃ g off, β = some g ∧ a = some ⟨g, off, none⟩ ∧ n = fs.length + 1 ∧ 1 ≤ c ∧ c ≤ 9223372036854775807 ∧ fs.length + 1 ≤ c ∧
    (c = 1 → FO w β (.slice (some ⟨g, off, none⟩) fs.length 0) fs) ∧ FO w β (.slice (some ⟨g, off + 5, none⟩) fs.length (c - 1)) fs := by
  cases β with
  | none => obtain ⟨-, h⟩ := h; cases h
  | some g =>
    obtain ⟨off, cap, cur, hv, h2, h3, h4, h5, h6⟩ := h
    obtain ⟨rfl, rfl, rfl⟩ : a = some ⟨g, off, none⟩ ∧ n = fs.length + 1 ∧ c = cap := by simpa using hv
    simp only [List.length_cons] at h3
    refine ⟨g, off, rfl, rfl, rfl, by omega, h4, h3, fun hc => ⟨off, 0, cur, ?_, h2, by omega, by omega, by omega, fun j u hj => ?_⟩, ⟨off + 5, c - 1, cur, rfl, h2, by omega, by omega, by omega, fun j u hj => ?_⟩⟩
    · rfl
    · have : fs = [] := List.length_eq_zero_iff.1 (by omega)
      subst this
      simp [cO] at hj
    · have := h6 (5 + j) u (by
        rw [cO_cons, List.getElem?_append_right (by simp [opc])]
        simpa [opc] using hj)
      rw [← Nat.add_assoc] at this
      exact this

theorem setCells_row {g : Nat} {t : TypeId} : ∀ (vs : List Value) (o : Nat) (w : World) (cur : Array Value), w.heap[g]? = some (.cells cur t (0, 0)) → ∃ cur' : Array Value, (w.setCells g o vs).heap[g]? = some (.cells cur' t (0, 0)) ∧ cur'.size = cur.size ∧ (∀ j, j < vs.length → o + j < cur.size → cur'[o + j]? = vs[j]?) ∧ (∀ j, j < o → cur'[j]? = cur[j]?) ∧ Fr (· = g) w (w.setCells g o vs)
  | [], o, w, cur, h => ⟨cur, h, rfl, fun j hj => by simp at hj, fun j _ => rfl, Fr.refl _ _⟩
  | v :: r, o, w, cur, h => by
    obtain ⟨cur', h1, h2, h3, h4, h5⟩ := setCells_row r (o + 1) (w.setCell ⟨g, o, none⟩ v) (cur.setIfInBounds o v) (set_row h o v)
    refine ⟨cur', h1, by rw [h2]; simp, fun j hj hl => ?_, fun j hj => ?_, (Fr.setCell (S := (· = g)) w ⟨g, o, none⟩ v rfl).trans h5⟩
    · cases j with
      | zero =>
        rw [Nat.add_zero, h4 o (by omega), Array.getElem?_setIfInBounds_self_of_lt (by omega)]
        rfl
      | succ j =>
        have := h3 j (by simpa using hj) (by simp; omega)
        rw [show o + (j + 1) = o + 1 + j by omega, this]
        rfl
    · rw [h4 j (by omega), Array.getElem?_setIfInBounds_ne (by omega)]

/-- append of one form. -/
theorem FO.push {w : World} {β : Option Nat} {v : Value} {fs : List OpE} (h : FO w β v fs) (x : OpE) (b : Nat) (hb : w.heap[b]? = some (.cells (opc x).toArray 69 (0, 0))) (hn : fs.length ≤ 1000000) :
    ∃ v' w' g', (∀ ty, (Builtin.append_ #[63, 63] ty #[v, .slice (some ⟨b, 0, none⟩) 1 1]).run Tryz.prog w = .ok v' w') ∧ FO w' (some g') v' (fs ++ [x]) ∧ ((β = some g' ∧ Fr (· = g') w w') ∨ (g' = w.heap.size ∧ Fr (fun _ => False) w w')) := by
  obtain ⟨i0, hi0, hz0, hz1, hz2⟩ : ∃ i0, Tryz.prog.info? 69 = some i0 ∧ i0.zero = some (.agg #[.int .i64 0, .int .i64 0, .int .u8 0, .int .i64 0, .int .i64 0]) ∧ i0.size = 5 ∧ i0.bytes = 40 := by
    cases hq : Tryz.prog.info? 69 with
    | none => have := Tryz.infoO; rw [hq] at this; cases this
    | some i =>
      have h := Tryz.infoO
      rw [hq] at h
      simp only [Option.map_some, Option.some.injEq, Prod.mk.injEq] at h
      exact ⟨i, rfl, h.1, h.2.1, h.2.2⟩
  have hn1 : ∀ j u, (opc x)[j]? = some u → w.cell? ((⟨b, 0, none⟩ : Addr).add j) = some u := fun j u hj => by
    rw [add_lit, cell_row hb, Nat.zero_add, List.getElem?_toArray]
    exact hj
  have h1c : ∀ u ∈ opc x, u.oneCell' = true := fun u hu => cO_one' [x] u (by rw [cO_one]; exact hu)
  have hlm : (opc x).length = 1 * i0.size := by rw [hz1]; rfl
  have newFO : ∀ G, fs.length + 1 ≤ G → G ≤ 9223372036854775807 → FO (w.drew.alloc (.cells ((cO fs).toArray ++ (opc x).toArray ++ Builtin.zeroCells (Value.agg #[.int .i64 0, .int .i64 0, .int .u8 0, .int .i64 0, .int .i64 0]).cells (G - (fs.length + 1))) 69)) (some w.heap.size) (.slice (some ⟨w.heap.size, 0, none⟩) (fs.length + 1) G) (fs ++ [x]) := by
    intro G h1 h2
    refine ⟨0, G, ((cO fs).toArray ++ (opc x).toArray ++ Builtin.zeroCells (Value.agg #[.int .i64 0, .int .i64 0, .int .u8 0, .int .i64 0, .int .i64 0]).cells (G - (fs.length + 1))).toList, by simp, ?_, by simpa using h1, h2, ?_, fun j u hj => ?_⟩
    · rw [show w.heap.size = w.drew.heap.size from rfl, heap_alloc_new]
    · rw [Array.toList_append, Array.toList_append, List.length_append, List.length_append, List.toList_toArray, List.toList_toArray, cO_len, Array.length_toList (xs := Builtin.zeroCells _ _), size_zeroCells]
      simp only [opc, List.length_cons, List.length_nil, show (Value.agg #[.int .i64 0, .int .i64 0, .int .u8 0, .int .i64 0, .int .i64 0]).cells.size = 5 from rfl]
      omega
    · rw [Array.toList_append, Array.toList_append, List.toList_toArray, List.toList_toArray, Nat.zero_add]
      rw [cO_app, cO_one] at hj
      rw [List.getElem?_append_left (List.getElem?_eq_some_iff.1 hj).1]
      exact hj
  have newfr : ∀ o, Fr (fun _ => False) w (w.drew.alloc o) := fun o => (Fr.drew _ w).trans (Fr.alloc _ _ _)
  cases β with
  | none =>
    obtain ⟨rfl, rfl⟩ := h
    have hr := fun ty => run_append_nil (P := Tryz.prog) w 63 ty 69 i0 _ Tryz.underlying63 hi0 hz0 ⟨b, 0, none⟩ 1 1 (opc x) hlm hn1 (by omega) (by omega) (by rw [hz2]; omega)
    have hG1 := grownCap_ge w 1 0 69
    have hG2 := grownCap_le_maxLen w 1 0 69 (by unfold maxLen; omega)
    generalize grownCap w 1 0 69 = G at hr hG1 hG2
    refine ⟨_, _, w.heap.size, hr, ?_, .inr ⟨rfl, newfr _⟩⟩
    have := newFO G (by simpa using hG1) hG2
    simpa [cO] using this
  | some g =>
    obtain ⟨off, cap, cur, rfl, h2, h3, h4, h5, h6⟩ := h
    by_cases hroom : fs.length + 1 ≤ cap
    · have hr := fun ty => run_append_room_cells (P := Tryz.prog) w 63 ty 69 i0 Tryz.underlying63 hi0 g off fs.length cap ⟨b, 0, none⟩ 1 1 (opc x) hlm hn1 h1c hroom (fun j hj => by
        rw [cell_row h2, hz1]
        have : off + fs.length * 5 + j < cur.length := by simp [opc] at hj; omega
        simp [this]) (fun j hj => frozen_row h2 _)
      rw [hz1] at hr
      refine ⟨_, _, g, hr, ?_, .inl ⟨rfl, ?_⟩⟩
      · obtain ⟨cur', k1, k2, k3, k4, -⟩ := setCells_row (opc x) (off + fs.length * 5) w cur.toArray h2
        refine ⟨off, cap, cur'.toList, by simp, by simpa using k1, by simpa using hroom, h4, by simpa [k2] using h5, fun j u hj => ?_⟩
        rw [cO_app, cO_one] at hj
        by_cases hlt : j < (cO fs).length
        · rw [List.getElem?_append_left hlt] at hj
          rw [cO_len] at hlt
          have := k4 (off + j) (by omega)
          rw [Array.getElem?_toList, this, List.getElem?_toArray]
          exact h6 j u hj
        · rw [List.getElem?_append_right (by omega)] at hj
          have hjl := (List.getElem?_eq_some_iff.1 hj).1
          rw [cO_len] at hj hlt hjl
          have h5' : (opc x).length = 5 := rfl
          have := k3 (j - fs.length * 5) hjl (by simp; omega)
          rw [show off + fs.length * 5 + (j - fs.length * 5) = off + j by omega] at this
          rw [Array.getElem?_toList, this]
          exact hj
      · exact (setCells_row (opc x) (off + fs.length * 5) w cur.toArray h2).elim fun _ h => h.2.2.2.2
    · have hr := fun ty => run_append_grow (P := Tryz.prog) w 63 ty 69 i0 _ Tryz.underlying63 hi0 hz0 ⟨g, off, none⟩ fs.length cap (cO fs) (by rw [cO_len, hz1]) (fun j u hj => by
        rw [add_lit, cell_row h2, List.getElem?_toArray]
        exact h6 j u hj) ⟨b, 0, none⟩ 1 1 (opc x) hlm hn1 (by omega) (by omega) (by
          rw [hz2]
          exact growslice_fits_wide (by omega) (by omega))
      have hG1 := grownCap_ge w (fs.length + 1) cap 69
      have hG2 := grownCap_le_maxLen w (fs.length + 1) cap 69 (by unfold maxLen; omega)
      generalize grownCap w (fs.length + 1) cap 69 = G at hr hG1 hG2
      exact ⟨_, _, w.heap.size, hr, newFO G hG1 hG2, .inr ⟨rfl, newfr _⟩⟩

end Go.Proofs.YtfhghijefjhehaaGreatDoor

/-! Wc -/
namespace Go.Proofs.YtfhghijefjhehaaGreatDoor
open Go.RowKit
set_option linter.unusedVariables false

set_option maxHeartbeats 4000000 in
theorem acts_no (k p c q s : Int) (w : World) (hk : rowP k = 0) : Calls Tryz.prog 134 #[.agg #[.int .i64 k, .int .i64 p, .int .u8 c, .int .i64 q, .int .i64 s]] w fun e w' =>
    e = .returned (.bool false) ∧ Below w.heap.size w w' := by
  have := rowP_zero hk
  have b1 : (k == 1) = false := by simp; omega
  have b2 : (k == 2) = false := by simp; omega
  clear this hk
  go_enter Tryz.func134, Tryz.ntmps134
  go_wp2
  go_ret
  exact ⟨rfl, (Below.refl _ _).alloc (Nat.le_refl _) _⟩

theorem acts_1 (p c q s : Int) (w : World) : Calls Tryz.prog 134 #[.agg #[.int .i64 1, .int .i64 p, .int .u8 c, .int .i64 q, .int .i64 s]] w fun e w' =>
    e = .returned (.bool true) ∧ Below w.heap.size w w' := by
  go_enter Tryz.func134, Tryz.ntmps134
  go_wp2
  go_ret
  exact ⟨rfl, (Below.refl _ _).alloc (Nat.le_refl _) _⟩
theorem acts_2 (p c q s : Int) (w : World) : Calls Tryz.prog 134 #[.agg #[.int .i64 2, .int .i64 p, .int .u8 c, .int .i64 q, .int .i64 s]] w fun e w' =>
    e = .returned (.bool true) ∧ Below w.heap.size w w' := by
  go_enter Tryz.func134, Tryz.ntmps134
  go_wp2
  go_ret
  exact ⟨rfl, (Below.refl _ _).alloc (Nat.le_refl _) _⟩

def aheadP (k' p' k p : Int) (f : Bool) : Bool := if p' = p then (if k' = 1 ∧ k = 1 then !f else decide (k' = 1 ∧ k = 2)) else decide (p' < p)

set_option maxHeartbeats 4000000 in
theorem ahead_any (k' p' c' q' s' k p c q s : Int) (f : Bool) (w : World) (hk : k = 1 ∨ k = 2) (hk' : k' = 1 ∨ k' = 2) : Calls Tryz.prog 135 #[.agg #[.int .i64 k', .int .i64 p', .int .u8 c', .int .i64 q', .int .i64 s'], .agg #[.int .i64 k, .int .i64 p, .int .u8 c, .int .i64 q, .int .i64 s], .bool f] w fun e w' =>
    e = .returned (.bool (aheadP k' p' k p f)) ∧ Below w.heap.size w w' := by
  by_cases he : p' = p
  · subst he
    rcases hk with rfl | rfl <;> rcases hk' with rfl | rfl <;>
    · simp only [aheadP, if_true]
      go_enter Tryz.func135, Tryz.ntmps135
      go_wp2
      go_ret
      exact ⟨rfl, ((Below.refl _ _).alloc (Nat.le_refl _) _).alloc (by simp) _⟩
  · have he' : (p' != p) = true := by simpa using he
    have H : aheadP k' p' k p f = decide (p' < p) := by simp [aheadP, he]
    rw [H]
    clear he hk hk' H
    go_enter Tryz.func135, Tryz.ntmps135
    go_wp2
    go_ret
    exact ⟨rfl, ((Below.refl _ _).alloc (Nat.le_refl _) _).alloc (by simp) _⟩

end Go.Proofs.YtfhghijefjhehaaGreatDoor
