/-
  Texts put together: He Hi Ii.
-/
import Derived.Test.YtfhghijefjhehaaDoorHd
import Derived.Test.YtfhghijefjhehaaDoorVc
import Derived.Test.YtfhghijefjhehaaDoorMB
import Derived.Test.YtfhghijefjhehaaDoorIh
/-! He -/
namespace Go.Proofs.YtfhghijefjhehaaDoor
open Go.RowKit
set_option linter.unusedVariables false

theorem chP_doc (o : OpE) : chP o = (decide (o.kind = 1 ∨ o.kind = 2) && decide (validP o = 0)) := by
  unfold chP
  by_cases hv : validP o = 0
  · have := (validP_zero hv).1
    simp only [hv, decide_true, Bool.and_true, decide_eq_decide]
    omega
  · simp [hv]

set_option maxRecDepth 100000 in
set_option maxHeartbeats 2000000 in
theorem change_any (k p c l s : Int) (w : World) :
    Calls Tryd.prog 28 #[.agg #[.int .i64 k, .int .i64 p, .int .u8 c, .int .i64 l, .int .i64 s]] w fun e w' => e = .returned (.bool (chP ⟨k, p, c, l, s⟩)) ∧ Below w.heap.size w w' := by
  have CV := hd (fun W => rvalid_any k p c l s W)
  have hP : Hid (chP ⟨k, p, c, l, s⟩ = (decide (k = 1 ∨ k = 2) && decide (validP ⟨k, p, c, l, s⟩ = 0))) := chP_doc _
  generalize chP ⟨k, p, c, l, s⟩ = b at *
  generalize validP ⟨k, p, c, l, s⟩ = r at *
  have B1 := hd ((Below.refl w.heap.size w).alloc (Nat.le_refl _) (.cells #[.int .i64 k, .int .i64 p, .int .u8 c, .int .i64 l, .int .i64 s] 46))
  by_cases hk : k = 1 ∨ k = 2
  · by_cases hr : r = 0
    · have hb : b = true := by rw [hP.out]; simp [hk, hr]
      subst hb hr
      rcases hk with rfl | rfl
      all_goals
        go_enter Tryd.func28, Tryd.ntmps28
        go_wp2_with fail
        refine (CV.out _).mono ?_
        rintro e w1 ⟨rfl, b1⟩
        have Z := hd (B1.out.trans (b1.mono B1.out.size))
        clear b1
        go_wp2
        go_ret
        exact ⟨rfl, Z.out⟩
    · have hb : b = false := by rw [hP.out]; simp [hr]
      have r1 : (r == 0) = false := by simpa using hr
      subst hb
      rcases hk with rfl | rfl
      all_goals
        go_enter Tryd.func28, Tryd.ntmps28
        go_wp2_with fail
        refine (CV.out _).mono ?_
        rintro e w1 ⟨rfl, b1⟩
        have Z := hd (B1.out.trans (b1.mono B1.out.size))
        clear b1
        go_wp2
        go_ret
        exact ⟨rfl, Z.out⟩
  · have hb : b = false := by rw [hP.out]; simp [hk]
    subst hb
    have k1 : (k == 1) = false := by simp; omega
    have k2 : (k == 2) = false := by simp; omega
    clear hk
    go_enter Tryd.func28, Tryd.ntmps28
    go_wp2_with fail
    go_ret
    exact ⟨rfl, B1.out⟩

end Go.Proofs.YtfhghijefjhehaaDoor

/-! Hi -/
namespace Go.Proofs.YtfhghijefjhehaaDoor
open Go.RowKit
set_option linter.unusedVariables false

theorem block_keep {B : Nat} {w w' : World} (h : Below B w w') {x : Nat} {o : Obj} (hx : w.heap[x]? = some o) (hB : x < B) : w'.heap[x]? = some o := (h.block x hB).trans hx

/-- The three boxes of made. -/
def Bx (w w0 : World) (hv : Array Value) (st si ha ma ok op oc ol os : Int) (ad : Option Addr) (nd cd : Nat) (pst psi pha pma pk pp pc pl ps : Int) (pa : Option Addr) (pn pcap : Nat) : Prop :=
  w0.heap[w.heap.size]? = some (.cells hv 25 (0, 0)) ∧
  w0.heap[w.heap.size + 1]? = some (.cells #[.int .i64 st, .int .i64 si, .int .i64 ha, .int .i64 ma, .int .i64 ok, .int .i64 op, .int .u8 oc, .int .i64 ol, .int .i64 os, .slice ad nd cd] 50 (0, 0)) ∧
  w0.heap[w.heap.size + 1 + 1]? = some (.cells #[.int .i64 pst, .int .i64 psi, .int .i64 pha, .int .i64 pma, .int .i64 pk, .int .i64 pp, .int .u8 pc, .int .i64 pl, .int .i64 ps, .slice pa pn pcap] 50 (0, 0)) ∧
  w.heap.size + 1 + 1 < w0.heap.size ∧ Below w.heap.size w w0

theorem bx_mk (w : World) (hv : Array Value) (st si ha ma ok op oc ol os : Int) (ad : Option Addr) (nd cd : Nat) (pst psi pha pma pk pp pc pl ps : Int) (pa : Option Addr) (pn pcap : Nat) :
    Bx w (((w.alloc (.cells hv 25)).alloc (.cells #[.int .i64 st, .int .i64 si, .int .i64 ha, .int .i64 ma, .int .i64 ok, .int .i64 op, .int .u8 oc, .int .i64 ol, .int .i64 os, .slice ad nd cd] 50)).alloc (.cells #[.int .i64 pst, .int .i64 psi, .int .i64 pha, .int .i64 pma, .int .i64 pk, .int .i64 pp, .int .u8 pc, .int .i64 pl, .int .i64 ps, .slice pa pn pcap] 50))
      hv st si ha ma ok op oc ol os ad nd cd pst psi pha pma pk pp pc pl ps pa pn pcap := by
  refine ⟨?_, ?_, ?_, by simp, (((Below.refl _ _).alloc (Nat.le_refl _) _).alloc (by simp) _).alloc (by simp; omega) _⟩
  · exact (heap_alloc_old _ _ (by simp; omega)).trans ((heap_alloc_old _ _ (by simp)).trans (heap_alloc_new _ _))
  · refine (heap_alloc_old _ _ (by simp)).trans ?_
    have := heap_alloc_new (w.alloc (.cells hv 25)) (.cells #[.int .i64 st, .int .i64 si, .int .i64 ha, .int .i64 ma, .int .i64 ok, .int .i64 op, .int .u8 oc, .int .i64 ol, .int .i64 os, .slice ad nd cd] 50)
    rwa [World.size_alloc] at this
  · have := heap_alloc_new ((w.alloc (.cells hv 25)).alloc (.cells #[.int .i64 st, .int .i64 si, .int .i64 ha, .int .i64 ma, .int .i64 ok, .int .i64 op, .int .u8 oc, .int .i64 ol, .int .i64 os, .slice ad nd cd] 50)) (.cells #[.int .i64 pst, .int .i64 psi, .int .i64 pha, .int .i64 pma, .int .i64 pk, .int .i64 pp, .int .u8 pc, .int .i64 pl, .int .i64 ps, .slice pa pn pcap] 50)
    rwa [World.size_alloc, World.size_alloc] at this
theorem Bx.below {w w0 w1 : World} {hv : Array Value} {st si ha ma ok op oc ol os : Int} {ad : Option Addr} {nd cd : Nat} {pst psi pha pma pk pp pc pl ps : Int} {pa : Option Addr} {pn pcap : Nat}
    (h : Bx w w0 hv st si ha ma ok op oc ol os ad nd cd pst psi pha pma pk pp pc pl ps pa pn pcap) (hb : Below w0.heap.size w0 w1) : Bx w w1 hv st si ha ma ok op oc ol os ad nd cd pst psi pha pma pk pp pc pl ps pa pn pcap :=
  ⟨block_keep hb h.1 (by have := h.2.2.2.1; omega), block_keep hb h.2.1 (by have := h.2.2.2.1; omega), block_keep hb h.2.2.1 h.2.2.2.1, Nat.lt_of_lt_of_le h.2.2.2.1 hb.size, h.2.2.2.2.trans (hb.mono h.2.2.2.2.size)⟩

set_option maxRecDepth 100000 in
set_option maxHeartbeats 4000000 in
theorem made_no (C : Int) (aL aE : Option Addr) (nL cL nE cE : Nat) (st si ha ma ok op oc ol os : Int) (ad : Option Addr) (nd cd : Nat) (pst psi pha pma pk pp pc pl ps : Int) (pa : Option Addr) (pn pcap : Nat) (w : World)
    (hm : -9223372036854775808 ≤ pma ∧ pma ≤ 9223372036854775800)
    (hno : ¬ (chP ⟨ok, op, oc, ol, os⟩ = true ∧ ol = si ∧ os = ma ∧ ma = pma + 1 ∧ ha = pha)) :
    Calls Tryd.prog 31 #[.agg #[.int .i64 C, .slice aL nL cL, .slice aE nE cE], .agg #[.int .i64 st, .int .i64 si, .int .i64 ha, .int .i64 ma, .int .i64 ok, .int .i64 op, .int .u8 oc, .int .i64 ol, .int .i64 os, .slice ad nd cd], .agg #[.int .i64 pst, .int .i64 psi, .int .i64 pha, .int .i64 pma, .int .i64 pk, .int .i64 pp, .int .u8 pc, .int .i64 pl, .int .i64 ps, .slice pa pn pcap]] w
      fun e w' => e = .returned (.bool false) ∧ Below w.heap.size w w' := by
  have BX := hd (bx_mk w #[.int .i64 C, .slice aL nL cL, .slice aE nE cE] st si ha ma ok op oc ol os ad nd cd pst psi pha pma pk pp pc pl ps pa pn pcap)
  have CV := hd (fun W => change_any ok op oc ol os W)
  have ew : wrap64 (pma + 1) = pma + 1 := wrap64_id (by omega) (by omega)
  have HM := hd hm
  clear hm
  generalize chP ⟨ok, op, oc, ol, os⟩ = ch at *
  go_enter Tryd.func31, Tryd.ntmps31
  go_upto_region 1 with fail
  generalize (((w.alloc (.cells #[.int .i64 C, .slice aL nL cL, .slice aE nE cE] 25)).alloc (.cells #[.int .i64 st, .int .i64 si, .int .i64 ha, .int .i64 ma, .int .i64 ok, .int .i64 op, .int .u8 oc, .int .i64 ol, .int .i64 os, .slice ad nd cd] 50)).alloc (.cells #[.int .i64 pst, .int .i64 psi, .int .i64 pha, .int .i64 pma, .int .i64 pk, .int .i64 pp, .int .u8 pc, .int .i64 pl, .int .i64 ps, .slice pa pn pcap] 50)) = w0 at *
  have e4 := cell_row BX.out.2.1 4; have e5 := cell_row BX.out.2.1 5; have e6 := cell_row BX.out.2.1 6; have e7 := cell_row BX.out.2.1 7; have e8 := cell_row BX.out.2.1 8
  simp at e4 e5 e6 e7 e8
  go_wp2_with fail
  refine (CV.out _).mono ?_
  rintro e w1 ⟨rfl, b1⟩
  clear e4 e5 e6 e7 e8
  have B1 := hd (BX.out.below b1)
  clear BX b1 CV
  have e1 := cell_row B1.out.2.1 1; have e2 := cell_row B1.out.2.1 2; have e3 := cell_row B1.out.2.1 3; have e7 := cell_row B1.out.2.1 7; have e8 := cell_row B1.out.2.1 8
  have p2 := cell_row B1.out.2.2.1 2; have p3 := cell_row B1.out.2.2.1 3
  simp at e1 e2 e3 e7 e8 p2 p3
  cases ch with
  | false =>
    clear hno
    go_wp2
    go_ret
    exact ⟨rfl, B1.out.2.2.2.2⟩
  | true =>
    by_cases h1 : ol = si
    · subst h1
      by_cases h2 : os = ma
      · subst h2
        by_cases h3 : os = pma + 1
        · have h4 : ha ≠ pha := fun h4 => hno ⟨rfl, rfl, rfl, h3, h4⟩
          subst h3
          have k4 : (ha != pha) = true := by simpa using h4
          clear hno h4
          go_wp2
          go_ret
          exact ⟨rfl, B1.out.2.2.2.2⟩
        · have k3 : (os != pma + 1) = true := by simpa using h3
          clear hno h3
          go_wp2
          go_ret
          exact ⟨rfl, B1.out.2.2.2.2⟩
      · have k2 : (os != ma) = true := by simpa using h2
        clear hno h2
        go_wp2
        go_ret
        exact ⟨rfl, B1.out.2.2.2.2⟩
    · have k1 : (ol != si) = true := by simpa using h1
      clear hno h1
      go_wp2
      go_ret
      exact ⟨rfl, B1.out.2.2.2.2⟩

end Go.Proofs.YtfhghijefjhehaaDoor

/-! Ii -/
namespace Go.Proofs.YtfhghijefjhehaaDoor
open Go.RowKit
set_option linter.unusedVariables false

section
variable {ops : Array Oper} {o : Oper} {a : Act} {w : World} {K : Act → World → Prop} {Q : Exit → Act → World → Prop} {i : Nat}
theorem og_call2 {g : Option (Nat × Bool)} (ho : ops[i]? = some o) (f : FuncId) (x y : Operand) (t u : TypeId) {d : Option Tmp} (h : (ops[i]?).map (fun o => (o.dst, o.op, o.guard)) = some (d, Op.call { callee := .value (.func f), args := #[x, y], argTypes := #[t, u] }, g)) (hw : gOk ops a g) {fn : Func} {c : Code} (hf : Tryd.prog.funcs[f]? = some fn) (hb : fn.body = some c) (hnm : (fn.name == "runtime.NumGoroutine") = false) {R : Ending → World → Prop} (hC : Calls Tryd.prog f #[a.eval x, a.eval y] w R) (hK : ∀ e w', R e w' → ∃ v, e = .returned v ∧ K (a.put d v) w') : wpOp Tryd.prog ops Q i K a w := by
  obtain ⟨h1, h2, h3⟩ := flds ho h
  refine og_plain ho h3 hw ?_
  unfold Oper.wp
  have e1 : (execOp a.eval o).run Tryd.prog w = .ok (.enter f #[a.eval x, a.eval y]) w := by
    simp [execOp, h2, resolve, invoke, Deferred.ofValue, show a.eval (.func f) = .func (.func f) #[] #[] from rfl, callFunc, hf, hb]
    simpa using hnm
  rw [e1]
  show Calls Tryd.prog f #[a.eval x, a.eval y] w _
  refine hC.mono fun e w' h => ?_
  obtain ⟨v, rfl, hk⟩ := hK e w' h
  rw [h1]
  exact hk
end

/-- Quiet operations and calls have put V j into their slots; ka lays a new block, N fills it. -/
structure JA (ops : Array Oper) (σ : Nat → Nat) (N ka : Nat) (V : Nat → Value) (a0 : Act) (w : World) (Z D : Array Value) (T : TypeId) (L : Nat → Prop) (a : Act) (u : World) : Prop where
  fe : Fe a0 a ((List.range N).map σ)
  e : ∀ j, j < N → j ≠ ka → L j → a.eval (.tmp (σ j)) = V j
  dc : Dc ops L
  n : Below w.heap.size w u
  al : L ka → ∃ g, a.eval (.tmp (σ ka)) = .pointer (some ⟨g, 0, none⟩) ∧ w.heap.size ≤ g ∧ (¬ L N → u.heap[g]? = some (.cells Z T (0, 0))) ∧ (L N → u.heap[g]? = some (.cells D T (0, 0)))

section
variable {ops : Array Oper} {σ : Nat → Nat} {N ka : Nat} {V : Nat → Value} {a0 : Act} {w : World} {Z D : Array Value} {T : TypeId} {L L' : Nat → Prop} {a : Act} {u u' : World} {i : Nat} {o : Oper}
theorem JA.next (h : JA ops σ N ka V a0 w Z D T L a u) (ho : ops[i]? = some o) (hall : ∀ e ∈ o.after, Region.binds .any e = true → L e.on) (hi : i < N) (ib : i ≠ ka) (hb : ka < N) (hinj : ∀ i j, i < N → j < N → σ i = σ j → i = j) (hz : ∀ j, j < N → σ j < a0.tmps.size) (hu : ∀ j, L' j ↔ (j = i ∨ L j)) (hB : Below u.heap.size u u') :
    JA ops σ N ka V a0 w Z D T L' (a.put (some (σ i)) (V i)) u' := by
  have la : L' ka ↔ L ka := by rw [hu]; exact ⟨fun h => h.resolve_left (Ne.symm ib), .inr⟩
  have lN : L' N ↔ L N := by rw [hu]; exact ⟨fun h => h.resolve_left (by omega), .inr⟩
  have k1 : (a.put (some (σ i)) (V i)).eval (.tmp (σ ka)) = a.eval (.tmp (σ ka)) := ev_ne _ _ (fun he => ib (hinj _ _ hb hi he).symm)
  refine ⟨h.fe.put (List.mem_map.2 ⟨i, List.mem_range.2 hi, rfl⟩) _, fun j hj j1 hl => ?_, h.dc.next ho hall hu, h.n.trans (hB.mono h.n.size), ?_⟩
  · by_cases e : j = i
    · subst e
      exact ev_eq _ _ (by rw [h.fe.sz]; exact hz j hj)
    · exact (ev_ne _ _ (fun he => e (hinj j i hj hi he))).trans (h.e j hj j1 (((hu j).1 hl).resolve_left e))
  · rw [la, lN, k1]
    intro hl
    obtain ⟨g, g1, g2, g3, g4⟩ := h.al hl
    exact ⟨g, g1, g2, fun hn => block_keep hB (g3 hn) (block_lt (g3 hn)), fun hn => block_keep hB (g4 hn) (block_lt (g4 hn))⟩
theorem JA.lay (h : JA ops σ N ka V a0 w Z D T L a u) (ho : ops[ka]? = some o) (hall : ∀ e ∈ o.after, Region.binds .any e = true → L e.on) (hno : ¬ L ka) (hb : ka < N) (hinj : ∀ i j, i < N → j < N → σ i = σ j → i = j) (hz : ∀ j, j < N → σ j < a0.tmps.size) (hu : ∀ j, L' j ↔ (j = ka ∨ L j)) (a2 : anc ops 40 N ka = true) :
    JA ops σ N ka V a0 w Z D T L' (a.put (some (σ ka)) (.pointer (some ⟨u.heap.size, 0, none⟩))) (u.alloc (.cells Z T)) := by
  have nN : ¬ L N := fun hl => hno (anc_spec h.dc _ _ _ a2 hl)
  have lN : L' N ↔ L N := by rw [hu]; exact ⟨fun h => h.resolve_left (by omega), .inr⟩
  refine ⟨h.fe.put (List.mem_map.2 ⟨ka, List.mem_range.2 hb, rfl⟩) _, fun j hj j1 hl => ?_, h.dc.next ho hall hu, h.n.alloc h.n.size _, fun _ => ⟨_, ev_eq _ _ (by rw [h.fe.sz]; exact hz ka hb), h.n.size, fun _ => heap_alloc_new _ _, fun hl => absurd (lN.1 hl) nN⟩⟩
  exact (ev_ne _ _ (fun he => j1 (hinj j ka hj hb he))).trans (h.e j hj j1 (((hu j).1 hl).resolve_left j1))
theorem JA.fill (h : JA ops σ N ka V a0 w Z D T L a u) (ho : ops[N]? = some o) (hall : ∀ e ∈ o.after, Region.binds .any e = true → L e.on) (hno : ¬ L N) (hb : ka < N) (hu : ∀ j, L' j ↔ (j = N ∨ L j)) (la : L ka) {g : Nat} (hg : a.eval (.tmp (σ ka)) = .pointer (some ⟨g, 0, none⟩)) (hF : Below w.heap.size w u') (hD : u'.heap[g]? = some (.cells D T (0, 0))) :
    JA ops σ N ka V a0 w Z D T L' a u' := by
  have lN : L' N := (hu N).2 (.inl rfl)
  refine ⟨h.fe, fun j hj j1 hl => h.e j hj j1 (((hu j).1 hl).resolve_left (by omega)), h.dc.next ho hall hu, hF, fun _ => ?_⟩
  obtain ⟨g', g1, g2, -, -⟩ := h.al la
  have : g' = g := by
    rw [hg] at g1
    simpa using g1.symm
  subst this
  exact ⟨g', g1, g2, fun hn => absurd lN hn, fun _ => hD⟩
theorem JA.done (h : JA ops σ N ka V a0 w Z D T L a u) (hz : ∀ j, j < N → σ j < a0.tmps.size) (hb : ka < N) (hN : L N) (hk : L ka) : ∃ (V' : Nat → Value) (g : Nat), V' ka = .pointer (some ⟨g, 0, none⟩) ∧ w.heap.size ≤ g ∧ u.heap[g]? = some (.cells D T (0, 0)) ∧ a = puts a0 ((List.range N).map fun j => (σ j, V' j)) := by
  obtain ⟨g, g1, g2, -, g4⟩ := h.al hk
  refine ⟨fun j => a.eval (.tmp (σ j)), g, g1, g2, g4 hN, ?_⟩
  refine Fe.puts _ a0 a (by rw [List.map_map]; exact h.fe) (fun p hp => ?_)
  obtain ⟨j, hj, rfl⟩ := List.mem_map.1 hp
  exact ⟨hz j (List.mem_range.1 hj), rfl⟩
theorem JA.start (hdr : Below w.heap.size w w.drew) (hL : ∀ i, ¬ L i) : JA ops σ N ka V a0 w Z D T L a0 w.drew :=
  ⟨Fe.refl _ _, fun j _ _ h => absurd h (hL _), fun j o _ hl => absurd hl (hL _), hdr, fun h => absurd h (hL _)⟩
end

/-- Quiet operations and calls have put V j into their slots; N stores. -/
structure JQ (ops : Array Oper) (σ : Nat → Nat) (N : Nat) (V : Nat → Value) (a0 : Act) (w : World) (F : World → World) (L : Nat → Prop) (a : Act) (u : World) : Prop where
  fe : Fe a0 a ((List.range N).map σ)
  e : ∀ j, j < N → L j → a.eval (.tmp (σ j)) = V j
  dc : Dc ops L
  n : ¬ L N → Below w.heap.size w u
  s : L N → ∃ u1, Below w.heap.size w u1 ∧ u = F u1

section
variable {ops : Array Oper} {σ : Nat → Nat} {N : Nat} {V : Nat → Value} {a0 : Act} {w : World} {F : World → World} {L L' : Nat → Prop} {a : Act} {u u' : World} {i : Nat} {o : Oper}
theorem JQ.next (h : JQ ops σ N V a0 w F L a u) (ho : ops[i]? = some o) (hall : ∀ e ∈ o.after, Region.binds .any e = true → L e.on) (hi : i < N) (hno : ¬ L i) (hinj : ∀ i j, i < N → j < N → σ i = σ j → i = j) (hz : ∀ j, j < N → σ j < a0.tmps.size) (hu : ∀ j, L' j ↔ (j = i ∨ L j)) (a2 : anc ops 40 N i = true) (hB : Below u.heap.size u u') :
    JQ ops σ N V a0 w F L' (a.put (some (σ i)) (V i)) u' := by
  have nN : ¬ L N := fun hl => hno (anc_spec h.dc _ _ _ a2 hl)
  have lN : L' N ↔ L N := by rw [hu]; exact ⟨fun h => h.resolve_left (by omega), .inr⟩
  have hn := h.n nN
  refine ⟨h.fe.put (List.mem_map.2 ⟨i, List.mem_range.2 hi, rfl⟩) _, fun j hj hl => ?_, h.dc.next ho hall hu, fun _ => hn.trans (hB.mono hn.size), fun hl => absurd (lN.1 hl) nN⟩
  by_cases e : j = i
  · subst e
    exact ev_eq _ _ (by rw [h.fe.sz]; exact hz j hj)
  · exact (ev_ne _ _ (fun he => e (hinj j i hj hi he))).trans (h.e j hj (((hu j).1 hl).resolve_left e))
theorem JQ.store (h : JQ ops σ N V a0 w F L a u) (ho : ops[N]? = some o) (hall : ∀ e ∈ o.after, Region.binds .any e = true → L e.on) (hno : ¬ L N) (hu : ∀ j, L' j ↔ (j = N ∨ L j)) : JQ ops σ N V a0 w F L' a (F u) := by
  have lN : L' N := (hu N).2 (.inl rfl)
  exact ⟨h.fe, fun j hj hl => h.e j hj (((hu j).1 hl).resolve_left (by omega)), h.dc.next ho hall hu, fun hn => absurd lN hn, fun _ => ⟨u, h.n hno, rfl⟩⟩
theorem JQ.done (h : JQ ops σ N V a0 w F L a u) (hz : ∀ j, j < N → σ j < a0.tmps.size) (hN : L N) : ∃ (V' : Nat → Value) (u1 : World), Below w.heap.size w u1 ∧ u = F u1 ∧ a = puts a0 ((List.range N).map fun j => (σ j, V' j)) := by
  obtain ⟨u1, h1, h2⟩ := h.s hN
  refine ⟨fun j => a.eval (.tmp (σ j)), u1, h1, h2, ?_⟩
  refine Fe.puts _ a0 a (by rw [List.map_map]; exact h.fe) (fun p hp => ?_)
  obtain ⟨j, hj, rfl⟩ := List.mem_map.1 hp
  exact ⟨hz j (List.mem_range.1 hj), rfl⟩
theorem JQ.start (hdr : Below w.heap.size w w.drew) (hL : ∀ i, ¬ L i) : JQ ops σ N V a0 w F L a0 w.drew :=
  ⟨Fe.refl _ _, fun j _ h => absurd h (hL _), fun j o _ hl => absurd hl (hL _), fun _ => hdr, fun h => absurd h (hL _)⟩
end

end Go.Proofs.YtfhghijefjhehaaDoor
