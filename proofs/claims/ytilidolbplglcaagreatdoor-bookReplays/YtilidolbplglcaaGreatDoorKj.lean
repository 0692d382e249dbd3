/-
  The program's order: the regions whose order is drawn (by wip/tools/gen/bkadd.py).
-/
import Derived.Test.YtilidolbplglcaaGreatDoorDh
import Derived.Test.YtilidolbplglcaaGreatDoorMKe
namespace Go.Proofs.YtilidolbplglcaaGreatDoor
open Go.RowKit Go.Shelf
set_option linter.unusedVariables false

/-- Operations that only read, and one behind them all. -/
structure JQ (ops : Array Oper) (σ : Nat → Nat) (N : Nat) (V : Nat → Value) (a0 : Act) (w : World) (R : World → Prop) (L : Nat → Prop) (a : Act) (u : World) : Prop where
  fe : Fe a0 a ((List.range N).map σ)
  e : ∀ j, j < N → L j → a.eval (.tmp (σ j)) = V j
  dc : Dc ops L
  n : ¬ L N → Below w.heap.size w u
  s : L N → R u
section
variable {ops : Array Oper} {σ : Nat → Nat} {N : Nat} {V : Nat → Value} {a0 : Act} {w : World} {R : World → Prop} {L L' : Nat → Prop} {a : Act} {u : World} {i : Nat} {o : Oper}
theorem JQ.next (h : JQ ops σ N V a0 w R L a u) (ho : ops[i]? = some o) (hall : ∀ e ∈ o.after, Region.binds .any e = true → L e.on) (hi : i < N) (hinj : ∀ i j, i < N → j < N → σ i = σ j → i = j) (hz : ∀ j, j < N → σ j < a0.tmps.size) (hu : ∀ j, L' j ↔ (j = i ∨ L j)) : JQ ops σ N V a0 w R L' (a.put (some (σ i)) (V i)) u := by
  have lN : L' N ↔ L N := by rw [hu]; exact ⟨fun h => h.resolve_left (by omega), .inr⟩
  refine ⟨h.fe.put (List.mem_map.2 ⟨i, List.mem_range.2 hi, rfl⟩) _, fun j hj hl => ?_, h.dc.next ho hall hu, ?_, ?_⟩
  · by_cases e : j = i
    · subst e
      exact ev_eq _ _ (by rw [h.fe.sz]; exact hz j hj)
    · exact (ev_ne _ _ (fun he => e (hinj j i hj hi he))).trans (h.e j hj (((hu j).1 hl).resolve_left e))
  · rw [lN]; exact h.n
  · rw [lN]; exact h.s
theorem JQ.last {u' : World} (h : JQ ops σ N V a0 w R L a u) (ho : ops[N]? = some o) (hall : ∀ e ∈ o.after, Region.binds .any e = true → L e.on) (hu : ∀ j, L' j ↔ (j = N ∨ L j)) (hR : R u') : JQ ops σ N V a0 w R L' a u' :=
  ⟨h.fe, fun j hj hl => h.e j hj (((hu j).1 hl).resolve_left (by omega)), h.dc.next ho hall hu, fun hn => absurd ((hu N).2 (.inl rfl)) hn, fun _ => hR⟩
theorem JQ.done (h : JQ ops σ N V a0 w R L a u) (hz : ∀ j, j < N → σ j < a0.tmps.size) (hN : L N) : ∃ V' : Nat → Value, a = puts a0 ((List.range N).map fun j => (σ j, V' j)) ∧ R u := by
  refine ⟨fun j => a.eval (.tmp (σ j)), ?_, h.s hN⟩
  refine Fe.puts _ a0 a (by rw [List.map_map]; exact h.fe) (fun p hp => ?_)
  obtain ⟨j, hj, rfl⟩ := List.mem_map.1 hp
  exact ⟨hz j (List.mem_range.1 hj), rfl⟩
theorem JQ.start (hdr : Below w.heap.size w w.drew) (hL : ∀ i, ¬ L i) : JQ ops σ N V a0 w R L a0 w.drew :=
  ⟨Fe.refl _ _, fun j _ h => absurd h (hL _), fun j o _ hl => absurd hl (hL _), fun _ => hdr, fun h => absurd h (hL _)⟩
end

noncomputable def opsA4 : Array Oper := (Tryz.f36.body.bind (opsAt 4)).getD #[]
theorem opsA4_size : opsA4.size = 11 := by kernel_rfl
theorem opsA4_earlier : Earlier opsA4 := by
  have h : (List.range 11).all (fun i => ((opsA4[i]?).map (fun o => o.after.all (fun e => !Region.binds .any e || decide (e.on < i)))).getD true) = true := by kernel_rfl
  intro i o ho e he hb
  have hi : i < 11 := by
    have := (Array.getElem?_eq_some_iff.1 ho).1
    rwa [opsA4_size] at this
  have h1 := List.all_eq_true.1 h i (List.mem_range.2 hi)
  rw [ho] at h1
  simp only [Option.map_some, Option.getD_some, Array.all_eq_true'] at h1
  have h2 := h1 e he
  rw [hb] at h2
  simpa using h2
def sladdE (j : Nat) : Nat := ([27, 28, 29, 30, 31, 32, 33, 34, 35, 36] : List Nat).getD j 0
def VaddE (x eb n cE : Nat) (aE : Option Addr) (et ek ep ec el es : Int) (j : Nat) : Value := [.pointer (some ⟨x, 0, none⟩), .pointer (some ⟨x, 0, none⟩), .pointer (some ⟨x, 0, none⟩), .pointer (some ⟨x, 1, none⟩), .slice aE n cE, .agg #[.int .i64 et, .int .i64 ek, .int .i64 ep, .int .u8 ec, .int .i64 el, .int .i64 es], .bool false, .bool false, .pointer (some ⟨x, 0, none⟩), .pointer (some ⟨x, 1, none⟩)].getD j (.bool false)

set_option maxRecDepth 100000 in
set_option maxHeartbeats 4000000 in
theorem addE (a0 : Act) (w : World) {Q : Exit → Act → World → Prop} (x eb n cE : Nat) (aE : Option Addr) (et ek ep ec el es : Int) (h0 : a0.eval (.tmp 0) = .pointer (some ⟨x, 0, none⟩)) (h3 : a0.eval (.tmp 3) = .pointer (some ⟨eb, 0, none⟩)) (hzz : 36 < a0.tmps.size)  (P : Value → World → Prop)
    (hG0 : ∀ u, Below w.heap.size w u → u.cell? ⟨x, 1, none⟩ = some (.slice aE n cE) ∧ u.cell? ⟨eb, 0, none⟩ = some (.int .i64 et) ∧ u.cell? ⟨eb, 1, none⟩ = some (.int .i64 ek) ∧ u.cell? ⟨eb, 2, none⟩ = some (.int .i64 ep) ∧ u.cell? ⟨eb, 3, none⟩ = some (.int .u8 ec) ∧ u.cell? ⟨eb, 4, none⟩ = some (.int .i64 el) ∧ u.cell? ⟨eb, 5, none⟩ = some (.int .i64 es))
    (hA : ∀ u b, Below w.heap.size w u → u.heap[b]? = some (.cells #[.int .i64 et, .int .i64 ek, .int .i64 ep, .int .u8 ec, .int .i64 el, .int .i64 es] 48 (0, 0)) → ∃ v' u', (∀ ty, (Builtin.append_ #[22, 22] ty #[.slice aE n cE, .slice (some ⟨b, 0, none⟩) 1 1]).run Tryz.prog u = .ok v' u') ∧ P v' u')
    (hSt : ∀ v u, P v u → (∃ A n c, v = .slice A n c) ∧ u.cell? ⟨x, 1, none⟩ = some (.slice aE n cE) ∧ u.frozen? ⟨x, 1, none⟩ = false)
    (hK : ∀ (V' : Nat → Value) v' u1, P v' u1 → Q .normal (puts a0 ((List.range 10).map fun j => (sladdE j, V' j))) (u1.setCell ⟨x, 1, none⟩ v')) :
    (Code.region 4 opsA4 true).wp Tryz.prog Q a0 w := by
  have inj : ∀ i j, i < 10 → j < 10 → sladdE i = sladdE j → i = j := by
    have h : (List.range 10).all (fun i => (List.range 10).all (fun j => decide (sladdE i = sladdE j → i = j))) = true := by kernel_rfl
    intro i j hi hj he
    have h1 := List.all_eq_true.1 h i (List.mem_range.2 hi)
    have h2 := List.all_eq_true.1 h1 j (List.mem_range.2 hj)
    exact (of_decide_eq_true h2) he
  have hz : ∀ j, j < 10 → sladdE j < a0.tmps.size := by
    have h : (List.range 10).all (fun i => decide (sladdE i ≤ 36)) = true := by kernel_rfl
    intro j hj
    have := of_decide_eq_true (List.all_eq_true.1 h j (List.mem_range.2 hj))
    omega
  refine wp_region_inv (by kernel_rfl) opsA4_earlier (fun L a u => JP opsA4 sladdE 10 6 7 (VaddE x eb n cE aE et ek ep ec el es) a0 w (fun b u => u.heap[b]? = some (.cells #[.int .i64 et, .int .i64 ek, .int .i64 ep, .int .u8 ec, .int .i64 el, .int .i64 es] 48 (0, 0))) P x 1 L a u) ?_ ?_ ?_
  · rintro L L' a' u i o h ho hno hall hu
    clear hK
    have q0 := (h.fe.ev (j := 0) (by decide)).trans h0
    have q3 := (h.fe.ev (j := 3) (by decide)).trans h3
    have E := h.e
    have hi : i < 11 := by
      have := (Array.getElem?_eq_some_iff.1 ho).1
      rwa [opsA4_size] at this
    match i, hi with
    | 0, _ =>
      refine og_move (g := none) ho (.tmp 0) (d := some 27) (by kernel_rfl) trivial q0 ?_
      exact h.next (i := 0) ho hall (by decide) (by decide) (by decide) (by decide) (by decide) inj hz hu
    | 1, _ =>
      refine og_move (g := none) ho (.tmp 0) (d := some 28) (by kernel_rfl) trivial q0 ?_
      exact h.next (i := 1) ho hall (by decide) (by decide) (by decide) (by decide) (by decide) inj hz hu
    | 2, _ =>
      refine og_nil (g := none) ho (.tmp 28) (d := some 29) (by kernel_rfl) trivial (show a'.eval (.tmp 28) = .pointer (some ⟨x, 0, none⟩) from E 1 (by decide) (by decide) (by decide) (dep ho hall 1 (by kernel_rfl))) ?_
      exact h.next (i := 2) ho hall (by decide) (by decide) (by decide) (by decide) (by decide) inj hz hu
    | 3, _ =>
      obtain ⟨h1, h2, h3⟩ := flds (d := some 30) (p := Op.fieldAddr 65 (.tmp 29) 1) (g := none) ho (by kernel_rfl)
      have g0 := (show a'.eval (.tmp 29) = .pointer (some ⟨x, 0, none⟩) from E 2 (by decide) (by decide) (by decide) (dep ho hall 2 (by kernel_rfl)))
      refine og_plain ho h3 trivial ?_
      unfold Oper.wp
      simp only [execOp, h2, g0]
      go_simp
      exact h.next (i := 3) ho hall (by decide) (by decide) (by decide) (by decide) (by decide) inj hz hu
    | 4, _ =>
      obtain ⟨h1, h2, h3⟩ := flds (d := some 31) (p := Op.load 22 (.tmp 30)) (g := none) ho (by kernel_rfl)
      have g0 := (show a'.eval (.tmp 30) = .pointer (some ⟨x, 1, none⟩) from E 3 (by decide) (by decide) (by decide) (dep ho hall 3 (by kernel_rfl)))
      obtain ⟨c0, c1, c2, c3, c4, c5, c6⟩ := hG0 u (h.n (fun hl => hno (anc_spec h.dc 40 7 4 (by kernel_rfl) hl)))
      refine og_plain ho h3 trivial ?_
      unfold Oper.wp
      simp only [execOp, h2, g0]
      go_simp
      exact h.next (i := 4) ho hall (by decide) (by decide) (by decide) (by decide) (by decide) inj hz hu
    | 5, _ =>
      obtain ⟨h1, h2, h3⟩ := flds (d := some 32) (p := Op.load 48 (.tmp 3)) (g := none) ho (by kernel_rfl)
      have g0 := q3
      obtain ⟨c0, c1, c2, c3, c4, c5, c6⟩ := hG0 u (h.n (fun hl => hno (anc_spec h.dc 40 7 5 (by kernel_rfl) hl)))
      refine og_plain ho h3 trivial ?_
      unfold Oper.wp
      simp only [execOp, h2, g0]
      go_simp
      exact h.next (i := 5) ho hall (by decide) (by decide) (by decide) (by decide) (by decide) inj hz hu
    | 6, _ =>
      obtain ⟨h1, h2, h3⟩ := flds (d := some 33) (p := Op.buildSlice 22 1 #[(0, .tmp 32)]) (g := none) ho (by kernel_rfl)
      have g0 := (show a'.eval (.tmp 32) = .agg #[.int .i64 et, .int .i64 ek, .int .i64 ep, .int .u8 ec, .int .i64 el, .int .i64 es] from E 5 (by decide) (by decide) (by decide) (dep ho hall 5 (by kernel_rfl)))
      have t0 : a'.tmps[32]?.getD undef = .agg #[.int .i64 et, .int .i64 ek, .int .i64 ep, .int .u8 ec, .int .i64 el, .int .i64 es] := by simpa [Act.eval] using g0
      refine og_plain ho h3 trivial ?_
      unfold Oper.wp
      simp only [execOp, h2]
      go_simp
      exact h.build ho hall hno (by decide) (by decide) (by decide) inj hz hu (by kernel_rfl) (by kernel_rfl) (.cells #[.int .i64 et, .int .i64 ek, .int .i64 ep, .int .u8 ec, .int .i64 el, .int .i64 es] 48) (fun _ => heap_alloc_new _ _)
    | 7, _ =>
      obtain ⟨b, hg1, hg2⟩ := h.b (dep ho hall 6 (by kernel_rfl)) hno
      obtain ⟨v', u', hr, hP⟩ := hA u b (h.n hno) hg2
      refine og_app (g := none) ho (.tmp 31) (.tmp 33) 22 (d := some 34) (by kernel_rfl) trivial (show a'.eval (.tmp 31) = .slice aE n cE from E 4 (by decide) (by decide) (by decide) (dep ho hall 4 (by kernel_rfl))) hg1 hr ?_
      exact h.app ho hall hno (by decide) (by decide) (by decide) inj hz hu (by kernel_rfl) hP
    | 8, _ =>
      refine og_nil (g := none) ho (.tmp 27) (d := some 35) (by kernel_rfl) trivial (show a'.eval (.tmp 27) = .pointer (some ⟨x, 0, none⟩) from E 0 (by decide) (by decide) (by decide) (dep ho hall 0 (by kernel_rfl))) ?_
      exact h.next (i := 8) ho hall (by decide) (by decide) (by decide) (by decide) (by decide) inj hz hu
    | 9, _ =>
      obtain ⟨h1, h2, h3⟩ := flds (d := some 36) (p := Op.fieldAddr 65 (.tmp 35) 1) (g := none) ho (by kernel_rfl)
      have g0 := (show a'.eval (.tmp 35) = .pointer (some ⟨x, 0, none⟩) from E 8 (by decide) (by decide) (by decide) (dep ho hall 8 (by kernel_rfl)))
      refine og_plain ho h3 trivial ?_
      unfold Oper.wp
      simp only [execOp, h2, g0]
      go_simp
      exact h.next (i := 9) ho hall (by decide) (by decide) (by decide) (by decide) (by decide) inj hz hu
    | 10, _ =>
      obtain ⟨h1, h2, h3⟩ := flds (d := none) (p := Op.store 22 (.tmp 36) (.tmp 34)) (g := none) ho (by kernel_rfl)
      have lp : L 7 := dep ho hall 7 (by kernel_rfl)
      have hp := h.p lp hno
      obtain ⟨⟨A, m, cc, hv⟩, hcx, hfz⟩ := hSt _ _ hp
      have g0 := (show a'.eval (.tmp 36) = .pointer (some ⟨x, 1, none⟩) from E 9 (by decide) (by decide) (by decide) (dep ho hall 9 (by kernel_rfl)))
      have g1 : a'.eval (.tmp 34) = .slice A m cc := hv
      refine og_plain ho h3 trivial ?_
      unfold Oper.wp
      simp only [execOp, h2, g0, g1]
      go_simp
      have hh := h.store ho hall hno (by decide) (by decide) hu lp
      rw [show a'.eval (.tmp (sladdE 7)) = .slice A m cc from hv] at hh
      exact hh
    | i + 11, hi => omega
  · rintro L a' u h hall
    rw [opsA4_size] at hall
    obtain ⟨V', v', u1, hp, rfl, rfl⟩ := h.done hz (hall 10 (by omega))
    exact hK V' v' u1 hp
  · intro L hL
    exact JP.start ((Below.refl _ _).drew) hL

noncomputable def opsA5 : Array Oper := (Tryz.f36.body.bind (opsAt 5)).getD #[]
theorem opsA5_size : opsA5.size = 11 := by kernel_rfl
theorem opsA5_earlier : Earlier opsA5 := by
  have h : (List.range 11).all (fun i => ((opsA5[i]?).map (fun o => o.after.all (fun e => !Region.binds .any e || decide (e.on < i)))).getD true) = true := by kernel_rfl
  intro i o ho e he hb
  have hi : i < 11 := by
    have := (Array.getElem?_eq_some_iff.1 ho).1
    rwa [opsA5_size] at this
  have h1 := List.all_eq_true.1 h i (List.mem_range.2 hi)
  rw [ho] at h1
  simp only [Option.map_some, Option.getD_some, Array.all_eq_true'] at h1
  have h2 := h1 e he
  rw [hb] at h2
  simpa using h2
def sladdD (j : Nat) : Nat := ([37, 38, 39, 40, 41, 42, 43, 44, 45, 46] : List Nat).getD j 0
def VaddD (x db n cD : Nat) (aD : Option Addr) (dk dp dc dl ds : Int) (j : Nat) : Value := [.pointer (some ⟨x, 0, none⟩), .pointer (some ⟨x, 0, none⟩), .pointer (some ⟨x, 0, none⟩), .pointer (some ⟨x, 2, none⟩), .slice aD n cD, .agg #[.int .i64 dk, .int .i64 dp, .int .u8 dc, .int .i64 dl, .int .i64 ds], .bool false, .bool false, .pointer (some ⟨x, 0, none⟩), .pointer (some ⟨x, 2, none⟩)].getD j (.bool false)

set_option maxRecDepth 100000 in
set_option maxHeartbeats 4000000 in
theorem addD (a0 : Act) (w : World) {Q : Exit → Act → World → Prop} (x db n cD : Nat) (aD : Option Addr) (dk dp dc dl ds : Int) (h0 : a0.eval (.tmp 0) = .pointer (some ⟨x, 0, none⟩)) (h6 : a0.eval (.tmp 6) = .pointer (some ⟨db, 0, none⟩)) (hzz : 46 < a0.tmps.size)  (P : Value → World → Prop)
    (hG0 : ∀ u, Below w.heap.size w u → u.cell? ⟨x, 2, none⟩ = some (.slice aD n cD) ∧ u.cell? ⟨db, 0, none⟩ = some (.int .i64 dk) ∧ u.cell? ⟨db, 1, none⟩ = some (.int .i64 dp) ∧ u.cell? ⟨db, 2, none⟩ = some (.int .u8 dc) ∧ u.cell? ⟨db, 3, none⟩ = some (.int .i64 dl) ∧ u.cell? ⟨db, 4, none⟩ = some (.int .i64 ds))
    (hA : ∀ u b, Below w.heap.size w u → u.heap[b]? = some (.cells #[.int .i64 dk, .int .i64 dp, .int .u8 dc, .int .i64 dl, .int .i64 ds] 46 (0, 0)) → ∃ v' u', (∀ ty, (Builtin.append_ #[24, 24] ty #[.slice aD n cD, .slice (some ⟨b, 0, none⟩) 1 1]).run Tryz.prog u = .ok v' u') ∧ P v' u')
    (hSt : ∀ v u, P v u → (∃ A n c, v = .slice A n c) ∧ u.cell? ⟨x, 2, none⟩ = some (.slice aD n cD) ∧ u.frozen? ⟨x, 2, none⟩ = false)
    (hK : ∀ (V' : Nat → Value) v' u1, P v' u1 → Q .normal (puts a0 ((List.range 10).map fun j => (sladdD j, V' j))) (u1.setCell ⟨x, 2, none⟩ v')) :
    (Code.region 5 opsA5 true).wp Tryz.prog Q a0 w := by
  have inj : ∀ i j, i < 10 → j < 10 → sladdD i = sladdD j → i = j := by
    have h : (List.range 10).all (fun i => (List.range 10).all (fun j => decide (sladdD i = sladdD j → i = j))) = true := by kernel_rfl
    intro i j hi hj he
    have h1 := List.all_eq_true.1 h i (List.mem_range.2 hi)
    have h2 := List.all_eq_true.1 h1 j (List.mem_range.2 hj)
    exact (of_decide_eq_true h2) he
  have hz : ∀ j, j < 10 → sladdD j < a0.tmps.size := by
    have h : (List.range 10).all (fun i => decide (sladdD i ≤ 46)) = true := by kernel_rfl
    intro j hj
    have := of_decide_eq_true (List.all_eq_true.1 h j (List.mem_range.2 hj))
    omega
  refine wp_region_inv (by kernel_rfl) opsA5_earlier (fun L a u => JP opsA5 sladdD 10 6 7 (VaddD x db n cD aD dk dp dc dl ds) a0 w (fun b u => u.heap[b]? = some (.cells #[.int .i64 dk, .int .i64 dp, .int .u8 dc, .int .i64 dl, .int .i64 ds] 46 (0, 0))) P x 2 L a u) ?_ ?_ ?_
  · rintro L L' a' u i o h ho hno hall hu
    clear hK
    have q0 := (h.fe.ev (j := 0) (by decide)).trans h0
    have q6 := (h.fe.ev (j := 6) (by decide)).trans h6
    have E := h.e
    have hi : i < 11 := by
      have := (Array.getElem?_eq_some_iff.1 ho).1
      rwa [opsA5_size] at this
    match i, hi with
    | 0, _ =>
      refine og_move (g := none) ho (.tmp 0) (d := some 37) (by kernel_rfl) trivial q0 ?_
      exact h.next (i := 0) ho hall (by decide) (by decide) (by decide) (by decide) (by decide) inj hz hu
    | 1, _ =>
      refine og_move (g := none) ho (.tmp 0) (d := some 38) (by kernel_rfl) trivial q0 ?_
      exact h.next (i := 1) ho hall (by decide) (by decide) (by decide) (by decide) (by decide) inj hz hu
    | 2, _ =>
      refine og_nil (g := none) ho (.tmp 38) (d := some 39) (by kernel_rfl) trivial (show a'.eval (.tmp 38) = .pointer (some ⟨x, 0, none⟩) from E 1 (by decide) (by decide) (by decide) (dep ho hall 1 (by kernel_rfl))) ?_
      exact h.next (i := 2) ho hall (by decide) (by decide) (by decide) (by decide) (by decide) inj hz hu
    | 3, _ =>
      obtain ⟨h1, h2, h3⟩ := flds (d := some 40) (p := Op.fieldAddr 65 (.tmp 39) 2) (g := none) ho (by kernel_rfl)
      have g0 := (show a'.eval (.tmp 39) = .pointer (some ⟨x, 0, none⟩) from E 2 (by decide) (by decide) (by decide) (dep ho hall 2 (by kernel_rfl)))
      refine og_plain ho h3 trivial ?_
      unfold Oper.wp
      simp only [execOp, h2, g0]
      go_simp
      exact h.next (i := 3) ho hall (by decide) (by decide) (by decide) (by decide) (by decide) inj hz hu
    | 4, _ =>
      obtain ⟨h1, h2, h3⟩ := flds (d := some 41) (p := Op.load 24 (.tmp 40)) (g := none) ho (by kernel_rfl)
      have g0 := (show a'.eval (.tmp 40) = .pointer (some ⟨x, 2, none⟩) from E 3 (by decide) (by decide) (by decide) (dep ho hall 3 (by kernel_rfl)))
      obtain ⟨c0, c1, c2, c3, c4, c5⟩ := hG0 u (h.n (fun hl => hno (anc_spec h.dc 40 7 4 (by kernel_rfl) hl)))
      refine og_plain ho h3 trivial ?_
      unfold Oper.wp
      simp only [execOp, h2, g0]
      go_simp
      exact h.next (i := 4) ho hall (by decide) (by decide) (by decide) (by decide) (by decide) inj hz hu
    | 5, _ =>
      obtain ⟨h1, h2, h3⟩ := flds (d := some 42) (p := Op.load 46 (.tmp 6)) (g := none) ho (by kernel_rfl)
      have g0 := q6
      obtain ⟨c0, c1, c2, c3, c4, c5⟩ := hG0 u (h.n (fun hl => hno (anc_spec h.dc 40 7 5 (by kernel_rfl) hl)))
      refine og_plain ho h3 trivial ?_
      unfold Oper.wp
      simp only [execOp, h2, g0]
      go_simp
      exact h.next (i := 5) ho hall (by decide) (by decide) (by decide) (by decide) (by decide) inj hz hu
    | 6, _ =>
      obtain ⟨h1, h2, h3⟩ := flds (d := some 43) (p := Op.buildSlice 24 1 #[(0, .tmp 42)]) (g := none) ho (by kernel_rfl)
      have g0 := (show a'.eval (.tmp 42) = .agg #[.int .i64 dk, .int .i64 dp, .int .u8 dc, .int .i64 dl, .int .i64 ds] from E 5 (by decide) (by decide) (by decide) (dep ho hall 5 (by kernel_rfl)))
      have t0 : a'.tmps[42]?.getD undef = .agg #[.int .i64 dk, .int .i64 dp, .int .u8 dc, .int .i64 dl, .int .i64 ds] := by simpa [Act.eval] using g0
      refine og_plain ho h3 trivial ?_
      unfold Oper.wp
      simp only [execOp, h2]
      go_simp
      exact h.build ho hall hno (by decide) (by decide) (by decide) inj hz hu (by kernel_rfl) (by kernel_rfl) (.cells #[.int .i64 dk, .int .i64 dp, .int .u8 dc, .int .i64 dl, .int .i64 ds] 46) (fun _ => heap_alloc_new _ _)
    | 7, _ =>
      obtain ⟨b, hg1, hg2⟩ := h.b (dep ho hall 6 (by kernel_rfl)) hno
      obtain ⟨v', u', hr, hP⟩ := hA u b (h.n hno) hg2
      refine og_app (g := none) ho (.tmp 41) (.tmp 43) 24 (d := some 44) (by kernel_rfl) trivial (show a'.eval (.tmp 41) = .slice aD n cD from E 4 (by decide) (by decide) (by decide) (dep ho hall 4 (by kernel_rfl))) hg1 hr ?_
      exact h.app ho hall hno (by decide) (by decide) (by decide) inj hz hu (by kernel_rfl) hP
    | 8, _ =>
      refine og_nil (g := none) ho (.tmp 37) (d := some 45) (by kernel_rfl) trivial (show a'.eval (.tmp 37) = .pointer (some ⟨x, 0, none⟩) from E 0 (by decide) (by decide) (by decide) (dep ho hall 0 (by kernel_rfl))) ?_
      exact h.next (i := 8) ho hall (by decide) (by decide) (by decide) (by decide) (by decide) inj hz hu
    | 9, _ =>
      obtain ⟨h1, h2, h3⟩ := flds (d := some 46) (p := Op.fieldAddr 65 (.tmp 45) 2) (g := none) ho (by kernel_rfl)
      have g0 := (show a'.eval (.tmp 45) = .pointer (some ⟨x, 0, none⟩) from E 8 (by decide) (by decide) (by decide) (dep ho hall 8 (by kernel_rfl)))
      refine og_plain ho h3 trivial ?_
      unfold Oper.wp
      simp only [execOp, h2, g0]
      go_simp
      exact h.next (i := 9) ho hall (by decide) (by decide) (by decide) (by decide) (by decide) inj hz hu
    | 10, _ =>
      obtain ⟨h1, h2, h3⟩ := flds (d := none) (p := Op.store 24 (.tmp 46) (.tmp 44)) (g := none) ho (by kernel_rfl)
      have lp : L 7 := dep ho hall 7 (by kernel_rfl)
      have hp := h.p lp hno
      obtain ⟨⟨A, m, cc, hv⟩, hcx, hfz⟩ := hSt _ _ hp
      have g0 := (show a'.eval (.tmp 46) = .pointer (some ⟨x, 2, none⟩) from E 9 (by decide) (by decide) (by decide) (dep ho hall 9 (by kernel_rfl)))
      have g1 : a'.eval (.tmp 44) = .slice A m cc := hv
      refine og_plain ho h3 trivial ?_
      unfold Oper.wp
      simp only [execOp, h2, g0, g1]
      go_simp
      have hh := h.store ho hall hno (by decide) (by decide) hu lp
      rw [show a'.eval (.tmp (sladdD 7)) = .slice A m cc from hv] at hh
      exact hh
    | i + 11, hi => omega
  · rintro L a' u h hall
    rw [opsA5_size] at hall
    obtain ⟨V', v', u1, hp, rfl, rfl⟩ := h.done hz (hall 10 (by omega))
    exact hK V' v' u1 hp
  · intro L hL
    exact JP.start ((Below.refl _ _).drew) hL

noncomputable def opsS0 : Array Oper := (Tryz.f21.body.bind (opsAt 0)).getD #[]
theorem opsS0_size : opsS0.size = 15 := by kernel_rfl
theorem opsS0_earlier : Earlier opsS0 := by
  have h : (List.range 15).all (fun i => ((opsS0[i]?).map (fun o => o.after.all (fun e => !Region.binds .any e || decide (e.on < i)))).getD true) = true := by kernel_rfl
  intro i o ho e he hb
  have hi : i < 15 := by
    have := (Array.getElem?_eq_some_iff.1 ho).1
    rwa [opsS0_size] at this
  have h1 := List.all_eq_true.1 h i (List.mem_range.2 hi)
  rw [ho] at h1
  simp only [Option.map_some, Option.getD_some, Array.all_eq_true'] at h1
  have h2 := h1 e he
  rw [hb] at h2
  simpa using h2
def slstartS (j : Nat) : Nat := ([2, 3, 4, 5, 6, 7, 8, 9, 10, 11, 12, 13, 14, 15] : List Nat).getD j 0
def VstartS (x n m cE cS : Nat) (aE aS : Option Addr) (j : Nat) : Value := [.pointer (some ⟨x, 0, none⟩), .pointer (some ⟨x, 0, none⟩), .pointer (some ⟨x, 0, none⟩), .pointer (some ⟨x, 0, none⟩), .slice aS m cS, .pointer (some ⟨x, 0, none⟩), .pointer (some ⟨x, 0, none⟩), .pointer (some ⟨x, 1, none⟩), .slice aE n cE, .int .i64 (n : Int), .bool false, .bool false, .pointer (some ⟨x, 0, none⟩), .pointer (some ⟨x, 0, none⟩)].getD j (.bool false)

set_option maxRecDepth 100000 in
set_option maxHeartbeats 4000000 in
theorem startS (a0 : Act) (w : World) {Q : Exit → Act → World → Prop} (x n m cE cS : Nat) (aE aS : Option Addr) (h0 : a0.eval (.tmp 0) = .pointer (some ⟨x, 0, none⟩)) (hzz : 15 < a0.tmps.size)  (P : Value → World → Prop)
    (hG0 : ∀ u, Below w.heap.size w u → u.cell? ⟨x, 0, none⟩ = some (.slice aS m cS) ∧ u.cell? ⟨x, 1, none⟩ = some (.slice aE n cE))
    (hA : ∀ u b, Below w.heap.size w u → u.heap[b]? = some (.cells #[.int .i64 (n : Int)] 3 (0, 0)) → ∃ v' u', (∀ ty, (Builtin.append_ #[54, 54] ty #[.slice aS m cS, .slice (some ⟨b, 0, none⟩) 1 1]).run Tryz.prog u = .ok v' u') ∧ P v' u')
    (hSt : ∀ v u, P v u → (∃ A n c, v = .slice A n c) ∧ u.cell? ⟨x, 0, none⟩ = some (.slice aS m cS) ∧ u.frozen? ⟨x, 0, none⟩ = false)
    (hK : ∀ (V' : Nat → Value) v' u1, P v' u1 → Q .normal (puts a0 ((List.range 14).map fun j => (slstartS j, V' j))) (u1.setCell ⟨x, 0, none⟩ v')) :
    (Code.region 0 opsS0 true).wp Tryz.prog Q a0 w := by
  have inj : ∀ i j, i < 14 → j < 14 → slstartS i = slstartS j → i = j := by
    have h : (List.range 14).all (fun i => (List.range 14).all (fun j => decide (slstartS i = slstartS j → i = j))) = true := by kernel_rfl
    intro i j hi hj he
    have h1 := List.all_eq_true.1 h i (List.mem_range.2 hi)
    have h2 := List.all_eq_true.1 h1 j (List.mem_range.2 hj)
    exact (of_decide_eq_true h2) he
  have hz : ∀ j, j < 14 → slstartS j < a0.tmps.size := by
    have h : (List.range 14).all (fun i => decide (slstartS i ≤ 15)) = true := by kernel_rfl
    intro j hj
    have := of_decide_eq_true (List.all_eq_true.1 h j (List.mem_range.2 hj))
    omega
  refine wp_region_inv (by kernel_rfl) opsS0_earlier (fun L a u => JP opsS0 slstartS 14 10 11 (VstartS x n m cE cS aE aS) a0 w (fun b u => u.heap[b]? = some (.cells #[.int .i64 (n : Int)] 3 (0, 0))) P x 0 L a u) ?_ ?_ ?_
  · rintro L L' a' u i o h ho hno hall hu
    clear hK
    have q0 := (h.fe.ev (j := 0) (by decide)).trans h0
    have E := h.e
    have hi : i < 15 := by
      have := (Array.getElem?_eq_some_iff.1 ho).1
      rwa [opsS0_size] at this
    match i, hi with
    | 0, _ =>
      refine og_move (g := none) ho (.tmp 0) (d := some 2) (by kernel_rfl) trivial q0 ?_
      exact h.next (i := 0) ho hall (by decide) (by decide) (by decide) (by decide) (by decide) inj hz hu
    | 1, _ =>
      refine og_move (g := none) ho (.tmp 0) (d := some 3) (by kernel_rfl) trivial q0 ?_
      exact h.next (i := 1) ho hall (by decide) (by decide) (by decide) (by decide) (by decide) inj hz hu
    | 2, _ =>
      refine og_nil (g := none) ho (.tmp 3) (d := some 4) (by kernel_rfl) trivial (show a'.eval (.tmp 3) = .pointer (some ⟨x, 0, none⟩) from E 1 (by decide) (by decide) (by decide) (dep ho hall 1 (by kernel_rfl))) ?_
      exact h.next (i := 2) ho hall (by decide) (by decide) (by decide) (by decide) (by decide) inj hz hu
    | 3, _ =>
      obtain ⟨h1, h2, h3⟩ := flds (d := some 5) (p := Op.fieldAddr 65 (.tmp 4) 0) (g := none) ho (by kernel_rfl)
      have g0 := (show a'.eval (.tmp 4) = .pointer (some ⟨x, 0, none⟩) from E 2 (by decide) (by decide) (by decide) (dep ho hall 2 (by kernel_rfl)))
      refine og_plain ho h3 trivial ?_
      unfold Oper.wp
      simp only [execOp, h2, g0]
      go_simp
      exact h.next (i := 3) ho hall (by decide) (by decide) (by decide) (by decide) (by decide) inj hz hu
    | 4, _ =>
      obtain ⟨h1, h2, h3⟩ := flds (d := some 6) (p := Op.load 54 (.tmp 5)) (g := none) ho (by kernel_rfl)
      have g0 := (show a'.eval (.tmp 5) = .pointer (some ⟨x, 0, none⟩) from E 3 (by decide) (by decide) (by decide) (dep ho hall 3 (by kernel_rfl)))
      obtain ⟨c0, c1⟩ := hG0 u (h.n (fun hl => hno (anc_spec h.dc 40 11 4 (by kernel_rfl) hl)))
      refine og_plain ho h3 trivial ?_
      unfold Oper.wp
      simp only [execOp, h2, g0]
      go_simp
      exact h.next (i := 4) ho hall (by decide) (by decide) (by decide) (by decide) (by decide) inj hz hu
    | 5, _ =>
      refine og_move (g := none) ho (.tmp 0) (d := some 7) (by kernel_rfl) trivial q0 ?_
      exact h.next (i := 5) ho hall (by decide) (by decide) (by decide) (by decide) (by decide) inj hz hu
    | 6, _ =>
      refine og_nil (g := none) ho (.tmp 7) (d := some 8) (by kernel_rfl) trivial (show a'.eval (.tmp 7) = .pointer (some ⟨x, 0, none⟩) from E 5 (by decide) (by decide) (by decide) (dep ho hall 5 (by kernel_rfl))) ?_
      exact h.next (i := 6) ho hall (by decide) (by decide) (by decide) (by decide) (by decide) inj hz hu
    | 7, _ =>
      obtain ⟨h1, h2, h3⟩ := flds (d := some 9) (p := Op.fieldAddr 65 (.tmp 8) 1) (g := none) ho (by kernel_rfl)
      have g0 := (show a'.eval (.tmp 8) = .pointer (some ⟨x, 0, none⟩) from E 6 (by decide) (by decide) (by decide) (dep ho hall 6 (by kernel_rfl)))
      refine og_plain ho h3 trivial ?_
      unfold Oper.wp
      simp only [execOp, h2, g0]
      go_simp
      exact h.next (i := 7) ho hall (by decide) (by decide) (by decide) (by decide) (by decide) inj hz hu
    | 8, _ =>
      obtain ⟨h1, h2, h3⟩ := flds (d := some 10) (p := Op.load 22 (.tmp 9)) (g := none) ho (by kernel_rfl)
      have g0 := (show a'.eval (.tmp 9) = .pointer (some ⟨x, 1, none⟩) from E 7 (by decide) (by decide) (by decide) (dep ho hall 7 (by kernel_rfl)))
      obtain ⟨c0, c1⟩ := hG0 u (h.n (fun hl => hno (anc_spec h.dc 40 11 8 (by kernel_rfl) hl)))
      refine og_plain ho h3 trivial ?_
      unfold Oper.wp
      simp only [execOp, h2, g0]
      go_simp
      exact h.next (i := 8) ho hall (by decide) (by decide) (by decide) (by decide) (by decide) inj hz hu
    | 9, _ =>
      obtain ⟨h1, h2, h3⟩ := flds (d := some 11) (p := Op.call { callee := .builtin .len, args := #[.tmp 10], argTypes := #[22] }) (g := none) ho (by kernel_rfl)
      have g0 := (show a'.eval (.tmp 10) = .slice aE n cE from E 8 (by decide) (by decide) (by decide) (dep ho hall 8 (by kernel_rfl)))
      have t0 : a'.tmps[10]?.getD undef = .slice aE n cE := by simpa [Act.eval] using g0
      refine og_plain ho h3 trivial ?_
      unfold Oper.wp
      simp only [execOp, h2]
      go_simp
      exact h.next (i := 9) ho hall (by decide) (by decide) (by decide) (by decide) (by decide) inj hz hu
    | 10, _ =>
      obtain ⟨h1, h2, h3⟩ := flds (d := some 12) (p := Op.buildSlice 54 1 #[(0, .tmp 11)]) (g := none) ho (by kernel_rfl)
      have g0 := (show a'.eval (.tmp 11) = .int .i64 (n : Int) from E 9 (by decide) (by decide) (by decide) (dep ho hall 9 (by kernel_rfl)))
      have t0 : a'.tmps[11]?.getD undef = .int .i64 (n : Int) := by simpa [Act.eval] using g0
      refine og_plain ho h3 trivial ?_
      unfold Oper.wp
      simp only [execOp, h2]
      go_simp
      exact h.build ho hall hno (by decide) (by decide) (by decide) inj hz hu (by kernel_rfl) (by kernel_rfl) (.cells #[.int .i64 (n : Int)] 3) (fun _ => heap_alloc_new _ _)
    | 11, _ =>
      obtain ⟨b, hg1, hg2⟩ := h.b (dep ho hall 10 (by kernel_rfl)) hno
      obtain ⟨v', u', hr, hP⟩ := hA u b (h.n hno) hg2
      refine og_app (g := none) ho (.tmp 6) (.tmp 12) 54 (d := some 13) (by kernel_rfl) trivial (show a'.eval (.tmp 6) = .slice aS m cS from E 4 (by decide) (by decide) (by decide) (dep ho hall 4 (by kernel_rfl))) hg1 hr ?_
      exact h.app ho hall hno (by decide) (by decide) (by decide) inj hz hu (by kernel_rfl) hP
    | 12, _ =>
      refine og_nil (g := none) ho (.tmp 2) (d := some 14) (by kernel_rfl) trivial (show a'.eval (.tmp 2) = .pointer (some ⟨x, 0, none⟩) from E 0 (by decide) (by decide) (by decide) (dep ho hall 0 (by kernel_rfl))) ?_
      exact h.next (i := 12) ho hall (by decide) (by decide) (by decide) (by decide) (by decide) inj hz hu
    | 13, _ =>
      obtain ⟨h1, h2, h3⟩ := flds (d := some 15) (p := Op.fieldAddr 65 (.tmp 14) 0) (g := none) ho (by kernel_rfl)
      have g0 := (show a'.eval (.tmp 14) = .pointer (some ⟨x, 0, none⟩) from E 12 (by decide) (by decide) (by decide) (dep ho hall 12 (by kernel_rfl)))
      refine og_plain ho h3 trivial ?_
      unfold Oper.wp
      simp only [execOp, h2, g0]
      go_simp
      exact h.next (i := 13) ho hall (by decide) (by decide) (by decide) (by decide) (by decide) inj hz hu
    | 14, _ =>
      obtain ⟨h1, h2, h3⟩ := flds (d := none) (p := Op.store 54 (.tmp 15) (.tmp 13)) (g := none) ho (by kernel_rfl)
      have lp : L 11 := dep ho hall 11 (by kernel_rfl)
      have hp := h.p lp hno
      obtain ⟨⟨A, m, cc, hv⟩, hcx, hfz⟩ := hSt _ _ hp
      have g0 := (show a'.eval (.tmp 15) = .pointer (some ⟨x, 0, none⟩) from E 13 (by decide) (by decide) (by decide) (dep ho hall 13 (by kernel_rfl)))
      have g1 : a'.eval (.tmp 13) = .slice A m cc := hv
      refine og_plain ho h3 trivial ?_
      unfold Oper.wp
      simp only [execOp, h2, g0, g1]
      go_simp
      have hh := h.store ho hall hno (by decide) (by decide) hu lp
      rw [show a'.eval (.tmp (slstartS 11)) = .slice A m cc from hv] at hh
      exact hh
    | i + 15, hi => omega
  · rintro L a' u h hall
    rw [opsS0_size] at hall
    obtain ⟨V', v', u1, hp, rfl, rfl⟩ := h.done hz (hall 14 (by omega))
    exact hK V' v' u1 hp
  · intro L hL
    exact JP.start ((Below.refl _ _).drew) hL

noncomputable def opsA7 : Array Oper := (Tryz.f36.body.bind (opsAt 7)).getD #[]
theorem opsA7_size : opsA7.size = 13 := by kernel_rfl
theorem opsA7_earlier : Earlier opsA7 := by
  have h : (List.range 13).all (fun i => ((opsA7[i]?).map (fun o => o.after.all (fun e => !Region.binds .any e || decide (e.on < i)))).getD true) = true := by kernel_rfl
  intro i o ho e he hb
  have hi : i < 13 := by
    have := (Array.getElem?_eq_some_iff.1 ho).1
    rwa [opsA7_size] at this
  have h1 := List.all_eq_true.1 h i (List.mem_range.2 hi)
  rw [ho] at h1
  simp only [Option.map_some, Option.getD_some, Array.all_eq_true'] at h1
  have h2 := h1 e he
  rw [hb] at h2
  simpa using h2
def sladdM (j : Nat) : Nat := ([52, 53, 54, 55, 56, 57, 58, 59, 60, 61, 62, 63] : List Nat).getD j 0
def VaddM (x eb b : Nat) (el es rv : Int) (j : Nat) : Value := [.pointer (some ⟨x, 0, none⟩), .pointer (some ⟨x, 0, none⟩), .pointer (some ⟨x, 3, none⟩), .map (some b), .pointer (some ⟨eb, 1, none⟩), .pointer (some ⟨eb, 4, none⟩), .int .i64 el, .pointer (some ⟨eb, 1, none⟩), .pointer (some ⟨eb, 5, none⟩), .int .i64 es, .agg #[.int .i64 el, .int .i64 es], .int .i64 rv].getD j (.bool false)

set_option maxRecDepth 100000 in
set_option maxHeartbeats 4000000 in
theorem addM (a0 : Act) (w : World) {Q : Exit → Act → World → Prop} (x eb b : Nat) (el es rv : Int) (h0 : a0.eval (.tmp 0) = .pointer (some ⟨x, 0, none⟩)) (h3 : a0.eval (.tmp 3) = .pointer (some ⟨eb, 0, none⟩)) (h8 : a0.eval (.tmp 8) = .int .i64 rv) (hzz : 63 < a0.tmps.size) (R : World → Prop)
    (hG0 : ∀ u, Below w.heap.size w u → u.cell? ⟨x, 3, none⟩ = some (.map (some b)) ∧ u.cell? ⟨eb, 4, none⟩ = some (.int .i64 el) ∧ u.cell? ⟨eb, 5, none⟩ = some (.int .i64 es))
    (hM : ∀ u, Below w.heap.size w u → ∃ u', (Instr.mapUpdate 61 (.map (some b)) (.agg #[.int .i64 el, .int .i64 es]) (.int .i64 rv)).run Tryz.prog u = .ok () u' ∧ R u')
    (hK : ∀ (V' : Nat → Value) u1, R u1 → Q .normal (puts a0 ((List.range 12).map fun j => (sladdM j, V' j))) u1) :
    (Code.region 7 opsA7 true).wp Tryz.prog Q a0 w := by
  have inj : ∀ i j, i < 12 → j < 12 → sladdM i = sladdM j → i = j := by
    have h : (List.range 12).all (fun i => (List.range 12).all (fun j => decide (sladdM i = sladdM j → i = j))) = true := by kernel_rfl
    intro i j hi hj he
    have h1 := List.all_eq_true.1 h i (List.mem_range.2 hi)
    have h2 := List.all_eq_true.1 h1 j (List.mem_range.2 hj)
    exact (of_decide_eq_true h2) he
  have hz : ∀ j, j < 12 → sladdM j < a0.tmps.size := by
    have h : (List.range 12).all (fun i => decide (sladdM i ≤ 63)) = true := by kernel_rfl
    intro j hj
    have := of_decide_eq_true (List.all_eq_true.1 h j (List.mem_range.2 hj))
    omega
  refine wp_region_inv (by kernel_rfl) opsA7_earlier (fun L a u => JQ opsA7 sladdM 12 (VaddM x eb b el es rv) a0 w R L a u) ?_ ?_ ?_
  · rintro L L' a' u i o h ho hno hall hu
    clear hK
    have q0 := (h.fe.ev (j := 0) (by decide)).trans h0
    have q3 := (h.fe.ev (j := 3) (by decide)).trans h3
    have q8 := (h.fe.ev (j := 8) (by decide)).trans h8
    have E := h.e
    have hi : i < 13 := by
      have := (Array.getElem?_eq_some_iff.1 ho).1
      rwa [opsA7_size] at this
    match i, hi with
    | 0, _ =>
      refine og_move (g := none) ho (.tmp 0) (d := some 52) (by kernel_rfl) trivial q0 ?_
      exact h.next (i := 0) ho hall (by decide) inj hz hu
    | 1, _ =>
      refine og_nil (g := none) ho (.tmp 52) (d := some 53) (by kernel_rfl) trivial (show a'.eval (.tmp 52) = .pointer (some ⟨x, 0, none⟩) from E 0 (by decide) (dep ho hall 0 (by kernel_rfl))) ?_
      exact h.next (i := 1) ho hall (by decide) inj hz hu
    | 2, _ =>
      obtain ⟨h1, h2, h3⟩ := flds (d := some 54) (p := Op.fieldAddr 65 (.tmp 53) 3) (g := none) ho (by kernel_rfl)
      have g0 := (show a'.eval (.tmp 53) = .pointer (some ⟨x, 0, none⟩) from E 1 (by decide) (dep ho hall 1 (by kernel_rfl)))
      refine og_plain ho h3 trivial ?_
      unfold Oper.wp
      simp only [execOp, h2, g0]
      go_simp
      exact h.next (i := 2) ho hall (by decide) inj hz hu
    | 3, _ =>
      obtain ⟨h1, h2, h3⟩ := flds (d := some 55) (p := Op.load 61 (.tmp 54)) (g := none) ho (by kernel_rfl)
      have g0 := (show a'.eval (.tmp 54) = .pointer (some ⟨x, 3, none⟩) from E 2 (by decide) (dep ho hall 2 (by kernel_rfl)))
      obtain ⟨c0, c1, c2⟩ := hG0 u (h.n (fun hl => hno (anc_spec h.dc 40 12 3 (by kernel_rfl) hl)))
      refine og_plain ho h3 trivial ?_
      unfold Oper.wp
      simp only [execOp, h2, g0]
      go_simp
      exact h.next (i := 3) ho hall (by decide) inj hz hu
    | 4, _ =>
      obtain ⟨h1, h2, h3⟩ := flds (d := some 56) (p := Op.fieldAddr 48 (.tmp 3) 1) (g := none) ho (by kernel_rfl)
      have g0 := q3
      refine og_plain ho h3 trivial ?_
      unfold Oper.wp
      simp only [execOp, h2, g0]
      go_simp
      exact h.next (i := 4) ho hall (by decide) inj hz hu
    | 5, _ =>
      obtain ⟨h1, h2, h3⟩ := flds (d := some 57) (p := Op.fieldAddr 46 (.tmp 56) 3) (g := none) ho (by kernel_rfl)
      have g0 := (show a'.eval (.tmp 56) = .pointer (some ⟨eb, 1, none⟩) from E 4 (by decide) (dep ho hall 4 (by kernel_rfl)))
      refine og_plain ho h3 trivial ?_
      unfold Oper.wp
      simp only [execOp, h2, g0]
      go_simp
      exact h.next (i := 5) ho hall (by decide) inj hz hu
    | 6, _ =>
      obtain ⟨h1, h2, h3⟩ := flds (d := some 58) (p := Op.load 3 (.tmp 57)) (g := none) ho (by kernel_rfl)
      have g0 := (show a'.eval (.tmp 57) = .pointer (some ⟨eb, 4, none⟩) from E 5 (by decide) (dep ho hall 5 (by kernel_rfl)))
      obtain ⟨c0, c1, c2⟩ := hG0 u (h.n (fun hl => hno (anc_spec h.dc 40 12 6 (by kernel_rfl) hl)))
      refine og_plain ho h3 trivial ?_
      unfold Oper.wp
      simp only [execOp, h2, g0]
      go_simp
      exact h.next (i := 6) ho hall (by decide) inj hz hu
    | 7, _ =>
      obtain ⟨h1, h2, h3⟩ := flds (d := some 59) (p := Op.fieldAddr 48 (.tmp 3) 1) (g := none) ho (by kernel_rfl)
      have g0 := q3
      refine og_plain ho h3 trivial ?_
      unfold Oper.wp
      simp only [execOp, h2, g0]
      go_simp
      exact h.next (i := 7) ho hall (by decide) inj hz hu
    | 8, _ =>
      obtain ⟨h1, h2, h3⟩ := flds (d := some 60) (p := Op.fieldAddr 46 (.tmp 59) 4) (g := none) ho (by kernel_rfl)
      have g0 := (show a'.eval (.tmp 59) = .pointer (some ⟨eb, 1, none⟩) from E 7 (by decide) (dep ho hall 7 (by kernel_rfl)))
      refine og_plain ho h3 trivial ?_
      unfold Oper.wp
      simp only [execOp, h2, g0]
      go_simp
      exact h.next (i := 8) ho hall (by decide) inj hz hu
    | 9, _ =>
      obtain ⟨h1, h2, h3⟩ := flds (d := some 61) (p := Op.load 3 (.tmp 60)) (g := none) ho (by kernel_rfl)
      have g0 := (show a'.eval (.tmp 60) = .pointer (some ⟨eb, 5, none⟩) from E 8 (by decide) (dep ho hall 8 (by kernel_rfl)))
      obtain ⟨c0, c1, c2⟩ := hG0 u (h.n (fun hl => hno (anc_spec h.dc 40 12 9 (by kernel_rfl) hl)))
      refine og_plain ho h3 trivial ?_
      unfold Oper.wp
      simp only [execOp, h2, g0]
      go_simp
      exact h.next (i := 9) ho hall (by decide) inj hz hu
    | 10, _ =>
      obtain ⟨h1, h2, h3⟩ := flds (d := some 62) (p := Op.build 105 #[(0, .tmp 58), (1, .tmp 61)]) (g := none) ho (by kernel_rfl)
      have g0 := (show a'.eval (.tmp 58) = .int .i64 el from E 6 (by decide) (dep ho hall 6 (by kernel_rfl)))
      have g1 := (show a'.eval (.tmp 61) = .int .i64 es from E 9 (by decide) (dep ho hall 9 (by kernel_rfl)))
      have t0 : a'.tmps[58]?.getD undef = .int .i64 el := by simpa [Act.eval] using g0
      have t1 : a'.tmps[61]?.getD undef = .int .i64 es := by simpa [Act.eval] using g1
      refine og_plain ho h3 trivial ?_
      unfold Oper.wp
      simp only [execOp, h2]
      go_simp
      exact h.next (i := 10) ho hall (by decide) inj hz hu
    | 11, _ =>
      refine og_move (g := none) ho (.tmp 8) (d := some 63) (by kernel_rfl) trivial q8 ?_
      exact h.next (i := 11) ho hall (by decide) inj hz hu
    | 12, _ =>
      obtain ⟨h1, h2, h3⟩ := flds (d := none) (p := Op.mapUpdate 61 (.tmp 55) (.tmp 62) (.tmp 63)) (g := none) ho (by kernel_rfl)
      have g0 := (show a'.eval (.tmp 55) = .map (some b) from E 3 (by decide) (dep ho hall 3 (by kernel_rfl)))
      have g1 := (show a'.eval (.tmp 62) = .agg #[.int .i64 el, .int .i64 es] from E 10 (by decide) (dep ho hall 10 (by kernel_rfl)))
      have g2 := (show a'.eval (.tmp 63) = .int .i64 rv from E 11 (by decide) (dep ho hall 11 (by kernel_rfl)))
      obtain ⟨u', hr, hR⟩ := hM u (h.n hno)
      refine og_plain ho h3 trivial ?_
      unfold Oper.wp
      simp only [execOp, h2, g0, g1, g2]
      go_simp
      exact h.last ho hall hu hR
    | i + 13, hi => omega
  · rintro L a' u h hall
    rw [opsA7_size] at hall
    obtain ⟨V', rfl, hR⟩ := h.done hz (hall 12 (by omega))
    exact hK V' u hR
  · intro L hL
    exact JQ.start ((Below.refl _ _).drew) hL

end Go.Proofs.YtilidolbplglcaaGreatDoor
