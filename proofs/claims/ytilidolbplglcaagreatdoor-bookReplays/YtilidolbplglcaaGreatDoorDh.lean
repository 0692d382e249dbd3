/-
  The document's take: the regions whose order is drawn (by wip/tools/gen/bktake.py).
-/
import Derived.Test.YtilidolbplglcaaGreatDoorMDf
import Derived.Shelf.Abstract
namespace Go.Proofs.YtilidolbplglcaaGreatDoor
open Go.RowKit Go.Shelf
set_option linter.unusedVariables false

section
variable {ops : Array Oper} {o : Oper} {a : Act} {w : World} {K : Act → World → Prop} {Q : Exit → Act → World → Prop} {i : Nat}
/-- A call. -/
theorem og_call (ho : ops[i]? = some o) {d : Option Tmp} {f : Nat} (xs : Array Operand) (ts : Array TypeId) (h : (ops[i]?).map (fun o => (o.dst, o.op, o.guard)) = some (d, Op.call { callee := .value (.func f), args := xs, argTypes := ts }, none)) (eg : ∀ args w, (callFunc f args).run Tryz.prog w = .ok (.enter f args) w) {vs : Array Value} (hvs : xs.map a.eval = vs) {R : Ending → World → Prop} (hC : Calls Tryz.prog f vs w R) (hK : ∀ e w', R e w' → ∃ v, e = .returned v ∧ K (a.put d v) w') : wpOp Tryz.prog ops Q i K a w := by
  obtain ⟨h1, h2, h3⟩ := flds ho h
  refine og_plain ho h3 trivial ?_
  unfold Oper.wp
  have e1 : (execOp a.eval o).run Tryz.prog w = .ok (.enter f vs) w := by
    have e2 : a.eval (.func f) = .func (.func f) #[] #[] := rfl
    simp [execOp, h2, resolve, invoke, Deferred.ofValue, e2, hvs, eg]
  rw [e1, Oper.upon_enter]
  refine hC.mono ?_
  intro e w' he
  obtain ⟨v, rfl, hk⟩ := hK e w' he
  rw [h1]
  exact hk
end
section
variable {ops : Array Oper} {σ : Nat → Nat} {N kb kp : Nat} {V : Nat → Value} {a0 : Act} {w : World} {NB : Nat → World → Prop} {P : Value → World → Prop} {x off : Nat} {L L' : Nat → Prop} {a : Act} {u u' : World} {i : Nat} {o : Oper}
theorem JP.nextB (h : JP ops σ N kb kp V a0 w NB P x off L a u) (ho : ops[i]? = some o) (hall : ∀ e ∈ o.after, Region.binds .any e = true → L e.on) (hi : i < N) (ib : i ≠ kb) (ip : i ≠ kp) (hb : kb < N) (hp : kp < N) (hinj : ∀ i j, i < N → j < N → σ i = σ j → i = j) (hz : ∀ j, j < N → σ j < a0.tmps.size) (hu : ∀ j, L' j ↔ (j = i ∨ L j)) (a2 : anc ops 40 N kp = true) (np : ¬ L kp) (hbw : Below u.heap.size u u') (hNB : ∀ g, NB g u → NB g u') :
    JP ops σ N kb kp V a0 w NB P x off L' (a.put (some (σ i)) (V i)) u' := by
  have nN : ¬ L N := fun hl => np (anc_spec h.dc _ _ _ a2 hl)
  have lp : L' kp ↔ L kp := by rw [hu]; exact ⟨fun h => h.resolve_left (Ne.symm ip), .inr⟩
  have lb : L' kb ↔ L kb := by rw [hu]; exact ⟨fun h => h.resolve_left (Ne.symm ib), .inr⟩
  have lN : L' N ↔ L N := by rw [hu]; exact ⟨fun h => h.resolve_left (by omega), .inr⟩
  have k1 : (a.put (some (σ i)) (V i)).eval (.tmp (σ kb)) = a.eval (.tmp (σ kb)) := ev_ne _ _ (fun he => ib (hinj _ _ hb hi he).symm)
  refine ⟨h.fe.put (List.mem_map.2 ⟨i, List.mem_range.2 hi, rfl⟩) _, fun j hj j1 j2 hl => ?_, h.dc.next ho hall hu, fun _ => (h.n np).trans (hbw.mono (h.n np).size), ?_, fun hl => absurd (lp.1 hl) np, fun hl => absurd (lN.1 hl) nN⟩
  · by_cases e : j = i
    · subst e
      exact ev_eq _ _ (by rw [h.fe.sz]; exact hz j hj)
    · exact (ev_ne _ _ (fun he => e (hinj j i hj hi he))).trans (h.e j hj j1 j2 (((hu j).1 hl).resolve_left e))
  · rw [lb, lp, k1]
    intro h1 h2
    obtain ⟨g, h3, h4⟩ := h.b h1 h2
    exact ⟨g, h3, hNB g h4⟩
end

noncomputable def opsT2 : Array Oper := (Tryz.f19.body.bind (opsAt 2)).getD #[]
theorem opsT2_size : opsT2.size = 24 := by kernel_rfl
theorem opsT2_earlier : Earlier opsT2 := by
  have h : (List.range 24).all (fun i => ((opsT2[i]?).map (fun o => o.after.all (fun e => !Region.binds .any e || decide (e.on < i)))).getD true) = true := by kernel_rfl
  intro i o ho e he hb
  have hi : i < 24 := by
    have := (Array.getElem?_eq_some_iff.1 ho).1
    rwa [opsT2_size] at this
  have h1 := List.all_eq_true.1 h i (List.mem_range.2 hi)
  rw [ho] at h1
  simp only [Option.map_some, Option.getD_some, Array.all_eq_true'] at h1
  have h2 := h1 e he
  rw [hb] at h2
  simpa using h2
def sltakeN (j : Nat) : Nat := ([12, 13, 14, 15, 16, 17, 18, 19, 20, 21, 22, 23, 24, 25, 26, 27, 28, 29, 30, 31, 32, 33, 34] : List Nat).getD j 0
def VtakeN (x db n gN cN cE : Nat) (aE : Option Addr) (Nk gg dk dp dc dl ds : Int) (j : Nat) : Value := [.pointer (some ⟨x, 0, none⟩), .pointer (some ⟨x, 0, none⟩), .pointer (some ⟨x, 0, none⟩), .pointer (some ⟨x, 3, none⟩), .slice (some ⟨gN, 0, none⟩) (n + 1) cN, .pointer (some ⟨x, 0, none⟩), .pointer (some ⟨x, 0, none⟩), .pointer (some ⟨x, 3, none⟩), .slice (some ⟨gN, 0, none⟩) (n + 1) cN, .pointer (some ⟨x, 0, none⟩), .pointer (some ⟨x, 0, none⟩), .pointer (some ⟨x, 1, none⟩), .slice aE n cE, .int .i64 (n : Int), .pointer (some ⟨gN, n, none⟩), .int .i64 Nk, .agg #[.int .i64 dk, .int .i64 dp, .int .u8 dc, .int .i64 dl, .int .i64 ds], .int .i64 gg, .int .i64 (Nk + gg), .bool false, .bool false, .pointer (some ⟨x, 0, none⟩), .pointer (some ⟨x, 3, none⟩)].getD j (.bool false)

set_option maxRecDepth 100000 in
set_option maxHeartbeats 4000000 in
theorem takeN (a0 : Act) (w : World) {Q : Exit → Act → World → Prop} (x db n gN cN cE : Nat) (aE : Option Addr) (Nk gg dk dp dc dl ds : Int) (h0 : a0.eval (.tmp 0) = .pointer (some ⟨x, 0, none⟩)) (h4 : a0.eval (.tmp 4) = .pointer (some ⟨db, 0, none⟩)) (hzz : 34 < a0.tmps.size) (hn : (n : Int) < (n : Int) + 1) (hw1 : IntKind.i64.wrap (Nk + gg) = Nk + gg) (hLo : ∀ W, Calls Tryz.prog 33 #[.agg #[.int .i64 dk, .int .i64 dp, .int .u8 dc, .int .i64 dl, .int .i64 ds]] W fun e w' => e = .returned (.int .i64 gg) ∧ Below W.heap.size W w') (P : Value → World → Prop)
    (hG0 : ∀ u, Below w.heap.size w u → u.cell? ⟨x, 3, none⟩ = some (.slice (some ⟨gN, 0, none⟩) (n + 1) cN) ∧ u.cell? ⟨x, 1, none⟩ = some (.slice aE n cE) ∧ u.cell? ⟨gN, n, none⟩ = some (.int .i64 Nk) ∧ u.cell? ⟨db, 0, none⟩ = some (.int .i64 dk) ∧ u.cell? ⟨db, 1, none⟩ = some (.int .i64 dp) ∧ u.cell? ⟨db, 2, none⟩ = some (.int .u8 dc) ∧ u.cell? ⟨db, 3, none⟩ = some (.int .i64 dl) ∧ u.cell? ⟨db, 4, none⟩ = some (.int .i64 ds))
    (hA : ∀ u b, Below w.heap.size w u → u.heap[b]? = some (.cells #[.int .i64 (Nk + gg)] 3 (0, 0)) → ∃ v' u', (∀ ty, (Builtin.append_ #[54, 54] ty #[.slice (some ⟨gN, 0, none⟩) (n + 1) cN, .slice (some ⟨b, 0, none⟩) 1 1]).run Tryz.prog u = .ok v' u') ∧ P v' u')
    (hSt : ∀ v u, P v u → (∃ A n c, v = .slice A n c) ∧ u.cell? ⟨x, 3, none⟩ = some (.slice (some ⟨gN, 0, none⟩) (n + 1) cN) ∧ u.frozen? ⟨x, 3, none⟩ = false)
    (hK : ∀ (V' : Nat → Value) v' u1, P v' u1 → Q .normal (puts a0 ((List.range 23).map fun j => (sltakeN j, V' j))) (u1.setCell ⟨x, 3, none⟩ v')) :
    (Code.region 2 opsT2 true).wp Tryz.prog Q a0 w := by
  have inj : ∀ i j, i < 23 → j < 23 → sltakeN i = sltakeN j → i = j := by
    have h : (List.range 23).all (fun i => (List.range 23).all (fun j => decide (sltakeN i = sltakeN j → i = j))) = true := by kernel_rfl
    intro i j hi hj he
    have h1 := List.all_eq_true.1 h i (List.mem_range.2 hi)
    have h2 := List.all_eq_true.1 h1 j (List.mem_range.2 hj)
    exact (of_decide_eq_true h2) he
  have hz : ∀ j, j < 23 → sltakeN j < a0.tmps.size := by
    have h : (List.range 23).all (fun i => decide (sltakeN i ≤ 34)) = true := by kernel_rfl
    intro j hj
    have := of_decide_eq_true (List.all_eq_true.1 h j (List.mem_range.2 hj))
    omega
  refine wp_region_inv (by kernel_rfl) opsT2_earlier (fun L a u => JP opsT2 sltakeN 23 19 20 (VtakeN x db n gN cN cE aE Nk gg dk dp dc dl ds) a0 w (fun b u => u.heap[b]? = some (.cells #[.int .i64 (Nk + gg)] 3 (0, 0))) P x 3 L a u) ?_ ?_ ?_
  · rintro L L' a' u i o h ho hno hall hu
    clear hK
    have q0 := (h.fe.ev (j := 0) (by decide)).trans h0
    have q4 := (h.fe.ev (j := 4) (by decide)).trans h4
    have E := h.e
    have hi : i < 24 := by
      have := (Array.getElem?_eq_some_iff.1 ho).1
      rwa [opsT2_size] at this
    match i, hi with
    | 0, _ =>
      refine og_move (g := none) ho (.tmp 0) (d := some 12) (by kernel_rfl) trivial q0 ?_
      exact h.next (i := 0) ho hall (by decide) (by decide) (by decide) (by decide) (by decide) inj hz hu
    | 1, _ =>
      refine og_move (g := none) ho (.tmp 0) (d := some 13) (by kernel_rfl) trivial q0 ?_
      exact h.next (i := 1) ho hall (by decide) (by decide) (by decide) (by decide) (by decide) inj hz hu
    | 2, _ =>
      refine og_nil (g := none) ho (.tmp 13) (d := some 14) (by kernel_rfl) trivial (show a'.eval (.tmp 13) = .pointer (some ⟨x, 0, none⟩) from E 1 (by decide) (by decide) (by decide) (dep ho hall 1 (by kernel_rfl))) ?_
      exact h.next (i := 2) ho hall (by decide) (by decide) (by decide) (by decide) (by decide) inj hz hu
    | 3, _ =>
      obtain ⟨h1, h2, h3⟩ := flds (d := some 15) (p := Op.fieldAddr 56 (.tmp 14) 3) (g := none) ho (by kernel_rfl)
      have g0 := (show a'.eval (.tmp 14) = .pointer (some ⟨x, 0, none⟩) from E 2 (by decide) (by decide) (by decide) (dep ho hall 2 (by kernel_rfl)))
      refine og_plain ho h3 trivial ?_
      unfold Oper.wp
      simp only [execOp, h2, g0]
      go_simp
      exact h.next (i := 3) ho hall (by decide) (by decide) (by decide) (by decide) (by decide) inj hz hu
    | 4, _ =>
      obtain ⟨h1, h2, h3⟩ := flds (d := some 16) (p := Op.load 54 (.tmp 15)) (g := none) ho (by kernel_rfl)
      have g0 := (show a'.eval (.tmp 15) = .pointer (some ⟨x, 3, none⟩) from E 3 (by decide) (by decide) (by decide) (dep ho hall 3 (by kernel_rfl)))
      obtain ⟨c0, c1, c2, c3, c4, c5, c6, c7⟩ := hG0 u (h.n (fun hl => hno (anc_spec h.dc 40 20 4 (by kernel_rfl) hl)))
      refine og_plain ho h3 trivial ?_
      unfold Oper.wp
      simp only [execOp, h2, g0]
      go_simp
      exact h.next (i := 4) ho hall (by decide) (by decide) (by decide) (by decide) (by decide) inj hz hu
    | 5, _ =>
      refine og_move (g := none) ho (.tmp 0) (d := some 17) (by kernel_rfl) trivial q0 ?_
      exact h.next (i := 5) ho hall (by decide) (by decide) (by decide) (by decide) (by decide) inj hz hu
    | 6, _ =>
      refine og_nil (g := none) ho (.tmp 17) (d := some 18) (by kernel_rfl) trivial (show a'.eval (.tmp 17) = .pointer (some ⟨x, 0, none⟩) from E 5 (by decide) (by decide) (by decide) (dep ho hall 5 (by kernel_rfl))) ?_
      exact h.next (i := 6) ho hall (by decide) (by decide) (by decide) (by decide) (by decide) inj hz hu
    | 7, _ =>
      obtain ⟨h1, h2, h3⟩ := flds (d := some 19) (p := Op.fieldAddr 56 (.tmp 18) 3) (g := none) ho (by kernel_rfl)
      have g0 := (show a'.eval (.tmp 18) = .pointer (some ⟨x, 0, none⟩) from E 6 (by decide) (by decide) (by decide) (dep ho hall 6 (by kernel_rfl)))
      refine og_plain ho h3 trivial ?_
      unfold Oper.wp
      simp only [execOp, h2, g0]
      go_simp
      exact h.next (i := 7) ho hall (by decide) (by decide) (by decide) (by decide) (by decide) inj hz hu
    | 8, _ =>
      obtain ⟨h1, h2, h3⟩ := flds (d := some 20) (p := Op.load 54 (.tmp 19)) (g := none) ho (by kernel_rfl)
      have g0 := (show a'.eval (.tmp 19) = .pointer (some ⟨x, 3, none⟩) from E 7 (by decide) (by decide) (by decide) (dep ho hall 7 (by kernel_rfl)))
      obtain ⟨c0, c1, c2, c3, c4, c5, c6, c7⟩ := hG0 u (h.n (fun hl => hno (anc_spec h.dc 40 20 8 (by kernel_rfl) hl)))
      refine og_plain ho h3 trivial ?_
      unfold Oper.wp
      simp only [execOp, h2, g0]
      go_simp
      exact h.next (i := 8) ho hall (by decide) (by decide) (by decide) (by decide) (by decide) inj hz hu
    | 9, _ =>
      refine og_move (g := none) ho (.tmp 0) (d := some 21) (by kernel_rfl) trivial q0 ?_
      exact h.next (i := 9) ho hall (by decide) (by decide) (by decide) (by decide) (by decide) inj hz hu
    | 10, _ =>
      refine og_nil (g := none) ho (.tmp 21) (d := some 22) (by kernel_rfl) trivial (show a'.eval (.tmp 21) = .pointer (some ⟨x, 0, none⟩) from E 9 (by decide) (by decide) (by decide) (dep ho hall 9 (by kernel_rfl))) ?_
      exact h.next (i := 10) ho hall (by decide) (by decide) (by decide) (by decide) (by decide) inj hz hu
    | 11, _ =>
      obtain ⟨h1, h2, h3⟩ := flds (d := some 23) (p := Op.fieldAddr 56 (.tmp 22) 1) (g := none) ho (by kernel_rfl)
      have g0 := (show a'.eval (.tmp 22) = .pointer (some ⟨x, 0, none⟩) from E 10 (by decide) (by decide) (by decide) (dep ho hall 10 (by kernel_rfl)))
      refine og_plain ho h3 trivial ?_
      unfold Oper.wp
      simp only [execOp, h2, g0]
      go_simp
      exact h.next (i := 11) ho hall (by decide) (by decide) (by decide) (by decide) (by decide) inj hz hu
    | 12, _ =>
      obtain ⟨h1, h2, h3⟩ := flds (d := some 24) (p := Op.load 22 (.tmp 23)) (g := none) ho (by kernel_rfl)
      have g0 := (show a'.eval (.tmp 23) = .pointer (some ⟨x, 1, none⟩) from E 11 (by decide) (by decide) (by decide) (dep ho hall 11 (by kernel_rfl)))
      obtain ⟨c0, c1, c2, c3, c4, c5, c6, c7⟩ := hG0 u (h.n (fun hl => hno (anc_spec h.dc 40 20 12 (by kernel_rfl) hl)))
      refine og_plain ho h3 trivial ?_
      unfold Oper.wp
      simp only [execOp, h2, g0]
      go_simp
      exact h.next (i := 12) ho hall (by decide) (by decide) (by decide) (by decide) (by decide) inj hz hu
    | 13, _ =>
      obtain ⟨h1, h2, h3⟩ := flds (d := some 25) (p := Op.call { callee := .builtin .len, args := #[.tmp 24], argTypes := #[22] }) (g := none) ho (by kernel_rfl)
      have g0 := (show a'.eval (.tmp 24) = .slice aE n cE from E 12 (by decide) (by decide) (by decide) (dep ho hall 12 (by kernel_rfl)))
      have t0 : a'.tmps[24]?.getD undef = .slice aE n cE := by simpa [Act.eval] using g0
      refine og_plain ho h3 trivial ?_
      unfold Oper.wp
      simp only [execOp, h2]
      go_simp
      exact h.next (i := 13) ho hall (by decide) (by decide) (by decide) (by decide) (by decide) inj hz hu
    | 14, _ =>
      obtain ⟨h1, h2, h3⟩ := flds (d := some 26) (p := Op.indexAddr 54 (.tmp 20) (.tmp 25)) (g := none) ho (by kernel_rfl)
      have g0 := (show a'.eval (.tmp 20) = .slice (some ⟨gN, 0, none⟩) (n + 1) cN from E 8 (by decide) (by decide) (by decide) (dep ho hall 8 (by kernel_rfl)))
      have g1 := (show a'.eval (.tmp 25) = .int .i64 (n : Int) from E 13 (by decide) (by decide) (by decide) (dep ho hall 13 (by kernel_rfl)))
      refine og_plain ho h3 trivial ?_
      unfold Oper.wp
      simp only [execOp, h2, g0, g1]
      go_simp
      exact h.next (i := 14) ho hall (by decide) (by decide) (by decide) (by decide) (by decide) inj hz hu
    | 15, _ =>
      obtain ⟨h1, h2, h3⟩ := flds (d := some 27) (p := Op.load 3 (.tmp 26)) (g := none) ho (by kernel_rfl)
      have g0 := (show a'.eval (.tmp 26) = .pointer (some ⟨gN, n, none⟩) from E 14 (by decide) (by decide) (by decide) (dep ho hall 14 (by kernel_rfl)))
      obtain ⟨c0, c1, c2, c3, c4, c5, c6, c7⟩ := hG0 u (h.n (fun hl => hno (anc_spec h.dc 40 20 15 (by kernel_rfl) hl)))
      refine og_plain ho h3 trivial ?_
      unfold Oper.wp
      simp only [execOp, h2, g0]
      go_simp
      exact h.next (i := 15) ho hall (by decide) (by decide) (by decide) (by decide) (by decide) inj hz hu
    | 16, _ =>
      obtain ⟨h1, h2, h3⟩ := flds (d := some 28) (p := Op.load 46 (.tmp 4)) (g := none) ho (by kernel_rfl)
      have g0 := q4
      obtain ⟨c0, c1, c2, c3, c4, c5, c6, c7⟩ := hG0 u (h.n (fun hl => hno (anc_spec h.dc 40 20 16 (by kernel_rfl) hl)))
      refine og_plain ho h3 trivial ?_
      unfold Oper.wp
      simp only [execOp, h2, g0]
      go_simp
      exact h.next (i := 16) ho hall (by decide) (by decide) (by decide) (by decide) (by decide) inj hz hu
    | 17, _ =>
      have g0 := (show a'.eval (.tmp 28) = .agg #[.int .i64 dk, .int .i64 dp, .int .u8 dc, .int .i64 dl, .int .i64 ds] from E 16 (by decide) (by decide) (by decide) (dep ho hall 16 (by kernel_rfl)))
      have np : ¬ L 20 := fun hl => hno (anc_spec h.dc 40 20 17 (by kernel_rfl) hl)
      refine og_call ho (d := some 29) #[.tmp 28] #[46] (by kernel_rfl) (enters_of Tryz.func33 (by kernel_rfl) rfl) (vs := #[.agg #[.int .i64 dk, .int .i64 dp, .int .u8 dc, .int .i64 dl, .int .i64 ds]]) (by simp [g0]) (hLo u) ?_
      rintro e w' ⟨rfl, bw⟩
      exact ⟨_, rfl, h.nextB (i := 17) ho hall (by decide) (by decide) (by decide) (by decide) (by decide) inj hz hu (by kernel_rfl) np bw (fun g hg => (bw.block _ (block_lt hg)).trans hg)⟩
    | 18, _ =>
      obtain ⟨h1, h2, h3⟩ := flds (d := some 30) (p := Op.binOp .add 3 (.tmp 27) (.tmp 29) 3) (g := none) ho (by kernel_rfl)
      have g0 := (show a'.eval (.tmp 27) = .int .i64 Nk from E 15 (by decide) (by decide) (by decide) (dep ho hall 15 (by kernel_rfl)))
      have g1 := (show a'.eval (.tmp 29) = .int .i64 gg from E 17 (by decide) (by decide) (by decide) (dep ho hall 17 (by kernel_rfl)))
      refine og_plain ho h3 trivial ?_
      unfold Oper.wp
      simp only [execOp, h2, g0, g1]
      go_simp
      exact h.next (i := 18) ho hall (by decide) (by decide) (by decide) (by decide) (by decide) inj hz hu
    | 19, _ =>
      obtain ⟨h1, h2, h3⟩ := flds (d := some 31) (p := Op.buildSlice 54 1 #[(0, .tmp 30)]) (g := none) ho (by kernel_rfl)
      have g0 := (show a'.eval (.tmp 30) = .int .i64 (Nk + gg) from E 18 (by decide) (by decide) (by decide) (dep ho hall 18 (by kernel_rfl)))
      have t0 : a'.tmps[30]?.getD undef = .int .i64 (Nk + gg) := by simpa [Act.eval] using g0
      refine og_plain ho h3 trivial ?_
      unfold Oper.wp
      simp only [execOp, h2]
      go_simp
      exact h.build ho hall hno (by decide) (by decide) (by decide) inj hz hu (by kernel_rfl) (by kernel_rfl) (.cells #[.int .i64 (Nk + gg)] 3) (fun _ => heap_alloc_new _ _)
    | 20, _ =>
      obtain ⟨b, hg1, hg2⟩ := h.b (dep ho hall 19 (by kernel_rfl)) hno
      obtain ⟨v', u', hr, hP⟩ := hA u b (h.n hno) hg2
      refine og_app (g := none) ho (.tmp 16) (.tmp 31) 54 (d := some 32) (by kernel_rfl) trivial (show a'.eval (.tmp 16) = .slice (some ⟨gN, 0, none⟩) (n + 1) cN from E 4 (by decide) (by decide) (by decide) (dep ho hall 4 (by kernel_rfl))) hg1 hr ?_
      exact h.app ho hall hno (by decide) (by decide) (by decide) inj hz hu (by kernel_rfl) hP
    | 21, _ =>
      refine og_nil (g := none) ho (.tmp 12) (d := some 33) (by kernel_rfl) trivial (show a'.eval (.tmp 12) = .pointer (some ⟨x, 0, none⟩) from E 0 (by decide) (by decide) (by decide) (dep ho hall 0 (by kernel_rfl))) ?_
      exact h.next (i := 21) ho hall (by decide) (by decide) (by decide) (by decide) (by decide) inj hz hu
    | 22, _ =>
      obtain ⟨h1, h2, h3⟩ := flds (d := some 34) (p := Op.fieldAddr 56 (.tmp 33) 3) (g := none) ho (by kernel_rfl)
      have g0 := (show a'.eval (.tmp 33) = .pointer (some ⟨x, 0, none⟩) from E 21 (by decide) (by decide) (by decide) (dep ho hall 21 (by kernel_rfl)))
      refine og_plain ho h3 trivial ?_
      unfold Oper.wp
      simp only [execOp, h2, g0]
      go_simp
      exact h.next (i := 22) ho hall (by decide) (by decide) (by decide) (by decide) (by decide) inj hz hu
    | 23, _ =>
      obtain ⟨h1, h2, h3⟩ := flds (d := none) (p := Op.store 54 (.tmp 34) (.tmp 32)) (g := none) ho (by kernel_rfl)
      have lp : L 20 := dep ho hall 20 (by kernel_rfl)
      have hp := h.p lp hno
      obtain ⟨⟨A, m, cc, hv⟩, hcx, hfz⟩ := hSt _ _ hp
      have g0 := (show a'.eval (.tmp 34) = .pointer (some ⟨x, 3, none⟩) from E 22 (by decide) (by decide) (by decide) (dep ho hall 22 (by kernel_rfl)))
      have g1 : a'.eval (.tmp 32) = .slice A m cc := hv
      refine og_plain ho h3 trivial ?_
      unfold Oper.wp
      simp only [execOp, h2, g0, g1]
      go_simp
      have hh := h.store ho hall hno (by decide) (by decide) hu lp
      rw [show a'.eval (.tmp (sltakeN 20)) = .slice A m cc from hv] at hh
      exact hh
    | i + 24, hi => omega
  · rintro L a' u h hall
    rw [opsT2_size] at hall
    obtain ⟨V', v', u1, hp, rfl, rfl⟩ := h.done hz (hall 23 (by omega))
    exact hK V' v' u1 hp
  · intro L hL
    exact JP.start ((Below.refl _ _).drew) hL

noncomputable def opsT3 : Array Oper := (Tryz.f19.body.bind (opsAt 3)).getD #[]
theorem opsT3_size : opsT3.size = 11 := by kernel_rfl
theorem opsT3_earlier : Earlier opsT3 := by
  have h : (List.range 11).all (fun i => ((opsT3[i]?).map (fun o => o.after.all (fun e => !Region.binds .any e || decide (e.on < i)))).getD true) = true := by kernel_rfl
  intro i o ho e he hb
  have hi : i < 11 := by
    have := (Array.getElem?_eq_some_iff.1 ho).1
    rwa [opsT3_size] at this
  have h1 := List.all_eq_true.1 h i (List.mem_range.2 hi)
  rw [ho] at h1
  simp only [Option.map_some, Option.getD_some, Array.all_eq_true'] at h1
  have h2 := h1 e he
  rw [hb] at h2
  simpa using h2
def sltakeE (j : Nat) : Nat := ([35, 36, 37, 38, 39, 40, 41, 42, 43, 44] : List Nat).getD j 0
def VtakeE (x eb n cE : Nat) (aE : Option Addr) (et ek ep ec el es : Int) (j : Nat) : Value := [.pointer (some ⟨x, 0, none⟩), .pointer (some ⟨x, 0, none⟩), .pointer (some ⟨x, 0, none⟩), .pointer (some ⟨x, 1, none⟩), .slice aE n cE, .agg #[.int .i64 et, .int .i64 ek, .int .i64 ep, .int .u8 ec, .int .i64 el, .int .i64 es], .bool false, .bool false, .pointer (some ⟨x, 0, none⟩), .pointer (some ⟨x, 1, none⟩)].getD j (.bool false)

set_option maxRecDepth 100000 in
set_option maxHeartbeats 4000000 in
theorem takeE (a0 : Act) (w : World) {Q : Exit → Act → World → Prop} (x eb n cE : Nat) (aE : Option Addr) (et ek ep ec el es : Int) (h0 : a0.eval (.tmp 0) = .pointer (some ⟨x, 0, none⟩)) (h3 : a0.eval (.tmp 3) = .pointer (some ⟨eb, 0, none⟩)) (hzz : 44 < a0.tmps.size)  (P : Value → World → Prop)
    (hG0 : ∀ u, Below w.heap.size w u → u.cell? ⟨x, 1, none⟩ = some (.slice aE n cE) ∧ u.cell? ⟨eb, 0, none⟩ = some (.int .i64 et) ∧ u.cell? ⟨eb, 1, none⟩ = some (.int .i64 ek) ∧ u.cell? ⟨eb, 2, none⟩ = some (.int .i64 ep) ∧ u.cell? ⟨eb, 3, none⟩ = some (.int .u8 ec) ∧ u.cell? ⟨eb, 4, none⟩ = some (.int .i64 el) ∧ u.cell? ⟨eb, 5, none⟩ = some (.int .i64 es))
    (hA : ∀ u b, Below w.heap.size w u → u.heap[b]? = some (.cells #[.int .i64 et, .int .i64 ek, .int .i64 ep, .int .u8 ec, .int .i64 el, .int .i64 es] 48 (0, 0)) → ∃ v' u', (∀ ty, (Builtin.append_ #[22, 22] ty #[.slice aE n cE, .slice (some ⟨b, 0, none⟩) 1 1]).run Tryz.prog u = .ok v' u') ∧ P v' u')
    (hSt : ∀ v u, P v u → (∃ A n c, v = .slice A n c) ∧ u.cell? ⟨x, 1, none⟩ = some (.slice aE n cE) ∧ u.frozen? ⟨x, 1, none⟩ = false)
    (hK : ∀ (V' : Nat → Value) v' u1, P v' u1 → Q .normal (puts a0 ((List.range 10).map fun j => (sltakeE j, V' j))) (u1.setCell ⟨x, 1, none⟩ v')) :
    (Code.region 3 opsT3 true).wp Tryz.prog Q a0 w := by
  have inj : ∀ i j, i < 10 → j < 10 → sltakeE i = sltakeE j → i = j := by
    have h : (List.range 10).all (fun i => (List.range 10).all (fun j => decide (sltakeE i = sltakeE j → i = j))) = true := by kernel_rfl
    intro i j hi hj he
    have h1 := List.all_eq_true.1 h i (List.mem_range.2 hi)
    have h2 := List.all_eq_true.1 h1 j (List.mem_range.2 hj)
    exact (of_decide_eq_true h2) he
  have hz : ∀ j, j < 10 → sltakeE j < a0.tmps.size := by
    have h : (List.range 10).all (fun i => decide (sltakeE i ≤ 44)) = true := by kernel_rfl
    intro j hj
    have := of_decide_eq_true (List.all_eq_true.1 h j (List.mem_range.2 hj))
    omega
  refine wp_region_inv (by kernel_rfl) opsT3_earlier (fun L a u => JP opsT3 sltakeE 10 6 7 (VtakeE x eb n cE aE et ek ep ec el es) a0 w (fun b u => u.heap[b]? = some (.cells #[.int .i64 et, .int .i64 ek, .int .i64 ep, .int .u8 ec, .int .i64 el, .int .i64 es] 48 (0, 0))) P x 1 L a u) ?_ ?_ ?_
  · rintro L L' a' u i o h ho hno hall hu
    clear hK
    have q0 := (h.fe.ev (j := 0) (by decide)).trans h0
    have q3 := (h.fe.ev (j := 3) (by decide)).trans h3
    have E := h.e
    have hi : i < 11 := by
      have := (Array.getElem?_eq_some_iff.1 ho).1
      rwa [opsT3_size] at this
    match i, hi with
    | 0, _ =>
      refine og_move (g := none) ho (.tmp 0) (d := some 35) (by kernel_rfl) trivial q0 ?_
      exact h.next (i := 0) ho hall (by decide) (by decide) (by decide) (by decide) (by decide) inj hz hu
    | 1, _ =>
      refine og_move (g := none) ho (.tmp 0) (d := some 36) (by kernel_rfl) trivial q0 ?_
      exact h.next (i := 1) ho hall (by decide) (by decide) (by decide) (by decide) (by decide) inj hz hu
    | 2, _ =>
      refine og_nil (g := none) ho (.tmp 36) (d := some 37) (by kernel_rfl) trivial (show a'.eval (.tmp 36) = .pointer (some ⟨x, 0, none⟩) from E 1 (by decide) (by decide) (by decide) (dep ho hall 1 (by kernel_rfl))) ?_
      exact h.next (i := 2) ho hall (by decide) (by decide) (by decide) (by decide) (by decide) inj hz hu
    | 3, _ =>
      obtain ⟨h1, h2, h3⟩ := flds (d := some 38) (p := Op.fieldAddr 56 (.tmp 37) 1) (g := none) ho (by kernel_rfl)
      have g0 := (show a'.eval (.tmp 37) = .pointer (some ⟨x, 0, none⟩) from E 2 (by decide) (by decide) (by decide) (dep ho hall 2 (by kernel_rfl)))
      refine og_plain ho h3 trivial ?_
      unfold Oper.wp
      simp only [execOp, h2, g0]
      go_simp
      exact h.next (i := 3) ho hall (by decide) (by decide) (by decide) (by decide) (by decide) inj hz hu
    | 4, _ =>
      obtain ⟨h1, h2, h3⟩ := flds (d := some 39) (p := Op.load 22 (.tmp 38)) (g := none) ho (by kernel_rfl)
      have g0 := (show a'.eval (.tmp 38) = .pointer (some ⟨x, 1, none⟩) from E 3 (by decide) (by decide) (by decide) (dep ho hall 3 (by kernel_rfl)))
      obtain ⟨c0, c1, c2, c3, c4, c5, c6⟩ := hG0 u (h.n (fun hl => hno (anc_spec h.dc 40 7 4 (by kernel_rfl) hl)))
      refine og_plain ho h3 trivial ?_
      unfold Oper.wp
      simp only [execOp, h2, g0]
      go_simp
      exact h.next (i := 4) ho hall (by decide) (by decide) (by decide) (by decide) (by decide) inj hz hu
    | 5, _ =>
      obtain ⟨h1, h2, h3⟩ := flds (d := some 40) (p := Op.load 48 (.tmp 3)) (g := none) ho (by kernel_rfl)
      have g0 := q3
      obtain ⟨c0, c1, c2, c3, c4, c5, c6⟩ := hG0 u (h.n (fun hl => hno (anc_spec h.dc 40 7 5 (by kernel_rfl) hl)))
      refine og_plain ho h3 trivial ?_
      unfold Oper.wp
      simp only [execOp, h2, g0]
      go_simp
      exact h.next (i := 5) ho hall (by decide) (by decide) (by decide) (by decide) (by decide) inj hz hu
    | 6, _ =>
      obtain ⟨h1, h2, h3⟩ := flds (d := some 41) (p := Op.buildSlice 22 1 #[(0, .tmp 40)]) (g := none) ho (by kernel_rfl)
      have g0 := (show a'.eval (.tmp 40) = .agg #[.int .i64 et, .int .i64 ek, .int .i64 ep, .int .u8 ec, .int .i64 el, .int .i64 es] from E 5 (by decide) (by decide) (by decide) (dep ho hall 5 (by kernel_rfl)))
      have t0 : a'.tmps[40]?.getD undef = .agg #[.int .i64 et, .int .i64 ek, .int .i64 ep, .int .u8 ec, .int .i64 el, .int .i64 es] := by simpa [Act.eval] using g0
      refine og_plain ho h3 trivial ?_
      unfold Oper.wp
      simp only [execOp, h2]
      go_simp
      exact h.build ho hall hno (by decide) (by decide) (by decide) inj hz hu (by kernel_rfl) (by kernel_rfl) (.cells #[.int .i64 et, .int .i64 ek, .int .i64 ep, .int .u8 ec, .int .i64 el, .int .i64 es] 48) (fun _ => heap_alloc_new _ _)
    | 7, _ =>
      obtain ⟨b, hg1, hg2⟩ := h.b (dep ho hall 6 (by kernel_rfl)) hno
      obtain ⟨v', u', hr, hP⟩ := hA u b (h.n hno) hg2
      refine og_app (g := none) ho (.tmp 39) (.tmp 41) 22 (d := some 42) (by kernel_rfl) trivial (show a'.eval (.tmp 39) = .slice aE n cE from E 4 (by decide) (by decide) (by decide) (dep ho hall 4 (by kernel_rfl))) hg1 hr ?_
      exact h.app ho hall hno (by decide) (by decide) (by decide) inj hz hu (by kernel_rfl) hP
    | 8, _ =>
      refine og_nil (g := none) ho (.tmp 35) (d := some 43) (by kernel_rfl) trivial (show a'.eval (.tmp 35) = .pointer (some ⟨x, 0, none⟩) from E 0 (by decide) (by decide) (by decide) (dep ho hall 0 (by kernel_rfl))) ?_
      exact h.next (i := 8) ho hall (by decide) (by decide) (by decide) (by decide) (by decide) inj hz hu
    | 9, _ =>
      obtain ⟨h1, h2, h3⟩ := flds (d := some 44) (p := Op.fieldAddr 56 (.tmp 43) 1) (g := none) ho (by kernel_rfl)
      have g0 := (show a'.eval (.tmp 43) = .pointer (some ⟨x, 0, none⟩) from E 8 (by decide) (by decide) (by decide) (dep ho hall 8 (by kernel_rfl)))
      refine og_plain ho h3 trivial ?_
      unfold Oper.wp
      simp only [execOp, h2, g0]
      go_simp
      exact h.next (i := 9) ho hall (by decide) (by decide) (by decide) (by decide) (by decide) inj hz hu
    | 10, _ =>
      obtain ⟨h1, h2, h3⟩ := flds (d := none) (p := Op.store 22 (.tmp 44) (.tmp 42)) (g := none) ho (by kernel_rfl)
      have lp : L 7 := dep ho hall 7 (by kernel_rfl)
      have hp := h.p lp hno
      obtain ⟨⟨A, m, cc, hv⟩, hcx, hfz⟩ := hSt _ _ hp
      have g0 := (show a'.eval (.tmp 44) = .pointer (some ⟨x, 1, none⟩) from E 9 (by decide) (by decide) (by decide) (dep ho hall 9 (by kernel_rfl)))
      have g1 : a'.eval (.tmp 42) = .slice A m cc := hv
      refine og_plain ho h3 trivial ?_
      unfold Oper.wp
      simp only [execOp, h2, g0, g1]
      go_simp
      have hh := h.store ho hall hno (by decide) (by decide) hu lp
      rw [show a'.eval (.tmp (sltakeE 7)) = .slice A m cc from hv] at hh
      exact hh
    | i + 11, hi => omega
  · rintro L a' u h hall
    rw [opsT3_size] at hall
    obtain ⟨V', v', u1, hp, rfl, rfl⟩ := h.done hz (hall 10 (by omega))
    exact hK V' v' u1 hp
  · intro L hL
    exact JP.start ((Below.refl _ _).drew) hL

noncomputable def opsT4 : Array Oper := (Tryz.f19.body.bind (opsAt 4)).getD #[]
theorem opsT4_size : opsT4.size = 11 := by kernel_rfl
theorem opsT4_earlier : Earlier opsT4 := by
  have h : (List.range 11).all (fun i => ((opsT4[i]?).map (fun o => o.after.all (fun e => !Region.binds .any e || decide (e.on < i)))).getD true) = true := by kernel_rfl
  intro i o ho e he hb
  have hi : i < 11 := by
    have := (Array.getElem?_eq_some_iff.1 ho).1
    rwa [opsT4_size] at this
  have h1 := List.all_eq_true.1 h i (List.mem_range.2 hi)
  rw [ho] at h1
  simp only [Option.map_some, Option.getD_some, Array.all_eq_true'] at h1
  have h2 := h1 e he
  rw [hb] at h2
  simpa using h2
def sltakeD (j : Nat) : Nat := ([45, 46, 47, 48, 49, 50, 51, 52, 53, 54] : List Nat).getD j 0
def VtakeD (x db n cD : Nat) (aD : Option Addr) (dk dp dc dl ds : Int) (j : Nat) : Value := [.pointer (some ⟨x, 0, none⟩), .pointer (some ⟨x, 0, none⟩), .pointer (some ⟨x, 0, none⟩), .pointer (some ⟨x, 2, none⟩), .slice aD n cD, .agg #[.int .i64 dk, .int .i64 dp, .int .u8 dc, .int .i64 dl, .int .i64 ds], .bool false, .bool false, .pointer (some ⟨x, 0, none⟩), .pointer (some ⟨x, 2, none⟩)].getD j (.bool false)

set_option maxRecDepth 100000 in
set_option maxHeartbeats 4000000 in
theorem takeD (a0 : Act) (w : World) {Q : Exit → Act → World → Prop} (x db n cD : Nat) (aD : Option Addr) (dk dp dc dl ds : Int) (h0 : a0.eval (.tmp 0) = .pointer (some ⟨x, 0, none⟩)) (h4 : a0.eval (.tmp 4) = .pointer (some ⟨db, 0, none⟩)) (hzz : 54 < a0.tmps.size)  (P : Value → World → Prop)
    (hG0 : ∀ u, Below w.heap.size w u → u.cell? ⟨x, 2, none⟩ = some (.slice aD n cD) ∧ u.cell? ⟨db, 0, none⟩ = some (.int .i64 dk) ∧ u.cell? ⟨db, 1, none⟩ = some (.int .i64 dp) ∧ u.cell? ⟨db, 2, none⟩ = some (.int .u8 dc) ∧ u.cell? ⟨db, 3, none⟩ = some (.int .i64 dl) ∧ u.cell? ⟨db, 4, none⟩ = some (.int .i64 ds))
    (hA : ∀ u b, Below w.heap.size w u → u.heap[b]? = some (.cells #[.int .i64 dk, .int .i64 dp, .int .u8 dc, .int .i64 dl, .int .i64 ds] 46 (0, 0)) → ∃ v' u', (∀ ty, (Builtin.append_ #[24, 24] ty #[.slice aD n cD, .slice (some ⟨b, 0, none⟩) 1 1]).run Tryz.prog u = .ok v' u') ∧ P v' u')
    (hSt : ∀ v u, P v u → (∃ A n c, v = .slice A n c) ∧ u.cell? ⟨x, 2, none⟩ = some (.slice aD n cD) ∧ u.frozen? ⟨x, 2, none⟩ = false)
    (hK : ∀ (V' : Nat → Value) v' u1, P v' u1 → Q .normal (puts a0 ((List.range 10).map fun j => (sltakeD j, V' j))) (u1.setCell ⟨x, 2, none⟩ v')) :
    (Code.region 4 opsT4 true).wp Tryz.prog Q a0 w := by
  have inj : ∀ i j, i < 10 → j < 10 → sltakeD i = sltakeD j → i = j := by
    have h : (List.range 10).all (fun i => (List.range 10).all (fun j => decide (sltakeD i = sltakeD j → i = j))) = true := by kernel_rfl
    intro i j hi hj he
    have h1 := List.all_eq_true.1 h i (List.mem_range.2 hi)
    have h2 := List.all_eq_true.1 h1 j (List.mem_range.2 hj)
    exact (of_decide_eq_true h2) he
  have hz : ∀ j, j < 10 → sltakeD j < a0.tmps.size := by
    have h : (List.range 10).all (fun i => decide (sltakeD i ≤ 54)) = true := by kernel_rfl
    intro j hj
    have := of_decide_eq_true (List.all_eq_true.1 h j (List.mem_range.2 hj))
    omega
  refine wp_region_inv (by kernel_rfl) opsT4_earlier (fun L a u => JP opsT4 sltakeD 10 6 7 (VtakeD x db n cD aD dk dp dc dl ds) a0 w (fun b u => u.heap[b]? = some (.cells #[.int .i64 dk, .int .i64 dp, .int .u8 dc, .int .i64 dl, .int .i64 ds] 46 (0, 0))) P x 2 L a u) ?_ ?_ ?_
  · rintro L L' a' u i o h ho hno hall hu
    clear hK
    have q0 := (h.fe.ev (j := 0) (by decide)).trans h0
    have q4 := (h.fe.ev (j := 4) (by decide)).trans h4
    have E := h.e
    have hi : i < 11 := by
      have := (Array.getElem?_eq_some_iff.1 ho).1
      rwa [opsT4_size] at this
    match i, hi with
    | 0, _ =>
      refine og_move (g := none) ho (.tmp 0) (d := some 45) (by kernel_rfl) trivial q0 ?_
      exact h.next (i := 0) ho hall (by decide) (by decide) (by decide) (by decide) (by decide) inj hz hu
    | 1, _ =>
      refine og_move (g := none) ho (.tmp 0) (d := some 46) (by kernel_rfl) trivial q0 ?_
      exact h.next (i := 1) ho hall (by decide) (by decide) (by decide) (by decide) (by decide) inj hz hu
    | 2, _ =>
      refine og_nil (g := none) ho (.tmp 46) (d := some 47) (by kernel_rfl) trivial (show a'.eval (.tmp 46) = .pointer (some ⟨x, 0, none⟩) from E 1 (by decide) (by decide) (by decide) (dep ho hall 1 (by kernel_rfl))) ?_
      exact h.next (i := 2) ho hall (by decide) (by decide) (by decide) (by decide) (by decide) inj hz hu
    | 3, _ =>
      obtain ⟨h1, h2, h3⟩ := flds (d := some 48) (p := Op.fieldAddr 56 (.tmp 47) 2) (g := none) ho (by kernel_rfl)
      have g0 := (show a'.eval (.tmp 47) = .pointer (some ⟨x, 0, none⟩) from E 2 (by decide) (by decide) (by decide) (dep ho hall 2 (by kernel_rfl)))
      refine og_plain ho h3 trivial ?_
      unfold Oper.wp
      simp only [execOp, h2, g0]
      go_simp
      exact h.next (i := 3) ho hall (by decide) (by decide) (by decide) (by decide) (by decide) inj hz hu
    | 4, _ =>
      obtain ⟨h1, h2, h3⟩ := flds (d := some 49) (p := Op.load 24 (.tmp 48)) (g := none) ho (by kernel_rfl)
      have g0 := (show a'.eval (.tmp 48) = .pointer (some ⟨x, 2, none⟩) from E 3 (by decide) (by decide) (by decide) (dep ho hall 3 (by kernel_rfl)))
      obtain ⟨c0, c1, c2, c3, c4, c5⟩ := hG0 u (h.n (fun hl => hno (anc_spec h.dc 40 7 4 (by kernel_rfl) hl)))
      refine og_plain ho h3 trivial ?_
      unfold Oper.wp
      simp only [execOp, h2, g0]
      go_simp
      exact h.next (i := 4) ho hall (by decide) (by decide) (by decide) (by decide) (by decide) inj hz hu
    | 5, _ =>
      obtain ⟨h1, h2, h3⟩ := flds (d := some 50) (p := Op.load 46 (.tmp 4)) (g := none) ho (by kernel_rfl)
      have g0 := q4
      obtain ⟨c0, c1, c2, c3, c4, c5⟩ := hG0 u (h.n (fun hl => hno (anc_spec h.dc 40 7 5 (by kernel_rfl) hl)))
      refine og_plain ho h3 trivial ?_
      unfold Oper.wp
      simp only [execOp, h2, g0]
      go_simp
      exact h.next (i := 5) ho hall (by decide) (by decide) (by decide) (by decide) (by decide) inj hz hu
    | 6, _ =>
      obtain ⟨h1, h2, h3⟩ := flds (d := some 51) (p := Op.buildSlice 24 1 #[(0, .tmp 50)]) (g := none) ho (by kernel_rfl)
      have g0 := (show a'.eval (.tmp 50) = .agg #[.int .i64 dk, .int .i64 dp, .int .u8 dc, .int .i64 dl, .int .i64 ds] from E 5 (by decide) (by decide) (by decide) (dep ho hall 5 (by kernel_rfl)))
      have t0 : a'.tmps[50]?.getD undef = .agg #[.int .i64 dk, .int .i64 dp, .int .u8 dc, .int .i64 dl, .int .i64 ds] := by simpa [Act.eval] using g0
      refine og_plain ho h3 trivial ?_
      unfold Oper.wp
      simp only [execOp, h2]
      go_simp
      exact h.build ho hall hno (by decide) (by decide) (by decide) inj hz hu (by kernel_rfl) (by kernel_rfl) (.cells #[.int .i64 dk, .int .i64 dp, .int .u8 dc, .int .i64 dl, .int .i64 ds] 46) (fun _ => heap_alloc_new _ _)
    | 7, _ =>
      obtain ⟨b, hg1, hg2⟩ := h.b (dep ho hall 6 (by kernel_rfl)) hno
      obtain ⟨v', u', hr, hP⟩ := hA u b (h.n hno) hg2
      refine og_app (g := none) ho (.tmp 49) (.tmp 51) 24 (d := some 52) (by kernel_rfl) trivial (show a'.eval (.tmp 49) = .slice aD n cD from E 4 (by decide) (by decide) (by decide) (dep ho hall 4 (by kernel_rfl))) hg1 hr ?_
      exact h.app ho hall hno (by decide) (by decide) (by decide) inj hz hu (by kernel_rfl) hP
    | 8, _ =>
      refine og_nil (g := none) ho (.tmp 45) (d := some 53) (by kernel_rfl) trivial (show a'.eval (.tmp 45) = .pointer (some ⟨x, 0, none⟩) from E 0 (by decide) (by decide) (by decide) (dep ho hall 0 (by kernel_rfl))) ?_
      exact h.next (i := 8) ho hall (by decide) (by decide) (by decide) (by decide) (by decide) inj hz hu
    | 9, _ =>
      obtain ⟨h1, h2, h3⟩ := flds (d := some 54) (p := Op.fieldAddr 56 (.tmp 53) 2) (g := none) ho (by kernel_rfl)
      have g0 := (show a'.eval (.tmp 53) = .pointer (some ⟨x, 0, none⟩) from E 8 (by decide) (by decide) (by decide) (dep ho hall 8 (by kernel_rfl)))
      refine og_plain ho h3 trivial ?_
      unfold Oper.wp
      simp only [execOp, h2, g0]
      go_simp
      exact h.next (i := 9) ho hall (by decide) (by decide) (by decide) (by decide) (by decide) inj hz hu
    | 10, _ =>
      obtain ⟨h1, h2, h3⟩ := flds (d := none) (p := Op.store 24 (.tmp 54) (.tmp 52)) (g := none) ho (by kernel_rfl)
      have lp : L 7 := dep ho hall 7 (by kernel_rfl)
      have hp := h.p lp hno
      obtain ⟨⟨A, m, cc, hv⟩, hcx, hfz⟩ := hSt _ _ hp
      have g0 := (show a'.eval (.tmp 54) = .pointer (some ⟨x, 2, none⟩) from E 9 (by decide) (by decide) (by decide) (dep ho hall 9 (by kernel_rfl)))
      have g1 : a'.eval (.tmp 52) = .slice A m cc := hv
      refine og_plain ho h3 trivial ?_
      unfold Oper.wp
      simp only [execOp, h2, g0, g1]
      go_simp
      have hh := h.store ho hall hno (by decide) (by decide) hu lp
      rw [show a'.eval (.tmp (sltakeD 7)) = .slice A m cc from hv] at hh
      exact hh
    | i + 11, hi => omega
  · rintro L a' u h hall
    rw [opsT4_size] at hall
    obtain ⟨V', v', u1, hp, rfl, rfl⟩ := h.done hz (hall 10 (by omega))
    exact hK V' v' u1 hp
  · intro L hL
    exact JP.start ((Below.refl _ _).drew) hL

end Go.Proofs.YtilidolbplglcaaGreatDoor
