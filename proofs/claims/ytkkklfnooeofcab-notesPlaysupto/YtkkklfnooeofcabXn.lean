/-
  The law's changes and asks: regions whose order is drawn, with one call each.
-/
import Derived.Test.YtkkklfnooeofcabXl
import Derived.Test.YtkkklfnooeofcabIg
namespace Go.Proofs.Ytkkklfnooeofcab
open Go.RowKit
set_option linter.unusedVariables false

section
variable {ops : Array Oper} {o : Oper} {a : Act} {w : World} {K : Act → World → Prop} {Q : Exit → Act → World → Prop} {i : Nat}
theorem og_calls {g : Option (Nat × Bool)} (ho : ops[i]? = some o) (f : FuncId) (xs : Array Operand) (ts : Array TypeId) {d : Option Tmp} (h : (ops[i]?).map (fun o => (o.dst, o.op, o.guard)) = some (d, Op.call { callee := .value (.func f), args := xs, argTypes := ts }, g)) (hw : gOk ops a g) {fn : Func} {c : Code} (hf : Try.prog.funcs[f]? = some fn) (hb : fn.body = some c) (hnm : (fn.name == "runtime.NumGoroutine") = false) {vs : Array Value} (hvs : xs.map a.eval = vs) {R : Ending → World → Prop} (hC : Calls Try.prog f vs w R) (hK : ∀ e w', R e w' → ∃ v, e = .returned v ∧ K (a.put d v) w') : wpOp Try.prog ops Q i K a w := by
  obtain ⟨h1, h2, h3⟩ := flds ho h
  refine og_plain ho h3 hw ?_
  unfold Oper.wp
  have e1 : (execOp a.eval o).run Try.prog w = .ok (.enter f vs) w := by
    rw [← hvs]
    simp [execOp, h2, resolve, invoke, Deferred.ofValue, show a.eval (.func f) = .func (.func f) #[] #[] from rfl, callFunc, hf, hb]
    simpa using hnm
  rw [e1]
  show Calls Try.prog f vs w _
  refine hC.mono fun e w' h => ?_
  obtain ⟨v, rfl, hk⟩ := hK e w' h
  rw [h1]
  exact hk
theorem og_len {g : Option (Nat × Bool)} (ho : ops[i]? = some o) (x : Operand) {d : Option Tmp} (h : (ops[i]?).map (fun o => (o.dst, o.op, o.guard)) = some (d, Op.call { callee := .builtin .len, args := #[x], argTypes := #[24] }, g)) (hw : gOk ops a g) {ad : Option Addr} {n c : Nat} (hx : a.eval x = .slice ad n c) (hK : K (a.put d (.int .i64 (n : Int))) w) : wpOp Try.prog ops Q i K a w := by
  obtain ⟨h1, h2, h3⟩ := flds ho h
  refine og_plain ho h3 hw ?_
  unfold Oper.wp
  simp [execOp, h2, resolve, invoke, builtin, hx, Result.andThen]
  go_simp
  exact hK
end
/-- Ahead of the call nothing has changed; behind it R holds. -/
def WC (w : World) (c : Nat) (R : World → Prop) (L : Nat → Prop) (val : Nat → Value) (u : World) : Prop := (¬ L c → Below w.heap.size w u) ∧ (L c → R u)
/-- Two calls, one behind the other. -/
def WD (w : World) (c1 c2 : Nat) (R1 R2 : World → Prop) (L : Nat → Prop) (val : Nat → Value) (u : World) : Prop := (¬ L c1 → Below w.heap.size w u) ∧ (L c1 → ¬ L c2 → R1 u) ∧ (L c2 → R2 u)
/-- The like, of a call whose answer v is told with the world. -/
def WV (w : World) (c e : Nat) (R : Value → World → Prop) (L : Nat → Prop) (val : Nat → Value) (u : World) : Prop := (¬ L c → Below w.heap.size w u) ∧ (L c → R (val c) u) ∧ (L e → val e = val c)

noncomputable def opsCA : Array Oper := (Try.f13.body.bind (opsAt 3)).getD #[]
theorem opsCA_size : opsCA.size = 20 := by kernel_rfl
theorem opsCA_earlier : Earlier opsCA := by
  have h : (List.range 20).all (fun i => ((opsCA[i]?).map (fun o => o.after.all (fun e => !Region.binds .any e || decide (e.on < i)))).getD true) = true := by kernel_rfl
  intro i o ho e he hb
  have hi : i < 20 := by
    have := (Array.getElem?_eq_some_iff.1 ho).1
    rwa [opsCA_size] at this
  have h1 := List.all_eq_true.1 h i (List.mem_range.2 hi)
  rw [ho] at h1
  simp only [Option.map_some, Option.getD_some, Array.all_eq_true'] at h1
  have h2 := h1 e he
  rw [hb] at h2
  simpa using h2
def slCA (j : Nat) : Nat := ([21, 22, 23, 24, 25, 26, 27, 28, 29, 30, 31, 32, 33, 34, 35, 20, 36, 37, 5, 6] : List Nat).getD j 0
def DCA : List Nat := [0, 1, 2, 3, 4, 5, 6, 7, 8, 9, 10, 11, 12, 13, 14, 15, 16, 17, 18, 19]
def VCA (X off B r q n c g cd : Nat) (av : Option Addr) (id0 f t cc : Int) (s : ByteArray) (id er : Int) (j : Nat) : Option Value := [some (.pointer (some ⟨X, off, none⟩)), some (.pointer (some ⟨X, off, none⟩)), some (.pointer (some ⟨X, off + 1, none⟩)), some (.pointer (some ⟨q, 0, none⟩)), some (.pointer (some ⟨B, 7, none⟩)), some (.slice av n c), some (.pointer (some ⟨B, 3, none⟩)), some (.int .i64 f), some (.pointer (some ⟨B, 4, none⟩)), some (.int .i64 t), some (.pointer (some ⟨B, 5, none⟩)), some (.int .i64 cc), some (.pointer (some ⟨B, 6, none⟩)), some (.string s), some (.tuple #[.int .i64 id, .int .i64 er]), some (.tuple #[.int .i64 id, .int .i64 er]), some (.int .i64 id), some (.int .i64 er), some (.int .i64 id), some (.int .i64 er)].getD j none
set_option maxRecDepth 100000 in
set_option maxHeartbeats 4000000 in
theorem regCA (a0 : Act) (w : World) {Q : Exit → Act → World → Prop} (X off B r q n c g cd : Nat) (av : Option Addr) (id0 f t cc : Int) (s : ByteArray) (id er : Int) (R : World → Prop) (hX : X < w.heap.size) (hB : B < w.heap.size) (hb3 : w.cell? ⟨B, 3, none⟩ = some (.int .i64 f)) (hb4 : w.cell? ⟨B, 4, none⟩ = some (.int .i64 t)) (hb5 : w.cell? ⟨B, 5, none⟩ = some (.int .i64 cc)) (hb6 : w.cell? ⟨B, 6, none⟩ = some (.string s)) (hb7 : w.cell? ⟨B, 7, none⟩ = some (.slice av n c)) (hx1 : w.cell? ⟨X, off + 1, none⟩ = some (.pointer (some ⟨q, 0, none⟩))) (hC : ∀ W, Below w.heap.size w W → Calls Try.prog 32 #[.pointer (some ⟨q, 0, none⟩), .slice av n c, .int .i64 f, .int .i64 t, .int .i64 cc, .string s] W fun e w' => e = .returned (.tuple #[.int .i64 id, .int .i64 er]) ∧ R w') (hzz : 37 < a0.tmps.size) (H0 : a0.eval (.tmp 0) = .pointer (some ⟨X, off, none⟩)) (H3 : a0.eval (.tmp 3) = .pointer (some ⟨B, 0, none⟩))
    (hK : ∀ (L : Nat → Prop) (val : Nat → Value) (u : World), (∀ i, i < 20 → L i) → WC w 14 R L val u → (∀ j, (VCA X off B r q n c g cd av id0 f t cc s id er) j = none ∨ (VCA X off B r q n c g cd av id0 f t cc s id er) j = some (val j) ∨ j ∉ DCA) → Q .normal (puts a0 (DCA.map fun j => (slCA j, val j))) u) :
    (Code.region 3 opsCA true).wp Try.prog Q a0 w := by
  have inj : ∀ i ∈ DCA, ∀ j ∈ DCA, slCA i = slCA j → i = j := by
    have h : DCA.all (fun i => DCA.all (fun j => decide (slCA i = slCA j → i = j))) = true := by kernel_rfl
    intro i hi j hj he
    exact (of_decide_eq_true (List.all_eq_true.1 (List.all_eq_true.1 h i hi) j hj)) he
  have hz : ∀ j ∈ DCA, slCA j < a0.tmps.size := by
    have h : DCA.all (fun i => decide (slCA i ≤ 37)) = true := by kernel_rfl
    intro j hj
    have := of_decide_eq_true (List.all_eq_true.1 h j hj)
    omega
  have hcg : ∀ (L L' : Nat → Prop) (val val' : Nat → Value) u, (∀ k ∈ ([14] : List Nat), (L' k ↔ L k)) → (∀ k ∈ ([] : List Nat), val' k = val k) → WC w 14 R L val u → WC w 14 R L' val' u := by
    intro L L' val val' u hl hv hw
    simp at hl hv
    unfold WC at hw ⊢
    simp only [hl]
    exact hw
  have hKD : ∀ k ∈ ([] : List Nat), k ∈ DCA := by decide
  refine wp_region_inv (by kernel_rfl) opsCA_earlier (fun L a u => JR opsCA slCA DCA (VCA X off B r q n c g cd av id0 f t cc s id er) a0 (WC w 14 R) L a u) ?_ ?_ ?_
  · rintro L L' a' u i o h ho hno hall hu
    clear hK
    have q0 := (h.fe.ev (j := 0) (by decide)).trans H0
    have q3 := (h.fe.ev (j := 3) (by decide)).trans H3
    have hi : i < 20 := by
      have := (Array.getElem?_eq_some_iff.1 ho).1
      rwa [opsCA_size] at this
    match i, hi with
    | 0, _ =>
      refine og_move (g := none) ho (.tmp 0) (d := some 21) (by kernel_rfl) trivial q0 ?_
      exact h.next hcg hKD ho hall (by decide) (by decide) (by decide) inj hz hu rfl
    | 1, _ =>
      refine og_nil (g := none) ho (.tmp 21) (d := some 22) (by kernel_rfl) trivial (show a'.eval (.tmp 21) = .pointer (some ⟨X, off, none⟩) from h.e 0 (by decide) (dep ho hall 0 (by kernel_rfl)) _ rfl) ?_
      exact h.next hcg hKD ho hall (by decide) (by decide) (by decide) inj hz hu rfl
    | 2, _ =>
      obtain ⟨h1, h2, h3⟩ := flds (d := some 23) (p := Op.fieldAddr 31 (.tmp 22) 1) (g := none) ho (by kernel_rfl)
      have g0 := (show a'.eval (.tmp 22) = .pointer (some ⟨X, off, none⟩) from h.e 1 (by decide) (dep ho hall 1 (by kernel_rfl)) _ rfl)
      refine og_plain ho h3 trivial ?_
      unfold Oper.wp
      simp only [execOp, h2, g0]
      go_simp
      exact h.next hcg hKD ho hall (by decide) (by decide) (by decide) inj hz hu rfl
    | 3, _ =>
      have hn : ¬ L 14 := fun hl => hno (anc_spec h.dc 60 14 3 (by kernel_rfl) hl)
      have c0 := ((h.w.1 hn).cell (p := ⟨X, off + 1, none⟩) hX).trans hx1
      obtain ⟨h1, h2, h3⟩ := flds (d := some 24) (p := Op.load 27 (.tmp 23)) (g := none) ho (by kernel_rfl)
      have g0 := (show a'.eval (.tmp 23) = .pointer (some ⟨X, off + 1, none⟩) from h.e 2 (by decide) (dep ho hall 2 (by kernel_rfl)) _ rfl)
      refine og_plain ho h3 trivial ?_
      unfold Oper.wp
      simp only [execOp, h2, g0]
      go_simp
      exact h.next hcg hKD ho hall (by decide) (by decide) (by decide) inj hz hu rfl
    | 4, _ =>
      obtain ⟨h1, h2, h3⟩ := flds (d := some 25) (p := Op.fieldAddr 36 (.tmp 3) 7) (g := none) ho (by kernel_rfl)
      have g0 := q3
      refine og_plain ho h3 trivial ?_
      unfold Oper.wp
      simp only [execOp, h2, g0]
      go_simp
      exact h.next hcg hKD ho hall (by decide) (by decide) (by decide) inj hz hu rfl
    | 5, _ =>
      have hn : ¬ L 14 := fun hl => hno (anc_spec h.dc 60 14 5 (by kernel_rfl) hl)
      have c0 := ((h.w.1 hn).cell (p := ⟨B, 7, none⟩) hB).trans hb7
      obtain ⟨h1, h2, h3⟩ := flds (d := some 26) (p := Op.load 24 (.tmp 25)) (g := none) ho (by kernel_rfl)
      have g0 := (show a'.eval (.tmp 25) = .pointer (some ⟨B, 7, none⟩) from h.e 4 (by decide) (dep ho hall 4 (by kernel_rfl)) _ rfl)
      refine og_plain ho h3 trivial ?_
      unfold Oper.wp
      simp only [execOp, h2, g0]
      go_simp
      exact h.next hcg hKD ho hall (by decide) (by decide) (by decide) inj hz hu rfl
    | 6, _ =>
      obtain ⟨h1, h2, h3⟩ := flds (d := some 27) (p := Op.fieldAddr 36 (.tmp 3) 3) (g := none) ho (by kernel_rfl)
      have g0 := q3
      refine og_plain ho h3 trivial ?_
      unfold Oper.wp
      simp only [execOp, h2, g0]
      go_simp
      exact h.next hcg hKD ho hall (by decide) (by decide) (by decide) inj hz hu rfl
    | 7, _ =>
      have hn : ¬ L 14 := fun hl => hno (anc_spec h.dc 60 14 7 (by kernel_rfl) hl)
      have c0 := ((h.w.1 hn).cell (p := ⟨B, 3, none⟩) hB).trans hb3
      obtain ⟨h1, h2, h3⟩ := flds (d := some 28) (p := Op.load 3 (.tmp 27)) (g := none) ho (by kernel_rfl)
      have g0 := (show a'.eval (.tmp 27) = .pointer (some ⟨B, 3, none⟩) from h.e 6 (by decide) (dep ho hall 6 (by kernel_rfl)) _ rfl)
      refine og_plain ho h3 trivial ?_
      unfold Oper.wp
      simp only [execOp, h2, g0]
      go_simp
      exact h.next hcg hKD ho hall (by decide) (by decide) (by decide) inj hz hu rfl
    | 8, _ =>
      obtain ⟨h1, h2, h3⟩ := flds (d := some 29) (p := Op.fieldAddr 36 (.tmp 3) 4) (g := none) ho (by kernel_rfl)
      have g0 := q3
      refine og_plain ho h3 trivial ?_
      unfold Oper.wp
      simp only [execOp, h2, g0]
      go_simp
      exact h.next hcg hKD ho hall (by decide) (by decide) (by decide) inj hz hu rfl
    | 9, _ =>
      have hn : ¬ L 14 := fun hl => hno (anc_spec h.dc 60 14 9 (by kernel_rfl) hl)
      have c0 := ((h.w.1 hn).cell (p := ⟨B, 4, none⟩) hB).trans hb4
      obtain ⟨h1, h2, h3⟩ := flds (d := some 30) (p := Op.load 3 (.tmp 29)) (g := none) ho (by kernel_rfl)
      have g0 := (show a'.eval (.tmp 29) = .pointer (some ⟨B, 4, none⟩) from h.e 8 (by decide) (dep ho hall 8 (by kernel_rfl)) _ rfl)
      refine og_plain ho h3 trivial ?_
      unfold Oper.wp
      simp only [execOp, h2, g0]
      go_simp
      exact h.next hcg hKD ho hall (by decide) (by decide) (by decide) inj hz hu rfl
    | 10, _ =>
      obtain ⟨h1, h2, h3⟩ := flds (d := some 31) (p := Op.fieldAddr 36 (.tmp 3) 5) (g := none) ho (by kernel_rfl)
      have g0 := q3
      refine og_plain ho h3 trivial ?_
      unfold Oper.wp
      simp only [execOp, h2, g0]
      go_simp
      exact h.next hcg hKD ho hall (by decide) (by decide) (by decide) inj hz hu rfl
    | 11, _ =>
      have hn : ¬ L 14 := fun hl => hno (anc_spec h.dc 60 14 11 (by kernel_rfl) hl)
      have c0 := ((h.w.1 hn).cell (p := ⟨B, 5, none⟩) hB).trans hb5
      obtain ⟨h1, h2, h3⟩ := flds (d := some 32) (p := Op.load 3 (.tmp 31)) (g := none) ho (by kernel_rfl)
      have g0 := (show a'.eval (.tmp 31) = .pointer (some ⟨B, 5, none⟩) from h.e 10 (by decide) (dep ho hall 10 (by kernel_rfl)) _ rfl)
      refine og_plain ho h3 trivial ?_
      unfold Oper.wp
      simp only [execOp, h2, g0]
      go_simp
      exact h.next hcg hKD ho hall (by decide) (by decide) (by decide) inj hz hu rfl
    | 12, _ =>
      obtain ⟨h1, h2, h3⟩ := flds (d := some 33) (p := Op.fieldAddr 36 (.tmp 3) 6) (g := none) ho (by kernel_rfl)
      have g0 := q3
      refine og_plain ho h3 trivial ?_
      unfold Oper.wp
      simp only [execOp, h2, g0]
      go_simp
      exact h.next hcg hKD ho hall (by decide) (by decide) (by decide) inj hz hu rfl
    | 13, _ =>
      have hn : ¬ L 14 := fun hl => hno (anc_spec h.dc 60 14 13 (by kernel_rfl) hl)
      have c0 := ((h.w.1 hn).cell (p := ⟨B, 6, none⟩) hB).trans hb6
      obtain ⟨h1, h2, h3⟩ := flds (d := some 34) (p := Op.load 9 (.tmp 33)) (g := none) ho (by kernel_rfl)
      have g0 := (show a'.eval (.tmp 33) = .pointer (some ⟨B, 6, none⟩) from h.e 12 (by decide) (dep ho hall 12 (by kernel_rfl)) _ rfl)
      refine og_plain ho h3 trivial ?_
      unfold Oper.wp
      simp only [execOp, h2, g0]
      go_simp
      exact h.next hcg hKD ho hall (by decide) (by decide) (by decide) inj hz hu rfl
    | 14, _ =>
      refine og_calls (g := none) ho 32 #[.tmp 24, .tmp 26, .tmp 28, .tmp 30, .tmp 32, .tmp 34] #[27, 24, 3, 3, 3, 9] (d := some 35) (by kernel_rfl) trivial Try.func32 rfl (by kernel_rfl) (vs := #[.pointer (some ⟨q, 0, none⟩), .slice av n c, .int .i64 f, .int .i64 t, .int .i64 cc, .string s]) (by simp only [List.map_toArray, List.map_cons, List.map_nil]; rw [(show a'.eval (.tmp 24) = .pointer (some ⟨q, 0, none⟩) from h.e 3 (by decide) (dep ho hall 3 (by kernel_rfl)) _ rfl), (show a'.eval (.tmp 26) = .slice av n c from h.e 5 (by decide) (dep ho hall 5 (by kernel_rfl)) _ rfl), (show a'.eval (.tmp 28) = .int .i64 f from h.e 7 (by decide) (dep ho hall 7 (by kernel_rfl)) _ rfl), (show a'.eval (.tmp 30) = .int .i64 t from h.e 9 (by decide) (dep ho hall 9 (by kernel_rfl)) _ rfl), (show a'.eval (.tmp 32) = .int .i64 cc from h.e 11 (by decide) (dep ho hall 11 (by kernel_rfl)) _ rfl), (show a'.eval (.tmp 34) = .string s from h.e 13 (by decide) (dep ho hall 13 (by kernel_rfl)) _ rfl)]) (hC u (h.w.1 hno)) ?_
      rintro e w' ⟨rfl, q3⟩
      refine ⟨_, rfl, h.put ho hall (by decide) inj hz hu (fun v' hv' => by injection hv') (fun val h1 h2 => ?_)⟩
      exact ⟨fun hn => absurd ((hu 14).2 (.inl rfl)) hn, fun _ => q3⟩
    | 15, _ =>
      refine og_move (g := none) ho (.tmp 35) (d := some 20) (by kernel_rfl) trivial (show a'.eval (.tmp 35) = .tuple #[.int .i64 id, .int .i64 er] from h.e 14 (by decide) (dep ho hall 14 (by kernel_rfl)) _ rfl) ?_
      exact h.next hcg hKD ho hall (by decide) (by decide) (by decide) inj hz hu rfl
    | 16, _ =>
      obtain ⟨h1, h2, h3⟩ := flds (d := some 36) (p := Op.extract (.tmp 20) 0) (g := none) ho (by kernel_rfl)
      have g0 := (show a'.eval (.tmp 20) = .tuple #[.int .i64 id, .int .i64 er] from h.e 15 (by decide) (dep ho hall 15 (by kernel_rfl)) _ rfl)
      refine og_plain ho h3 trivial ?_
      unfold Oper.wp
      simp only [execOp, h2, g0]
      go_simp
      exact h.next hcg hKD ho hall (by decide) (by decide) (by decide) inj hz hu rfl
    | 17, _ =>
      obtain ⟨h1, h2, h3⟩ := flds (d := some 37) (p := Op.extract (.tmp 20) 1) (g := none) ho (by kernel_rfl)
      have g0 := (show a'.eval (.tmp 20) = .tuple #[.int .i64 id, .int .i64 er] from h.e 15 (by decide) (dep ho hall 15 (by kernel_rfl)) _ rfl)
      refine og_plain ho h3 trivial ?_
      unfold Oper.wp
      simp only [execOp, h2, g0]
      go_simp
      exact h.next hcg hKD ho hall (by decide) (by decide) (by decide) inj hz hu rfl
    | 18, _ =>
      refine og_assign (g := none) ho (.tmp 36) (d := some 5) (by kernel_rfl) trivial (show a'.eval (.tmp 36) = .int .i64 id from h.e 16 (by decide) (dep ho hall 16 (by kernel_rfl)) _ rfl) ?_
      exact h.next hcg hKD ho hall (by decide) (by decide) (by decide) inj hz hu rfl
    | 19, _ =>
      refine og_assign (g := none) ho (.tmp 37) (d := some 6) (by kernel_rfl) trivial (show a'.eval (.tmp 37) = .int .i64 er from h.e 17 (by decide) (dep ho hall 17 (by kernel_rfl)) _ rfl) ?_
      exact h.next hcg hKD ho hall (by decide) (by decide) (by decide) inj hz hu rfl
    | i + 20, hi => omega
  · rintro L a' u h hall
    rw [opsCA_size] at hall
    rw [h.done hz]
    refine hK L _ u hall h.w (fun j => ?_)
    by_cases hj : j ∈ DCA
    · cases hv : (VCA X off B r q n c g cd av id0 f t cc s id er) j with
      | none => exact .inl rfl
      | some v =>
        refine .inr (.inl ?_)
        have hjN : j < 20 := by
          have hh : DCA.all (fun i => decide (i < 20)) = true := by kernel_rfl
          exact of_decide_eq_true (List.all_eq_true.1 hh j hj)
        rw [h.e j hj (hall j hjN) v hv]
    · exact .inr (.inr hj)
  · intro L hL
    refine JR.start hL ?_
    exact ⟨fun _ => (Below.refl _ _).drew, fun h => absurd h (hL 14)⟩

noncomputable def opsCB : Array Oper := (Try.f13.body.bind (opsAt 5)).getD #[]
theorem opsCB_size : opsCB.size = 23 := by kernel_rfl
theorem opsCB_earlier : Earlier opsCB := by
  have h : (List.range 23).all (fun i => ((opsCB[i]?).map (fun o => o.after.all (fun e => !Region.binds .any e || decide (e.on < i)))).getD true) = true := by kernel_rfl
  intro i o ho e he hb
  have hi : i < 23 := by
    have := (Array.getElem?_eq_some_iff.1 ho).1
    rwa [opsCB_size] at this
  have h1 := List.all_eq_true.1 h i (List.mem_range.2 hi)
  rw [ho] at h1
  simp only [Option.map_some, Option.getD_some, Array.all_eq_true'] at h1
  have h2 := h1 e he
  rw [hb] at h2
  simpa using h2
def slCB (j : Nat) : Nat := ([42, 43, 44, 45, 46, 47, 48, 49, 50, 51, 52, 53, 54, 55, 56, 57, 58, 59, 41, 60, 61, 8, 9] : List Nat).getD j 0
def DCB : List Nat := [0, 1, 2, 3, 4, 5, 6, 7, 8, 9, 10, 11, 12, 13, 14, 15, 16, 17, 18, 19, 20, 21, 22]
def VCB (X off B r q n c g cd : Nat) (av : Option Addr) (id0 f t cc : Int) (s : ByteArray) (id er : Int) (j : Nat) : Option Value := [some (.pointer (some ⟨X, off, none⟩)), some (.pointer (some ⟨X, off, none⟩)), some (.pointer (some ⟨X, off, none⟩)), some (.pointer (some ⟨r, 0, none⟩)), some (.slice (some ⟨g, 0, none⟩) (n + 2) cd), some (.pointer (some ⟨B, 7, none⟩)), some (.slice av n c), some (.int .i64 (n : Int)), some (.slice (some ⟨g, 0, none⟩) n cd), some (.pointer (some ⟨B, 3, none⟩)), some (.int .i64 f), some (.pointer (some ⟨B, 4, none⟩)), some (.int .i64 t), some (.pointer (some ⟨B, 5, none⟩)), some (.int .i64 cc), some (.pointer (some ⟨B, 6, none⟩)), some (.string s), some (.tuple #[.int .i64 id, .int .i64 er]), some (.tuple #[.int .i64 id, .int .i64 er]), some (.int .i64 id), some (.int .i64 er), some (.int .i64 id), some (.int .i64 er)].getD j none
set_option maxRecDepth 100000 in
set_option maxHeartbeats 4000000 in
theorem regCB (a0 : Act) (w : World) {Q : Exit → Act → World → Prop} (X off B r q n c g cd : Nat) (av : Option Addr) (id0 f t cc : Int) (s : ByteArray) (id er : Int) (R : World → Prop) (hX : X < w.heap.size) (hB : B < w.heap.size) (hb3 : w.cell? ⟨B, 3, none⟩ = some (.int .i64 f)) (hb4 : w.cell? ⟨B, 4, none⟩ = some (.int .i64 t)) (hb5 : w.cell? ⟨B, 5, none⟩ = some (.int .i64 cc)) (hb6 : w.cell? ⟨B, 6, none⟩ = some (.string s)) (hb7 : w.cell? ⟨B, 7, none⟩ = some (.slice av n c)) (hx0 : w.cell? ⟨X, off, none⟩ = some (.pointer (some ⟨r, 0, none⟩))) (hcd : n + 2 ≤ cd) (hcd2 : cd ≤ 9223372036854775807) (hC : ∀ W, Below w.heap.size w W → Calls Try.prog 10 #[.pointer (some ⟨r, 0, none⟩), .slice (some ⟨g, 0, none⟩) n cd, .int .i64 f, .int .i64 t, .int .i64 cc, .string s] W fun e w' => e = .returned (.tuple #[.int .i64 id, .int .i64 er]) ∧ R w') (hzz : 61 < a0.tmps.size) (H0 : a0.eval (.tmp 0) = .pointer (some ⟨X, off, none⟩)) (H7 : a0.eval (.tmp 7) = .slice (some ⟨g, 0, none⟩) (n + 2) cd) (H3 : a0.eval (.tmp 3) = .pointer (some ⟨B, 0, none⟩))
    (hK : ∀ (L : Nat → Prop) (val : Nat → Value) (u : World), (∀ i, i < 23 → L i) → WC w 17 R L val u → (∀ j, (VCB X off B r q n c g cd av id0 f t cc s id er) j = none ∨ (VCB X off B r q n c g cd av id0 f t cc s id er) j = some (val j) ∨ j ∉ DCB) → Q .normal (puts a0 (DCB.map fun j => (slCB j, val j))) u) :
    (Code.region 5 opsCB true).wp Try.prog Q a0 w := by
  have inj : ∀ i ∈ DCB, ∀ j ∈ DCB, slCB i = slCB j → i = j := by
    have h : DCB.all (fun i => DCB.all (fun j => decide (slCB i = slCB j → i = j))) = true := by kernel_rfl
    intro i hi j hj he
    exact (of_decide_eq_true (List.all_eq_true.1 (List.all_eq_true.1 h i hi) j hj)) he
  have hz : ∀ j ∈ DCB, slCB j < a0.tmps.size := by
    have h : DCB.all (fun i => decide (slCB i ≤ 61)) = true := by kernel_rfl
    intro j hj
    have := of_decide_eq_true (List.all_eq_true.1 h j hj)
    omega
  have hcg : ∀ (L L' : Nat → Prop) (val val' : Nat → Value) u, (∀ k ∈ ([17] : List Nat), (L' k ↔ L k)) → (∀ k ∈ ([] : List Nat), val' k = val k) → WC w 17 R L val u → WC w 17 R L' val' u := by
    intro L L' val val' u hl hv hw
    simp at hl hv
    unfold WC at hw ⊢
    simp only [hl]
    exact hw
  have hKD : ∀ k ∈ ([] : List Nat), k ∈ DCB := by decide
  refine wp_region_inv (by kernel_rfl) opsCB_earlier (fun L a u => JR opsCB slCB DCB (VCB X off B r q n c g cd av id0 f t cc s id er) a0 (WC w 17 R) L a u) ?_ ?_ ?_
  · rintro L L' a' u i o h ho hno hall hu
    clear hK
    have q0 := (h.fe.ev (j := 0) (by decide)).trans H0
    have q7 := (h.fe.ev (j := 7) (by decide)).trans H7
    have q3 := (h.fe.ev (j := 3) (by decide)).trans H3
    have hi : i < 23 := by
      have := (Array.getElem?_eq_some_iff.1 ho).1
      rwa [opsCB_size] at this
    match i, hi with
    | 0, _ =>
      refine og_move (g := none) ho (.tmp 0) (d := some 42) (by kernel_rfl) trivial q0 ?_
      exact h.next hcg hKD ho hall (by decide) (by decide) (by decide) inj hz hu rfl
    | 1, _ =>
      refine og_nil (g := none) ho (.tmp 42) (d := some 43) (by kernel_rfl) trivial (show a'.eval (.tmp 42) = .pointer (some ⟨X, off, none⟩) from h.e 0 (by decide) (dep ho hall 0 (by kernel_rfl)) _ rfl) ?_
      exact h.next hcg hKD ho hall (by decide) (by decide) (by decide) inj hz hu rfl
    | 2, _ =>
      obtain ⟨h1, h2, h3⟩ := flds (d := some 44) (p := Op.fieldAddr 31 (.tmp 43) 0) (g := none) ho (by kernel_rfl)
      have g0 := (show a'.eval (.tmp 43) = .pointer (some ⟨X, off, none⟩) from h.e 1 (by decide) (dep ho hall 1 (by kernel_rfl)) _ rfl)
      refine og_plain ho h3 trivial ?_
      unfold Oper.wp
      simp only [execOp, h2, g0]
      go_simp
      exact h.next hcg hKD ho hall (by decide) (by decide) (by decide) inj hz hu rfl
    | 3, _ =>
      have hn : ¬ L 17 := fun hl => hno (anc_spec h.dc 60 17 3 (by kernel_rfl) hl)
      have c0 := ((h.w.1 hn).cell (p := ⟨X, off, none⟩) hX).trans hx0
      obtain ⟨h1, h2, h3⟩ := flds (d := some 45) (p := Op.load 23 (.tmp 44)) (g := none) ho (by kernel_rfl)
      have g0 := (show a'.eval (.tmp 44) = .pointer (some ⟨X, off, none⟩) from h.e 2 (by decide) (dep ho hall 2 (by kernel_rfl)) _ rfl)
      refine og_plain ho h3 trivial ?_
      unfold Oper.wp
      simp only [execOp, h2, g0]
      go_simp
      exact h.next hcg hKD ho hall (by decide) (by decide) (by decide) inj hz hu rfl
    | 4, _ =>
      refine og_move (g := none) ho (.tmp 7) (d := some 46) (by kernel_rfl) trivial q7 ?_
      exact h.next hcg hKD ho hall (by decide) (by decide) (by decide) inj hz hu rfl
    | 5, _ =>
      obtain ⟨h1, h2, h3⟩ := flds (d := some 47) (p := Op.fieldAddr 36 (.tmp 3) 7) (g := none) ho (by kernel_rfl)
      have g0 := q3
      refine og_plain ho h3 trivial ?_
      unfold Oper.wp
      simp only [execOp, h2, g0]
      go_simp
      exact h.next hcg hKD ho hall (by decide) (by decide) (by decide) inj hz hu rfl
    | 6, _ =>
      have hn : ¬ L 17 := fun hl => hno (anc_spec h.dc 60 17 6 (by kernel_rfl) hl)
      have c0 := ((h.w.1 hn).cell (p := ⟨B, 7, none⟩) hB).trans hb7
      obtain ⟨h1, h2, h3⟩ := flds (d := some 48) (p := Op.load 24 (.tmp 47)) (g := none) ho (by kernel_rfl)
      have g0 := (show a'.eval (.tmp 47) = .pointer (some ⟨B, 7, none⟩) from h.e 5 (by decide) (dep ho hall 5 (by kernel_rfl)) _ rfl)
      refine og_plain ho h3 trivial ?_
      unfold Oper.wp
      simp only [execOp, h2, g0]
      go_simp
      exact h.next hcg hKD ho hall (by decide) (by decide) (by decide) inj hz hu rfl
    | 7, _ =>
      refine og_len (g := none) ho (.tmp 48) (d := some 49) (by kernel_rfl) trivial (show a'.eval (.tmp 48) = .slice av n c from h.e 6 (by decide) (dep ho hall 6 (by kernel_rfl)) _ rfl) ?_
      exact h.next hcg hKD ho hall (by decide) (by decide) (by decide) inj hz hu rfl
    | 8, _ =>
      have k1 : n ≤ cd := by omega
      have k2 : ¬ cd = 0 := by omega
      have k4 : (n : Int) ≤ (cd : Int) := by omega
      have k5 : (0 : Int) ≤ (n : Int) := by omega
      obtain ⟨h1, h2, h3⟩ := flds (d := some 50) (p := Op.slice 24 (.tmp 46) none (some (.tmp 49)) none) (g := none) ho (by kernel_rfl)
      have g0 := (show a'.eval (.tmp 46) = .slice (some ⟨g, 0, none⟩) (n + 2) cd from h.e 4 (by decide) (dep ho hall 4 (by kernel_rfl)) _ rfl)
      have g1 := (show a'.eval (.tmp 49) = .int .i64 (n : Int) from h.e 7 (by decide) (dep ho hall 7 (by kernel_rfl)) _ rfl)
      have b0 : a'.tmps[46]?.getD undef = .slice (some ⟨g, 0, none⟩) (n + 2) cd := by simpa [Act.eval] using g0
      have b1 : a'.tmps[49]?.getD undef = .int .i64 (n : Int) := by simpa [Act.eval] using g1
      refine og_plain ho h3 trivial ?_
      unfold Oper.wp
      simp only [execOp, h2, g0]
      go_simp
      exact h.next hcg hKD ho hall (by decide) (by decide) (by decide) inj hz hu rfl
    | 9, _ =>
      obtain ⟨h1, h2, h3⟩ := flds (d := some 51) (p := Op.fieldAddr 36 (.tmp 3) 3) (g := none) ho (by kernel_rfl)
      have g0 := q3
      refine og_plain ho h3 trivial ?_
      unfold Oper.wp
      simp only [execOp, h2, g0]
      go_simp
      exact h.next hcg hKD ho hall (by decide) (by decide) (by decide) inj hz hu rfl
    | 10, _ =>
      have hn : ¬ L 17 := fun hl => hno (anc_spec h.dc 60 17 10 (by kernel_rfl) hl)
      have c0 := ((h.w.1 hn).cell (p := ⟨B, 3, none⟩) hB).trans hb3
      obtain ⟨h1, h2, h3⟩ := flds (d := some 52) (p := Op.load 3 (.tmp 51)) (g := none) ho (by kernel_rfl)
      have g0 := (show a'.eval (.tmp 51) = .pointer (some ⟨B, 3, none⟩) from h.e 9 (by decide) (dep ho hall 9 (by kernel_rfl)) _ rfl)
      refine og_plain ho h3 trivial ?_
      unfold Oper.wp
      simp only [execOp, h2, g0]
      go_simp
      exact h.next hcg hKD ho hall (by decide) (by decide) (by decide) inj hz hu rfl
    | 11, _ =>
      obtain ⟨h1, h2, h3⟩ := flds (d := some 53) (p := Op.fieldAddr 36 (.tmp 3) 4) (g := none) ho (by kernel_rfl)
      have g0 := q3
      refine og_plain ho h3 trivial ?_
      unfold Oper.wp
      simp only [execOp, h2, g0]
      go_simp
      exact h.next hcg hKD ho hall (by decide) (by decide) (by decide) inj hz hu rfl
    | 12, _ =>
      have hn : ¬ L 17 := fun hl => hno (anc_spec h.dc 60 17 12 (by kernel_rfl) hl)
      have c0 := ((h.w.1 hn).cell (p := ⟨B, 4, none⟩) hB).trans hb4
      obtain ⟨h1, h2, h3⟩ := flds (d := some 54) (p := Op.load 3 (.tmp 53)) (g := none) ho (by kernel_rfl)
      have g0 := (show a'.eval (.tmp 53) = .pointer (some ⟨B, 4, none⟩) from h.e 11 (by decide) (dep ho hall 11 (by kernel_rfl)) _ rfl)
      refine og_plain ho h3 trivial ?_
      unfold Oper.wp
      simp only [execOp, h2, g0]
      go_simp
      exact h.next hcg hKD ho hall (by decide) (by decide) (by decide) inj hz hu rfl
    | 13, _ =>
      obtain ⟨h1, h2, h3⟩ := flds (d := some 55) (p := Op.fieldAddr 36 (.tmp 3) 5) (g := none) ho (by kernel_rfl)
      have g0 := q3
      refine og_plain ho h3 trivial ?_
      unfold Oper.wp
      simp only [execOp, h2, g0]
      go_simp
      exact h.next hcg hKD ho hall (by decide) (by decide) (by decide) inj hz hu rfl
    | 14, _ =>
      have hn : ¬ L 17 := fun hl => hno (anc_spec h.dc 60 17 14 (by kernel_rfl) hl)
      have c0 := ((h.w.1 hn).cell (p := ⟨B, 5, none⟩) hB).trans hb5
      obtain ⟨h1, h2, h3⟩ := flds (d := some 56) (p := Op.load 3 (.tmp 55)) (g := none) ho (by kernel_rfl)
      have g0 := (show a'.eval (.tmp 55) = .pointer (some ⟨B, 5, none⟩) from h.e 13 (by decide) (dep ho hall 13 (by kernel_rfl)) _ rfl)
      refine og_plain ho h3 trivial ?_
      unfold Oper.wp
      simp only [execOp, h2, g0]
      go_simp
      exact h.next hcg hKD ho hall (by decide) (by decide) (by decide) inj hz hu rfl
    | 15, _ =>
      obtain ⟨h1, h2, h3⟩ := flds (d := some 57) (p := Op.fieldAddr 36 (.tmp 3) 6) (g := none) ho (by kernel_rfl)
      have g0 := q3
      refine og_plain ho h3 trivial ?_
      unfold Oper.wp
      simp only [execOp, h2, g0]
      go_simp
      exact h.next hcg hKD ho hall (by decide) (by decide) (by decide) inj hz hu rfl
    | 16, _ =>
      have hn : ¬ L 17 := fun hl => hno (anc_spec h.dc 60 17 16 (by kernel_rfl) hl)
      have c0 := ((h.w.1 hn).cell (p := ⟨B, 6, none⟩) hB).trans hb6
      obtain ⟨h1, h2, h3⟩ := flds (d := some 58) (p := Op.load 9 (.tmp 57)) (g := none) ho (by kernel_rfl)
      have g0 := (show a'.eval (.tmp 57) = .pointer (some ⟨B, 6, none⟩) from h.e 15 (by decide) (dep ho hall 15 (by kernel_rfl)) _ rfl)
      refine og_plain ho h3 trivial ?_
      unfold Oper.wp
      simp only [execOp, h2, g0]
      go_simp
      exact h.next hcg hKD ho hall (by decide) (by decide) (by decide) inj hz hu rfl
    | 17, _ =>
      refine og_calls (g := none) ho 10 #[.tmp 45, .tmp 50, .tmp 52, .tmp 54, .tmp 56, .tmp 58] #[23, 24, 3, 3, 3, 9] (d := some 59) (by kernel_rfl) trivial Try.func10 rfl (by kernel_rfl) (vs := #[.pointer (some ⟨r, 0, none⟩), .slice (some ⟨g, 0, none⟩) n cd, .int .i64 f, .int .i64 t, .int .i64 cc, .string s]) (by simp only [List.map_toArray, List.map_cons, List.map_nil]; rw [(show a'.eval (.tmp 45) = .pointer (some ⟨r, 0, none⟩) from h.e 3 (by decide) (dep ho hall 3 (by kernel_rfl)) _ rfl), (show a'.eval (.tmp 50) = .slice (some ⟨g, 0, none⟩) n cd from h.e 8 (by decide) (dep ho hall 8 (by kernel_rfl)) _ rfl), (show a'.eval (.tmp 52) = .int .i64 f from h.e 10 (by decide) (dep ho hall 10 (by kernel_rfl)) _ rfl), (show a'.eval (.tmp 54) = .int .i64 t from h.e 12 (by decide) (dep ho hall 12 (by kernel_rfl)) _ rfl), (show a'.eval (.tmp 56) = .int .i64 cc from h.e 14 (by decide) (dep ho hall 14 (by kernel_rfl)) _ rfl), (show a'.eval (.tmp 58) = .string s from h.e 16 (by decide) (dep ho hall 16 (by kernel_rfl)) _ rfl)]) (hC u (h.w.1 hno)) ?_
      rintro e w' ⟨rfl, q3⟩
      refine ⟨_, rfl, h.put ho hall (by decide) inj hz hu (fun v' hv' => by injection hv') (fun val h1 h2 => ?_)⟩
      exact ⟨fun hn => absurd ((hu 17).2 (.inl rfl)) hn, fun _ => q3⟩
    | 18, _ =>
      refine og_move (g := none) ho (.tmp 59) (d := some 41) (by kernel_rfl) trivial (show a'.eval (.tmp 59) = .tuple #[.int .i64 id, .int .i64 er] from h.e 17 (by decide) (dep ho hall 17 (by kernel_rfl)) _ rfl) ?_
      exact h.next hcg hKD ho hall (by decide) (by decide) (by decide) inj hz hu rfl
    | 19, _ =>
      obtain ⟨h1, h2, h3⟩ := flds (d := some 60) (p := Op.extract (.tmp 41) 0) (g := none) ho (by kernel_rfl)
      have g0 := (show a'.eval (.tmp 41) = .tuple #[.int .i64 id, .int .i64 er] from h.e 18 (by decide) (dep ho hall 18 (by kernel_rfl)) _ rfl)
      refine og_plain ho h3 trivial ?_
      unfold Oper.wp
      simp only [execOp, h2, g0]
      go_simp
      exact h.next hcg hKD ho hall (by decide) (by decide) (by decide) inj hz hu rfl
    | 20, _ =>
      obtain ⟨h1, h2, h3⟩ := flds (d := some 61) (p := Op.extract (.tmp 41) 1) (g := none) ho (by kernel_rfl)
      have g0 := (show a'.eval (.tmp 41) = .tuple #[.int .i64 id, .int .i64 er] from h.e 18 (by decide) (dep ho hall 18 (by kernel_rfl)) _ rfl)
      refine og_plain ho h3 trivial ?_
      unfold Oper.wp
      simp only [execOp, h2, g0]
      go_simp
      exact h.next hcg hKD ho hall (by decide) (by decide) (by decide) inj hz hu rfl
    | 21, _ =>
      refine og_assign (g := none) ho (.tmp 60) (d := some 8) (by kernel_rfl) trivial (show a'.eval (.tmp 60) = .int .i64 id from h.e 19 (by decide) (dep ho hall 19 (by kernel_rfl)) _ rfl) ?_
      exact h.next hcg hKD ho hall (by decide) (by decide) (by decide) inj hz hu rfl
    | 22, _ =>
      refine og_assign (g := none) ho (.tmp 61) (d := some 9) (by kernel_rfl) trivial (show a'.eval (.tmp 61) = .int .i64 er from h.e 20 (by decide) (dep ho hall 20 (by kernel_rfl)) _ rfl) ?_
      exact h.next hcg hKD ho hall (by decide) (by decide) (by decide) inj hz hu rfl
    | i + 23, hi => omega
  · rintro L a' u h hall
    rw [opsCB_size] at hall
    rw [h.done hz]
    refine hK L _ u hall h.w (fun j => ?_)
    by_cases hj : j ∈ DCB
    · cases hv : (VCB X off B r q n c g cd av id0 f t cc s id er) j with
      | none => exact .inl rfl
      | some v =>
        refine .inr (.inl ?_)
        have hjN : j < 23 := by
          have hh : DCB.all (fun i => decide (i < 23)) = true := by kernel_rfl
          exact of_decide_eq_true (List.all_eq_true.1 hh j hj)
        rw [h.e j hj (hall j hjN) v hv]
    · exact .inr (.inr hj)
  · intro L hL
    refine JR.start hL ?_
    exact ⟨fun _ => (Below.refl _ _).drew, fun h => absurd h (hL 17)⟩

noncomputable def opsCC : Array Oper := (Try.f13.body.bind (opsAt 8)).getD #[]
theorem opsCC_size : opsCC.size = 12 := by kernel_rfl
theorem opsCC_earlier : Earlier opsCC := by
  have h : (List.range 12).all (fun i => ((opsCC[i]?).map (fun o => o.after.all (fun e => !Region.binds .any e || decide (e.on < i)))).getD true) = true := by kernel_rfl
  intro i o ho e he hb
  have hi : i < 12 := by
    have := (Array.getElem?_eq_some_iff.1 ho).1
    rwa [opsCC_size] at this
  have h1 := List.all_eq_true.1 h i (List.mem_range.2 hi)
  rw [ho] at h1
  simp only [Option.map_some, Option.getD_some, Array.all_eq_true'] at h1
  have h2 := h1 e he
  rw [hb] at h2
  simpa using h2
def slCC (j : Nat) : Nat := ([78, 79, 80, 81, 82, 83, 84, 85, 86, 87, 88, 10] : List Nat).getD j 0
def DCC : List Nat := [0, 1, 2, 3, 4, 5, 6, 7, 8, 9, 10, 11]
def VCC (X off B r q n c g cd : Nat) (av : Option Addr) (id0 f t cc : Int) (s : ByteArray) (id er : Int) (j : Nat) : Option Value := [some (.pointer (some ⟨X, off, none⟩)), some (.pointer (some ⟨X, off, none⟩)), some (.pointer (some ⟨X, off + 1, none⟩)), some (.pointer (some ⟨q, 0, none⟩)), some (.pointer (some ⟨B, 2, none⟩)), some (.int .i64 id0), some (.pointer (some ⟨B, 5, none⟩)), some (.int .i64 cc), some (.pointer (some ⟨B, 6, none⟩)), some (.string s), some (.int .i64 er), some (.int .i64 er)].getD j none
set_option maxRecDepth 100000 in
set_option maxHeartbeats 4000000 in
theorem regCC (a0 : Act) (w : World) {Q : Exit → Act → World → Prop} (X off B r q n c g cd : Nat) (av : Option Addr) (id0 f t cc : Int) (s : ByteArray) (id er : Int) (R : World → Prop) (hX : X < w.heap.size) (hB : B < w.heap.size) (hb2 : w.cell? ⟨B, 2, none⟩ = some (.int .i64 id0)) (hb5 : w.cell? ⟨B, 5, none⟩ = some (.int .i64 cc)) (hb6 : w.cell? ⟨B, 6, none⟩ = some (.string s)) (hx1 : w.cell? ⟨X, off + 1, none⟩ = some (.pointer (some ⟨q, 0, none⟩))) (hC : ∀ W, Below w.heap.size w W → Calls Try.prog 33 #[.pointer (some ⟨q, 0, none⟩), .int .i64 id0, .int .i64 cc, .string s] W fun e w' => e = .returned (.int .i64 er) ∧ R w') (hzz : 88 < a0.tmps.size) (H0 : a0.eval (.tmp 0) = .pointer (some ⟨X, off, none⟩)) (H3 : a0.eval (.tmp 3) = .pointer (some ⟨B, 0, none⟩))
    (hK : ∀ (L : Nat → Prop) (val : Nat → Value) (u : World), (∀ i, i < 12 → L i) → WC w 10 R L val u → (∀ j, (VCC X off B r q n c g cd av id0 f t cc s id er) j = none ∨ (VCC X off B r q n c g cd av id0 f t cc s id er) j = some (val j) ∨ j ∉ DCC) → Q .normal (puts a0 (DCC.map fun j => (slCC j, val j))) u) :
    (Code.region 8 opsCC true).wp Try.prog Q a0 w := by
  have inj : ∀ i ∈ DCC, ∀ j ∈ DCC, slCC i = slCC j → i = j := by
    have h : DCC.all (fun i => DCC.all (fun j => decide (slCC i = slCC j → i = j))) = true := by kernel_rfl
    intro i hi j hj he
    exact (of_decide_eq_true (List.all_eq_true.1 (List.all_eq_true.1 h i hi) j hj)) he
  have hz : ∀ j ∈ DCC, slCC j < a0.tmps.size := by
    have h : DCC.all (fun i => decide (slCC i ≤ 88)) = true := by kernel_rfl
    intro j hj
    have := of_decide_eq_true (List.all_eq_true.1 h j hj)
    omega
  have hcg : ∀ (L L' : Nat → Prop) (val val' : Nat → Value) u, (∀ k ∈ ([10] : List Nat), (L' k ↔ L k)) → (∀ k ∈ ([] : List Nat), val' k = val k) → WC w 10 R L val u → WC w 10 R L' val' u := by
    intro L L' val val' u hl hv hw
    simp at hl hv
    unfold WC at hw ⊢
    simp only [hl]
    exact hw
  have hKD : ∀ k ∈ ([] : List Nat), k ∈ DCC := by decide
  refine wp_region_inv (by kernel_rfl) opsCC_earlier (fun L a u => JR opsCC slCC DCC (VCC X off B r q n c g cd av id0 f t cc s id er) a0 (WC w 10 R) L a u) ?_ ?_ ?_
  · rintro L L' a' u i o h ho hno hall hu
    clear hK
    have q0 := (h.fe.ev (j := 0) (by decide)).trans H0
    have q3 := (h.fe.ev (j := 3) (by decide)).trans H3
    have hi : i < 12 := by
      have := (Array.getElem?_eq_some_iff.1 ho).1
      rwa [opsCC_size] at this
    match i, hi with
    | 0, _ =>
      refine og_move (g := none) ho (.tmp 0) (d := some 78) (by kernel_rfl) trivial q0 ?_
      exact h.next hcg hKD ho hall (by decide) (by decide) (by decide) inj hz hu rfl
    | 1, _ =>
      refine og_nil (g := none) ho (.tmp 78) (d := some 79) (by kernel_rfl) trivial (show a'.eval (.tmp 78) = .pointer (some ⟨X, off, none⟩) from h.e 0 (by decide) (dep ho hall 0 (by kernel_rfl)) _ rfl) ?_
      exact h.next hcg hKD ho hall (by decide) (by decide) (by decide) inj hz hu rfl
    | 2, _ =>
      obtain ⟨h1, h2, h3⟩ := flds (d := some 80) (p := Op.fieldAddr 31 (.tmp 79) 1) (g := none) ho (by kernel_rfl)
      have g0 := (show a'.eval (.tmp 79) = .pointer (some ⟨X, off, none⟩) from h.e 1 (by decide) (dep ho hall 1 (by kernel_rfl)) _ rfl)
      refine og_plain ho h3 trivial ?_
      unfold Oper.wp
      simp only [execOp, h2, g0]
      go_simp
      exact h.next hcg hKD ho hall (by decide) (by decide) (by decide) inj hz hu rfl
    | 3, _ =>
      have hn : ¬ L 10 := fun hl => hno (anc_spec h.dc 60 10 3 (by kernel_rfl) hl)
      have c0 := ((h.w.1 hn).cell (p := ⟨X, off + 1, none⟩) hX).trans hx1
      obtain ⟨h1, h2, h3⟩ := flds (d := some 81) (p := Op.load 27 (.tmp 80)) (g := none) ho (by kernel_rfl)
      have g0 := (show a'.eval (.tmp 80) = .pointer (some ⟨X, off + 1, none⟩) from h.e 2 (by decide) (dep ho hall 2 (by kernel_rfl)) _ rfl)
      refine og_plain ho h3 trivial ?_
      unfold Oper.wp
      simp only [execOp, h2, g0]
      go_simp
      exact h.next hcg hKD ho hall (by decide) (by decide) (by decide) inj hz hu rfl
    | 4, _ =>
      obtain ⟨h1, h2, h3⟩ := flds (d := some 82) (p := Op.fieldAddr 36 (.tmp 3) 2) (g := none) ho (by kernel_rfl)
      have g0 := q3
      refine og_plain ho h3 trivial ?_
      unfold Oper.wp
      simp only [execOp, h2, g0]
      go_simp
      exact h.next hcg hKD ho hall (by decide) (by decide) (by decide) inj hz hu rfl
    | 5, _ =>
      have hn : ¬ L 10 := fun hl => hno (anc_spec h.dc 60 10 5 (by kernel_rfl) hl)
      have c0 := ((h.w.1 hn).cell (p := ⟨B, 2, none⟩) hB).trans hb2
      obtain ⟨h1, h2, h3⟩ := flds (d := some 83) (p := Op.load 3 (.tmp 82)) (g := none) ho (by kernel_rfl)
      have g0 := (show a'.eval (.tmp 82) = .pointer (some ⟨B, 2, none⟩) from h.e 4 (by decide) (dep ho hall 4 (by kernel_rfl)) _ rfl)
      refine og_plain ho h3 trivial ?_
      unfold Oper.wp
      simp only [execOp, h2, g0]
      go_simp
      exact h.next hcg hKD ho hall (by decide) (by decide) (by decide) inj hz hu rfl
    | 6, _ =>
      obtain ⟨h1, h2, h3⟩ := flds (d := some 84) (p := Op.fieldAddr 36 (.tmp 3) 5) (g := none) ho (by kernel_rfl)
      have g0 := q3
      refine og_plain ho h3 trivial ?_
      unfold Oper.wp
      simp only [execOp, h2, g0]
      go_simp
      exact h.next hcg hKD ho hall (by decide) (by decide) (by decide) inj hz hu rfl
    | 7, _ =>
      have hn : ¬ L 10 := fun hl => hno (anc_spec h.dc 60 10 7 (by kernel_rfl) hl)
      have c0 := ((h.w.1 hn).cell (p := ⟨B, 5, none⟩) hB).trans hb5
      obtain ⟨h1, h2, h3⟩ := flds (d := some 85) (p := Op.load 3 (.tmp 84)) (g := none) ho (by kernel_rfl)
      have g0 := (show a'.eval (.tmp 84) = .pointer (some ⟨B, 5, none⟩) from h.e 6 (by decide) (dep ho hall 6 (by kernel_rfl)) _ rfl)
      refine og_plain ho h3 trivial ?_
      unfold Oper.wp
      simp only [execOp, h2, g0]
      go_simp
      exact h.next hcg hKD ho hall (by decide) (by decide) (by decide) inj hz hu rfl
    | 8, _ =>
      obtain ⟨h1, h2, h3⟩ := flds (d := some 86) (p := Op.fieldAddr 36 (.tmp 3) 6) (g := none) ho (by kernel_rfl)
      have g0 := q3
      refine og_plain ho h3 trivial ?_
      unfold Oper.wp
      simp only [execOp, h2, g0]
      go_simp
      exact h.next hcg hKD ho hall (by decide) (by decide) (by decide) inj hz hu rfl
    | 9, _ =>
      have hn : ¬ L 10 := fun hl => hno (anc_spec h.dc 60 10 9 (by kernel_rfl) hl)
      have c0 := ((h.w.1 hn).cell (p := ⟨B, 6, none⟩) hB).trans hb6
      obtain ⟨h1, h2, h3⟩ := flds (d := some 87) (p := Op.load 9 (.tmp 86)) (g := none) ho (by kernel_rfl)
      have g0 := (show a'.eval (.tmp 86) = .pointer (some ⟨B, 6, none⟩) from h.e 8 (by decide) (dep ho hall 8 (by kernel_rfl)) _ rfl)
      refine og_plain ho h3 trivial ?_
      unfold Oper.wp
      simp only [execOp, h2, g0]
      go_simp
      exact h.next hcg hKD ho hall (by decide) (by decide) (by decide) inj hz hu rfl
    | 10, _ =>
      refine og_calls (g := none) ho 33 #[.tmp 81, .tmp 83, .tmp 85, .tmp 87] #[27, 3, 3, 9] (d := some 88) (by kernel_rfl) trivial Try.func33 rfl (by kernel_rfl) (vs := #[.pointer (some ⟨q, 0, none⟩), .int .i64 id0, .int .i64 cc, .string s]) (by simp only [List.map_toArray, List.map_cons, List.map_nil]; rw [(show a'.eval (.tmp 81) = .pointer (some ⟨q, 0, none⟩) from h.e 3 (by decide) (dep ho hall 3 (by kernel_rfl)) _ rfl), (show a'.eval (.tmp 83) = .int .i64 id0 from h.e 5 (by decide) (dep ho hall 5 (by kernel_rfl)) _ rfl), (show a'.eval (.tmp 85) = .int .i64 cc from h.e 7 (by decide) (dep ho hall 7 (by kernel_rfl)) _ rfl), (show a'.eval (.tmp 87) = .string s from h.e 9 (by decide) (dep ho hall 9 (by kernel_rfl)) _ rfl)]) (hC u (h.w.1 hno)) ?_
      rintro e w' ⟨rfl, q3⟩
      refine ⟨_, rfl, h.put ho hall (by decide) inj hz hu (fun v' hv' => by injection hv') (fun val h1 h2 => ?_)⟩
      exact ⟨fun hn => absurd ((hu 10).2 (.inl rfl)) hn, fun _ => q3⟩
    | 11, _ =>
      refine og_assign (g := none) ho (.tmp 88) (d := some 10) (by kernel_rfl) trivial (show a'.eval (.tmp 88) = .int .i64 er from h.e 10 (by decide) (dep ho hall 10 (by kernel_rfl)) _ rfl) ?_
      exact h.next hcg hKD ho hall (by decide) (by decide) (by decide) inj hz hu rfl
    | i + 12, hi => omega
  · rintro L a' u h hall
    rw [opsCC_size] at hall
    rw [h.done hz]
    refine hK L _ u hall h.w (fun j => ?_)
    by_cases hj : j ∈ DCC
    · cases hv : (VCC X off B r q n c g cd av id0 f t cc s id er) j with
      | none => exact .inl rfl
      | some v =>
        refine .inr (.inl ?_)
        have hjN : j < 12 := by
          have hh : DCC.all (fun i => decide (i < 12)) = true := by kernel_rfl
          exact of_decide_eq_true (List.all_eq_true.1 hh j hj)
        rw [h.e j hj (hall j hjN) v hv]
    · exact .inr (.inr hj)
  · intro L hL
    refine JR.start hL ?_
    exact ⟨fun _ => (Below.refl _ _).drew, fun h => absurd h (hL 10)⟩

noncomputable def opsCD : Array Oper := (Try.f13.body.bind (opsAt 9)).getD #[]
theorem opsCD_size : opsCD.size = 12 := by kernel_rfl
theorem opsCD_earlier : Earlier opsCD := by
  have h : (List.range 12).all (fun i => ((opsCD[i]?).map (fun o => o.after.all (fun e => !Region.binds .any e || decide (e.on < i)))).getD true) = true := by kernel_rfl
  intro i o ho e he hb
  have hi : i < 12 := by
    have := (Array.getElem?_eq_some_iff.1 ho).1
    rwa [opsCD_size] at this
  have h1 := List.all_eq_true.1 h i (List.mem_range.2 hi)
  rw [ho] at h1
  simp only [Option.map_some, Option.getD_some, Array.all_eq_true'] at h1
  have h2 := h1 e he
  rw [hb] at h2
  simpa using h2
def slCD (j : Nat) : Nat := ([89, 90, 91, 92, 93, 94, 95, 96, 97, 98, 99, 11] : List Nat).getD j 0
def DCD : List Nat := [0, 1, 2, 3, 4, 5, 6, 7, 8, 9, 10, 11]
def VCD (X off B r q n c g cd : Nat) (av : Option Addr) (id0 f t cc : Int) (s : ByteArray) (id er : Int) (j : Nat) : Option Value := [some (.pointer (some ⟨X, off, none⟩)), some (.pointer (some ⟨X, off, none⟩)), some (.pointer (some ⟨X, off, none⟩)), some (.pointer (some ⟨r, 0, none⟩)), some (.pointer (some ⟨B, 2, none⟩)), some (.int .i64 id0), some (.pointer (some ⟨B, 5, none⟩)), some (.int .i64 cc), some (.pointer (some ⟨B, 6, none⟩)), some (.string s), some (.int .i64 er), some (.int .i64 er)].getD j none
set_option maxRecDepth 100000 in
set_option maxHeartbeats 4000000 in
theorem regCD (a0 : Act) (w : World) {Q : Exit → Act → World → Prop} (X off B r q n c g cd : Nat) (av : Option Addr) (id0 f t cc : Int) (s : ByteArray) (id er : Int) (R : World → Prop) (hX : X < w.heap.size) (hB : B < w.heap.size) (hb2 : w.cell? ⟨B, 2, none⟩ = some (.int .i64 id0)) (hb5 : w.cell? ⟨B, 5, none⟩ = some (.int .i64 cc)) (hb6 : w.cell? ⟨B, 6, none⟩ = some (.string s)) (hx0 : w.cell? ⟨X, off, none⟩ = some (.pointer (some ⟨r, 0, none⟩))) (hC : ∀ W, Below w.heap.size w W → Calls Try.prog 34 #[.pointer (some ⟨r, 0, none⟩), .int .i64 id0, .int .i64 cc, .string s] W fun e w' => e = .returned (.int .i64 er) ∧ R w') (hzz : 99 < a0.tmps.size) (H0 : a0.eval (.tmp 0) = .pointer (some ⟨X, off, none⟩)) (H3 : a0.eval (.tmp 3) = .pointer (some ⟨B, 0, none⟩))
    (hK : ∀ (L : Nat → Prop) (val : Nat → Value) (u : World), (∀ i, i < 12 → L i) → WC w 10 R L val u → (∀ j, (VCD X off B r q n c g cd av id0 f t cc s id er) j = none ∨ (VCD X off B r q n c g cd av id0 f t cc s id er) j = some (val j) ∨ j ∉ DCD) → Q .normal (puts a0 (DCD.map fun j => (slCD j, val j))) u) :
    (Code.region 9 opsCD true).wp Try.prog Q a0 w := by
  have inj : ∀ i ∈ DCD, ∀ j ∈ DCD, slCD i = slCD j → i = j := by
    have h : DCD.all (fun i => DCD.all (fun j => decide (slCD i = slCD j → i = j))) = true := by kernel_rfl
    intro i hi j hj he
    exact (of_decide_eq_true (List.all_eq_true.1 (List.all_eq_true.1 h i hi) j hj)) he
  have hz : ∀ j ∈ DCD, slCD j < a0.tmps.size := by
    have h : DCD.all (fun i => decide (slCD i ≤ 99)) = true := by kernel_rfl
    intro j hj
    have := of_decide_eq_true (List.all_eq_true.1 h j hj)
    omega
  have hcg : ∀ (L L' : Nat → Prop) (val val' : Nat → Value) u, (∀ k ∈ ([10] : List Nat), (L' k ↔ L k)) → (∀ k ∈ ([] : List Nat), val' k = val k) → WC w 10 R L val u → WC w 10 R L' val' u := by
    intro L L' val val' u hl hv hw
    simp at hl hv
    unfold WC at hw ⊢
    simp only [hl]
    exact hw
  have hKD : ∀ k ∈ ([] : List Nat), k ∈ DCD := by decide
  refine wp_region_inv (by kernel_rfl) opsCD_earlier (fun L a u => JR opsCD slCD DCD (VCD X off B r q n c g cd av id0 f t cc s id er) a0 (WC w 10 R) L a u) ?_ ?_ ?_
  · rintro L L' a' u i o h ho hno hall hu
    clear hK
    have q0 := (h.fe.ev (j := 0) (by decide)).trans H0
    have q3 := (h.fe.ev (j := 3) (by decide)).trans H3
    have hi : i < 12 := by
      have := (Array.getElem?_eq_some_iff.1 ho).1
      rwa [opsCD_size] at this
    match i, hi with
    | 0, _ =>
      refine og_move (g := none) ho (.tmp 0) (d := some 89) (by kernel_rfl) trivial q0 ?_
      exact h.next hcg hKD ho hall (by decide) (by decide) (by decide) inj hz hu rfl
    | 1, _ =>
      refine og_nil (g := none) ho (.tmp 89) (d := some 90) (by kernel_rfl) trivial (show a'.eval (.tmp 89) = .pointer (some ⟨X, off, none⟩) from h.e 0 (by decide) (dep ho hall 0 (by kernel_rfl)) _ rfl) ?_
      exact h.next hcg hKD ho hall (by decide) (by decide) (by decide) inj hz hu rfl
    | 2, _ =>
      obtain ⟨h1, h2, h3⟩ := flds (d := some 91) (p := Op.fieldAddr 31 (.tmp 90) 0) (g := none) ho (by kernel_rfl)
      have g0 := (show a'.eval (.tmp 90) = .pointer (some ⟨X, off, none⟩) from h.e 1 (by decide) (dep ho hall 1 (by kernel_rfl)) _ rfl)
      refine og_plain ho h3 trivial ?_
      unfold Oper.wp
      simp only [execOp, h2, g0]
      go_simp
      exact h.next hcg hKD ho hall (by decide) (by decide) (by decide) inj hz hu rfl
    | 3, _ =>
      have hn : ¬ L 10 := fun hl => hno (anc_spec h.dc 60 10 3 (by kernel_rfl) hl)
      have c0 := ((h.w.1 hn).cell (p := ⟨X, off, none⟩) hX).trans hx0
      obtain ⟨h1, h2, h3⟩ := flds (d := some 92) (p := Op.load 23 (.tmp 91)) (g := none) ho (by kernel_rfl)
      have g0 := (show a'.eval (.tmp 91) = .pointer (some ⟨X, off, none⟩) from h.e 2 (by decide) (dep ho hall 2 (by kernel_rfl)) _ rfl)
      refine og_plain ho h3 trivial ?_
      unfold Oper.wp
      simp only [execOp, h2, g0]
      go_simp
      exact h.next hcg hKD ho hall (by decide) (by decide) (by decide) inj hz hu rfl
    | 4, _ =>
      obtain ⟨h1, h2, h3⟩ := flds (d := some 93) (p := Op.fieldAddr 36 (.tmp 3) 2) (g := none) ho (by kernel_rfl)
      have g0 := q3
      refine og_plain ho h3 trivial ?_
      unfold Oper.wp
      simp only [execOp, h2, g0]
      go_simp
      exact h.next hcg hKD ho hall (by decide) (by decide) (by decide) inj hz hu rfl
    | 5, _ =>
      have hn : ¬ L 10 := fun hl => hno (anc_spec h.dc 60 10 5 (by kernel_rfl) hl)
      have c0 := ((h.w.1 hn).cell (p := ⟨B, 2, none⟩) hB).trans hb2
      obtain ⟨h1, h2, h3⟩ := flds (d := some 94) (p := Op.load 3 (.tmp 93)) (g := none) ho (by kernel_rfl)
      have g0 := (show a'.eval (.tmp 93) = .pointer (some ⟨B, 2, none⟩) from h.e 4 (by decide) (dep ho hall 4 (by kernel_rfl)) _ rfl)
      refine og_plain ho h3 trivial ?_
      unfold Oper.wp
      simp only [execOp, h2, g0]
      go_simp
      exact h.next hcg hKD ho hall (by decide) (by decide) (by decide) inj hz hu rfl
    | 6, _ =>
      obtain ⟨h1, h2, h3⟩ := flds (d := some 95) (p := Op.fieldAddr 36 (.tmp 3) 5) (g := none) ho (by kernel_rfl)
      have g0 := q3
      refine og_plain ho h3 trivial ?_
      unfold Oper.wp
      simp only [execOp, h2, g0]
      go_simp
      exact h.next hcg hKD ho hall (by decide) (by decide) (by decide) inj hz hu rfl
    | 7, _ =>
      have hn : ¬ L 10 := fun hl => hno (anc_spec h.dc 60 10 7 (by kernel_rfl) hl)
      have c0 := ((h.w.1 hn).cell (p := ⟨B, 5, none⟩) hB).trans hb5
      obtain ⟨h1, h2, h3⟩ := flds (d := some 96) (p := Op.load 3 (.tmp 95)) (g := none) ho (by kernel_rfl)
      have g0 := (show a'.eval (.tmp 95) = .pointer (some ⟨B, 5, none⟩) from h.e 6 (by decide) (dep ho hall 6 (by kernel_rfl)) _ rfl)
      refine og_plain ho h3 trivial ?_
      unfold Oper.wp
      simp only [execOp, h2, g0]
      go_simp
      exact h.next hcg hKD ho hall (by decide) (by decide) (by decide) inj hz hu rfl
    | 8, _ =>
      obtain ⟨h1, h2, h3⟩ := flds (d := some 97) (p := Op.fieldAddr 36 (.tmp 3) 6) (g := none) ho (by kernel_rfl)
      have g0 := q3
      refine og_plain ho h3 trivial ?_
      unfold Oper.wp
      simp only [execOp, h2, g0]
      go_simp
      exact h.next hcg hKD ho hall (by decide) (by decide) (by decide) inj hz hu rfl
    | 9, _ =>
      have hn : ¬ L 10 := fun hl => hno (anc_spec h.dc 60 10 9 (by kernel_rfl) hl)
      have c0 := ((h.w.1 hn).cell (p := ⟨B, 6, none⟩) hB).trans hb6
      obtain ⟨h1, h2, h3⟩ := flds (d := some 98) (p := Op.load 9 (.tmp 97)) (g := none) ho (by kernel_rfl)
      have g0 := (show a'.eval (.tmp 97) = .pointer (some ⟨B, 6, none⟩) from h.e 8 (by decide) (dep ho hall 8 (by kernel_rfl)) _ rfl)
      refine og_plain ho h3 trivial ?_
      unfold Oper.wp
      simp only [execOp, h2, g0]
      go_simp
      exact h.next hcg hKD ho hall (by decide) (by decide) (by decide) inj hz hu rfl
    | 10, _ =>
      refine og_calls (g := none) ho 34 #[.tmp 92, .tmp 94, .tmp 96, .tmp 98] #[23, 3, 3, 9] (d := some 99) (by kernel_rfl) trivial Try.func34 rfl (by kernel_rfl) (vs := #[.pointer (some ⟨r, 0, none⟩), .int .i64 id0, .int .i64 cc, .string s]) (by simp only [List.map_toArray, List.map_cons, List.map_nil]; rw [(show a'.eval (.tmp 92) = .pointer (some ⟨r, 0, none⟩) from h.e 3 (by decide) (dep ho hall 3 (by kernel_rfl)) _ rfl), (show a'.eval (.tmp 94) = .int .i64 id0 from h.e 5 (by decide) (dep ho hall 5 (by kernel_rfl)) _ rfl), (show a'.eval (.tmp 96) = .int .i64 cc from h.e 7 (by decide) (dep ho hall 7 (by kernel_rfl)) _ rfl), (show a'.eval (.tmp 98) = .string s from h.e 9 (by decide) (dep ho hall 9 (by kernel_rfl)) _ rfl)]) (hC u (h.w.1 hno)) ?_
      rintro e w' ⟨rfl, q3⟩
      refine ⟨_, rfl, h.put ho hall (by decide) inj hz hu (fun v' hv' => by injection hv') (fun val h1 h2 => ?_)⟩
      exact ⟨fun hn => absurd ((hu 10).2 (.inl rfl)) hn, fun _ => q3⟩
    | 11, _ =>
      refine og_assign (g := none) ho (.tmp 99) (d := some 11) (by kernel_rfl) trivial (show a'.eval (.tmp 99) = .int .i64 er from h.e 10 (by decide) (dep ho hall 10 (by kernel_rfl)) _ rfl) ?_
      exact h.next hcg hKD ho hall (by decide) (by decide) (by decide) inj hz hu rfl
    | i + 12, hi => omega
  · rintro L a' u h hall
    rw [opsCD_size] at hall
    rw [h.done hz]
    refine hK L _ u hall h.w (fun j => ?_)
    by_cases hj : j ∈ DCD
    · cases hv : (VCD X off B r q n c g cd av id0 f t cc s id er) j with
      | none => exact .inl rfl
      | some v =>
        refine .inr (.inl ?_)
        have hjN : j < 12 := by
          have hh : DCD.all (fun i => decide (i < 12)) = true := by kernel_rfl
          exact of_decide_eq_true (List.all_eq_true.1 hh j hj)
        rw [h.e j hj (hall j hjN) v hv]
    · exact .inr (.inr hj)
  · intro L hL
    refine JR.start hL ?_
    exact ⟨fun _ => (Below.refl _ _).drew, fun h => absurd h (hL 10)⟩

noncomputable def opsCE : Array Oper := (Try.f13.body.bind (opsAt 12)).getD #[]
theorem opsCE_size : opsCE.size = 8 := by kernel_rfl
theorem opsCE_earlier : Earlier opsCE := by
  have h : (List.range 8).all (fun i => ((opsCE[i]?).map (fun o => o.after.all (fun e => !Region.binds .any e || decide (e.on < i)))).getD true) = true := by kernel_rfl
  intro i o ho e he hb
  have hi : i < 8 := by
    have := (Array.getElem?_eq_some_iff.1 ho).1
    rwa [opsCE_size] at this
  have h1 := List.all_eq_true.1 h i (List.mem_range.2 hi)
  rw [ho] at h1
  simp only [Option.map_some, Option.getD_some, Array.all_eq_true'] at h1
  have h2 := h1 e he
  rw [hb] at h2
  simpa using h2
def slCE (j : Nat) : Nat := ([105, 106, 107, 108, 109, 110, 111, 12] : List Nat).getD j 0
def DCE : List Nat := [0, 1, 2, 3, 4, 5, 6, 7]
def VCE (X off B r q n c g cd : Nat) (av : Option Addr) (id0 f t cc : Int) (s : ByteArray) (id er : Int) (j : Nat) : Option Value := [some (.pointer (some ⟨X, off, none⟩)), some (.pointer (some ⟨X, off, none⟩)), some (.pointer (some ⟨X, off + 1, none⟩)), some (.pointer (some ⟨q, 0, none⟩)), some (.pointer (some ⟨B, 2, none⟩)), some (.int .i64 id0), some (.int .i64 er), some (.int .i64 er)].getD j none
set_option maxRecDepth 100000 in
set_option maxHeartbeats 4000000 in
theorem regCE (a0 : Act) (w : World) {Q : Exit → Act → World → Prop} (X off B r q n c g cd : Nat) (av : Option Addr) (id0 f t cc : Int) (s : ByteArray) (id er : Int) (R : World → Prop) (hX : X < w.heap.size) (hB : B < w.heap.size) (hb2 : w.cell? ⟨B, 2, none⟩ = some (.int .i64 id0)) (hx1 : w.cell? ⟨X, off + 1, none⟩ = some (.pointer (some ⟨q, 0, none⟩))) (hC : ∀ W, Below w.heap.size w W → Calls Try.prog 35 #[.pointer (some ⟨q, 0, none⟩), .int .i64 id0] W fun e w' => e = .returned (.int .i64 er) ∧ R w') (hzz : 111 < a0.tmps.size) (H0 : a0.eval (.tmp 0) = .pointer (some ⟨X, off, none⟩)) (H3 : a0.eval (.tmp 3) = .pointer (some ⟨B, 0, none⟩))
    (hK : ∀ (L : Nat → Prop) (val : Nat → Value) (u : World), (∀ i, i < 8 → L i) → WC w 6 R L val u → (∀ j, (VCE X off B r q n c g cd av id0 f t cc s id er) j = none ∨ (VCE X off B r q n c g cd av id0 f t cc s id er) j = some (val j) ∨ j ∉ DCE) → Q .normal (puts a0 (DCE.map fun j => (slCE j, val j))) u) :
    (Code.region 12 opsCE true).wp Try.prog Q a0 w := by
  have inj : ∀ i ∈ DCE, ∀ j ∈ DCE, slCE i = slCE j → i = j := by
    have h : DCE.all (fun i => DCE.all (fun j => decide (slCE i = slCE j → i = j))) = true := by kernel_rfl
    intro i hi j hj he
    exact (of_decide_eq_true (List.all_eq_true.1 (List.all_eq_true.1 h i hi) j hj)) he
  have hz : ∀ j ∈ DCE, slCE j < a0.tmps.size := by
    have h : DCE.all (fun i => decide (slCE i ≤ 111)) = true := by kernel_rfl
    intro j hj
    have := of_decide_eq_true (List.all_eq_true.1 h j hj)
    omega
  have hcg : ∀ (L L' : Nat → Prop) (val val' : Nat → Value) u, (∀ k ∈ ([6] : List Nat), (L' k ↔ L k)) → (∀ k ∈ ([] : List Nat), val' k = val k) → WC w 6 R L val u → WC w 6 R L' val' u := by
    intro L L' val val' u hl hv hw
    simp at hl hv
    unfold WC at hw ⊢
    simp only [hl]
    exact hw
  have hKD : ∀ k ∈ ([] : List Nat), k ∈ DCE := by decide
  refine wp_region_inv (by kernel_rfl) opsCE_earlier (fun L a u => JR opsCE slCE DCE (VCE X off B r q n c g cd av id0 f t cc s id er) a0 (WC w 6 R) L a u) ?_ ?_ ?_
  · rintro L L' a' u i o h ho hno hall hu
    clear hK
    have q0 := (h.fe.ev (j := 0) (by decide)).trans H0
    have q3 := (h.fe.ev (j := 3) (by decide)).trans H3
    have hi : i < 8 := by
      have := (Array.getElem?_eq_some_iff.1 ho).1
      rwa [opsCE_size] at this
    match i, hi with
    | 0, _ =>
      refine og_move (g := none) ho (.tmp 0) (d := some 105) (by kernel_rfl) trivial q0 ?_
      exact h.next hcg hKD ho hall (by decide) (by decide) (by decide) inj hz hu rfl
    | 1, _ =>
      refine og_nil (g := none) ho (.tmp 105) (d := some 106) (by kernel_rfl) trivial (show a'.eval (.tmp 105) = .pointer (some ⟨X, off, none⟩) from h.e 0 (by decide) (dep ho hall 0 (by kernel_rfl)) _ rfl) ?_
      exact h.next hcg hKD ho hall (by decide) (by decide) (by decide) inj hz hu rfl
    | 2, _ =>
      obtain ⟨h1, h2, h3⟩ := flds (d := some 107) (p := Op.fieldAddr 31 (.tmp 106) 1) (g := none) ho (by kernel_rfl)
      have g0 := (show a'.eval (.tmp 106) = .pointer (some ⟨X, off, none⟩) from h.e 1 (by decide) (dep ho hall 1 (by kernel_rfl)) _ rfl)
      refine og_plain ho h3 trivial ?_
      unfold Oper.wp
      simp only [execOp, h2, g0]
      go_simp
      exact h.next hcg hKD ho hall (by decide) (by decide) (by decide) inj hz hu rfl
    | 3, _ =>
      have hn : ¬ L 6 := fun hl => hno (anc_spec h.dc 60 6 3 (by kernel_rfl) hl)
      have c0 := ((h.w.1 hn).cell (p := ⟨X, off + 1, none⟩) hX).trans hx1
      obtain ⟨h1, h2, h3⟩ := flds (d := some 108) (p := Op.load 27 (.tmp 107)) (g := none) ho (by kernel_rfl)
      have g0 := (show a'.eval (.tmp 107) = .pointer (some ⟨X, off + 1, none⟩) from h.e 2 (by decide) (dep ho hall 2 (by kernel_rfl)) _ rfl)
      refine og_plain ho h3 trivial ?_
      unfold Oper.wp
      simp only [execOp, h2, g0]
      go_simp
      exact h.next hcg hKD ho hall (by decide) (by decide) (by decide) inj hz hu rfl
    | 4, _ =>
      obtain ⟨h1, h2, h3⟩ := flds (d := some 109) (p := Op.fieldAddr 36 (.tmp 3) 2) (g := none) ho (by kernel_rfl)
      have g0 := q3
      refine og_plain ho h3 trivial ?_
      unfold Oper.wp
      simp only [execOp, h2, g0]
      go_simp
      exact h.next hcg hKD ho hall (by decide) (by decide) (by decide) inj hz hu rfl
    | 5, _ =>
      have hn : ¬ L 6 := fun hl => hno (anc_spec h.dc 60 6 5 (by kernel_rfl) hl)
      have c0 := ((h.w.1 hn).cell (p := ⟨B, 2, none⟩) hB).trans hb2
      obtain ⟨h1, h2, h3⟩ := flds (d := some 110) (p := Op.load 3 (.tmp 109)) (g := none) ho (by kernel_rfl)
      have g0 := (show a'.eval (.tmp 109) = .pointer (some ⟨B, 2, none⟩) from h.e 4 (by decide) (dep ho hall 4 (by kernel_rfl)) _ rfl)
      refine og_plain ho h3 trivial ?_
      unfold Oper.wp
      simp only [execOp, h2, g0]
      go_simp
      exact h.next hcg hKD ho hall (by decide) (by decide) (by decide) inj hz hu rfl
    | 6, _ =>
      refine og_calls (g := none) ho 35 #[.tmp 108, .tmp 110] #[27, 3] (d := some 111) (by kernel_rfl) trivial Try.func35 rfl (by kernel_rfl) (vs := #[.pointer (some ⟨q, 0, none⟩), .int .i64 id0]) (by simp only [List.map_toArray, List.map_cons, List.map_nil]; rw [(show a'.eval (.tmp 108) = .pointer (some ⟨q, 0, none⟩) from h.e 3 (by decide) (dep ho hall 3 (by kernel_rfl)) _ rfl), (show a'.eval (.tmp 110) = .int .i64 id0 from h.e 5 (by decide) (dep ho hall 5 (by kernel_rfl)) _ rfl)]) (hC u (h.w.1 hno)) ?_
      rintro e w' ⟨rfl, q3⟩
      refine ⟨_, rfl, h.put ho hall (by decide) inj hz hu (fun v' hv' => by injection hv') (fun val h1 h2 => ?_)⟩
      exact ⟨fun hn => absurd ((hu 6).2 (.inl rfl)) hn, fun _ => q3⟩
    | 7, _ =>
      refine og_assign (g := none) ho (.tmp 111) (d := some 12) (by kernel_rfl) trivial (show a'.eval (.tmp 111) = .int .i64 er from h.e 6 (by decide) (dep ho hall 6 (by kernel_rfl)) _ rfl) ?_
      exact h.next hcg hKD ho hall (by decide) (by decide) (by decide) inj hz hu rfl
    | i + 8, hi => omega
  · rintro L a' u h hall
    rw [opsCE_size] at hall
    rw [h.done hz]
    refine hK L _ u hall h.w (fun j => ?_)
    by_cases hj : j ∈ DCE
    · cases hv : (VCE X off B r q n c g cd av id0 f t cc s id er) j with
      | none => exact .inl rfl
      | some v =>
        refine .inr (.inl ?_)
        have hjN : j < 8 := by
          have hh : DCE.all (fun i => decide (i < 8)) = true := by kernel_rfl
          exact of_decide_eq_true (List.all_eq_true.1 hh j hj)
        rw [h.e j hj (hall j hjN) v hv]
    · exact .inr (.inr hj)
  · intro L hL
    refine JR.start hL ?_
    exact ⟨fun _ => (Below.refl _ _).drew, fun h => absurd h (hL 6)⟩

noncomputable def opsCF : Array Oper := (Try.f13.body.bind (opsAt 13)).getD #[]
theorem opsCF_size : opsCF.size = 8 := by kernel_rfl
theorem opsCF_earlier : Earlier opsCF := by
  have h : (List.range 8).all (fun i => ((opsCF[i]?).map (fun o => o.after.all (fun e => !Region.binds .any e || decide (e.on < i)))).getD true) = true := by kernel_rfl
  intro i o ho e he hb
  have hi : i < 8 := by
    have := (Array.getElem?_eq_some_iff.1 ho).1
    rwa [opsCF_size] at this
  have h1 := List.all_eq_true.1 h i (List.mem_range.2 hi)
  rw [ho] at h1
  simp only [Option.map_some, Option.getD_some, Array.all_eq_true'] at h1
  have h2 := h1 e he
  rw [hb] at h2
  simpa using h2
def slCF (j : Nat) : Nat := ([112, 113, 114, 115, 116, 117, 118, 13] : List Nat).getD j 0
def DCF : List Nat := [0, 1, 2, 3, 4, 5, 6, 7]
def VCF (X off B r q n c g cd : Nat) (av : Option Addr) (id0 f t cc : Int) (s : ByteArray) (id er : Int) (j : Nat) : Option Value := [some (.pointer (some ⟨X, off, none⟩)), some (.pointer (some ⟨X, off, none⟩)), some (.pointer (some ⟨X, off, none⟩)), some (.pointer (some ⟨r, 0, none⟩)), some (.pointer (some ⟨B, 2, none⟩)), some (.int .i64 id0), some (.int .i64 er), some (.int .i64 er)].getD j none
set_option maxRecDepth 100000 in
set_option maxHeartbeats 4000000 in
theorem regCF (a0 : Act) (w : World) {Q : Exit → Act → World → Prop} (X off B r q n c g cd : Nat) (av : Option Addr) (id0 f t cc : Int) (s : ByteArray) (id er : Int) (R : World → Prop) (hX : X < w.heap.size) (hB : B < w.heap.size) (hb2 : w.cell? ⟨B, 2, none⟩ = some (.int .i64 id0)) (hx0 : w.cell? ⟨X, off, none⟩ = some (.pointer (some ⟨r, 0, none⟩))) (hC : ∀ W, Below w.heap.size w W → Calls Try.prog 36 #[.pointer (some ⟨r, 0, none⟩), .int .i64 id0] W fun e w' => e = .returned (.int .i64 er) ∧ R w') (hzz : 118 < a0.tmps.size) (H0 : a0.eval (.tmp 0) = .pointer (some ⟨X, off, none⟩)) (H3 : a0.eval (.tmp 3) = .pointer (some ⟨B, 0, none⟩))
    (hK : ∀ (L : Nat → Prop) (val : Nat → Value) (u : World), (∀ i, i < 8 → L i) → WC w 6 R L val u → (∀ j, (VCF X off B r q n c g cd av id0 f t cc s id er) j = none ∨ (VCF X off B r q n c g cd av id0 f t cc s id er) j = some (val j) ∨ j ∉ DCF) → Q .normal (puts a0 (DCF.map fun j => (slCF j, val j))) u) :
    (Code.region 13 opsCF true).wp Try.prog Q a0 w := by
  have inj : ∀ i ∈ DCF, ∀ j ∈ DCF, slCF i = slCF j → i = j := by
    have h : DCF.all (fun i => DCF.all (fun j => decide (slCF i = slCF j → i = j))) = true := by kernel_rfl
    intro i hi j hj he
    exact (of_decide_eq_true (List.all_eq_true.1 (List.all_eq_true.1 h i hi) j hj)) he
  have hz : ∀ j ∈ DCF, slCF j < a0.tmps.size := by
    have h : DCF.all (fun i => decide (slCF i ≤ 118)) = true := by kernel_rfl
    intro j hj
    have := of_decide_eq_true (List.all_eq_true.1 h j hj)
    omega
  have hcg : ∀ (L L' : Nat → Prop) (val val' : Nat → Value) u, (∀ k ∈ ([6] : List Nat), (L' k ↔ L k)) → (∀ k ∈ ([] : List Nat), val' k = val k) → WC w 6 R L val u → WC w 6 R L' val' u := by
    intro L L' val val' u hl hv hw
    simp at hl hv
    unfold WC at hw ⊢
    simp only [hl]
    exact hw
  have hKD : ∀ k ∈ ([] : List Nat), k ∈ DCF := by decide
  refine wp_region_inv (by kernel_rfl) opsCF_earlier (fun L a u => JR opsCF slCF DCF (VCF X off B r q n c g cd av id0 f t cc s id er) a0 (WC w 6 R) L a u) ?_ ?_ ?_
  · rintro L L' a' u i o h ho hno hall hu
    clear hK
    have q0 := (h.fe.ev (j := 0) (by decide)).trans H0
    have q3 := (h.fe.ev (j := 3) (by decide)).trans H3
    have hi : i < 8 := by
      have := (Array.getElem?_eq_some_iff.1 ho).1
      rwa [opsCF_size] at this
    match i, hi with
    | 0, _ =>
      refine og_move (g := none) ho (.tmp 0) (d := some 112) (by kernel_rfl) trivial q0 ?_
      exact h.next hcg hKD ho hall (by decide) (by decide) (by decide) inj hz hu rfl
    | 1, _ =>
      refine og_nil (g := none) ho (.tmp 112) (d := some 113) (by kernel_rfl) trivial (show a'.eval (.tmp 112) = .pointer (some ⟨X, off, none⟩) from h.e 0 (by decide) (dep ho hall 0 (by kernel_rfl)) _ rfl) ?_
      exact h.next hcg hKD ho hall (by decide) (by decide) (by decide) inj hz hu rfl
    | 2, _ =>
      obtain ⟨h1, h2, h3⟩ := flds (d := some 114) (p := Op.fieldAddr 31 (.tmp 113) 0) (g := none) ho (by kernel_rfl)
      have g0 := (show a'.eval (.tmp 113) = .pointer (some ⟨X, off, none⟩) from h.e 1 (by decide) (dep ho hall 1 (by kernel_rfl)) _ rfl)
      refine og_plain ho h3 trivial ?_
      unfold Oper.wp
      simp only [execOp, h2, g0]
      go_simp
      exact h.next hcg hKD ho hall (by decide) (by decide) (by decide) inj hz hu rfl
    | 3, _ =>
      have hn : ¬ L 6 := fun hl => hno (anc_spec h.dc 60 6 3 (by kernel_rfl) hl)
      have c0 := ((h.w.1 hn).cell (p := ⟨X, off, none⟩) hX).trans hx0
      obtain ⟨h1, h2, h3⟩ := flds (d := some 115) (p := Op.load 23 (.tmp 114)) (g := none) ho (by kernel_rfl)
      have g0 := (show a'.eval (.tmp 114) = .pointer (some ⟨X, off, none⟩) from h.e 2 (by decide) (dep ho hall 2 (by kernel_rfl)) _ rfl)
      refine og_plain ho h3 trivial ?_
      unfold Oper.wp
      simp only [execOp, h2, g0]
      go_simp
      exact h.next hcg hKD ho hall (by decide) (by decide) (by decide) inj hz hu rfl
    | 4, _ =>
      obtain ⟨h1, h2, h3⟩ := flds (d := some 116) (p := Op.fieldAddr 36 (.tmp 3) 2) (g := none) ho (by kernel_rfl)
      have g0 := q3
      refine og_plain ho h3 trivial ?_
      unfold Oper.wp
      simp only [execOp, h2, g0]
      go_simp
      exact h.next hcg hKD ho hall (by decide) (by decide) (by decide) inj hz hu rfl
    | 5, _ =>
      have hn : ¬ L 6 := fun hl => hno (anc_spec h.dc 60 6 5 (by kernel_rfl) hl)
      have c0 := ((h.w.1 hn).cell (p := ⟨B, 2, none⟩) hB).trans hb2
      obtain ⟨h1, h2, h3⟩ := flds (d := some 117) (p := Op.load 3 (.tmp 116)) (g := none) ho (by kernel_rfl)
      have g0 := (show a'.eval (.tmp 116) = .pointer (some ⟨B, 2, none⟩) from h.e 4 (by decide) (dep ho hall 4 (by kernel_rfl)) _ rfl)
      refine og_plain ho h3 trivial ?_
      unfold Oper.wp
      simp only [execOp, h2, g0]
      go_simp
      exact h.next hcg hKD ho hall (by decide) (by decide) (by decide) inj hz hu rfl
    | 6, _ =>
      refine og_calls (g := none) ho 36 #[.tmp 115, .tmp 117] #[23, 3] (d := some 118) (by kernel_rfl) trivial Try.func36 rfl (by kernel_rfl) (vs := #[.pointer (some ⟨r, 0, none⟩), .int .i64 id0]) (by simp only [List.map_toArray, List.map_cons, List.map_nil]; rw [(show a'.eval (.tmp 115) = .pointer (some ⟨r, 0, none⟩) from h.e 3 (by decide) (dep ho hall 3 (by kernel_rfl)) _ rfl), (show a'.eval (.tmp 117) = .int .i64 id0 from h.e 5 (by decide) (dep ho hall 5 (by kernel_rfl)) _ rfl)]) (hC u (h.w.1 hno)) ?_
      rintro e w' ⟨rfl, q3⟩
      refine ⟨_, rfl, h.put ho hall (by decide) inj hz hu (fun v' hv' => by injection hv') (fun val h1 h2 => ?_)⟩
      exact ⟨fun hn => absurd ((hu 6).2 (.inl rfl)) hn, fun _ => q3⟩
    | 7, _ =>
      refine og_assign (g := none) ho (.tmp 118) (d := some 13) (by kernel_rfl) trivial (show a'.eval (.tmp 118) = .int .i64 er from h.e 6 (by decide) (dep ho hall 6 (by kernel_rfl)) _ rfl) ?_
      exact h.next hcg hKD ho hall (by decide) (by decide) (by decide) inj hz hu rfl
    | i + 8, hi => omega
  · rintro L a' u h hall
    rw [opsCF_size] at hall
    rw [h.done hz]
    refine hK L _ u hall h.w (fun j => ?_)
    by_cases hj : j ∈ DCF
    · cases hv : (VCF X off B r q n c g cd av id0 f t cc s id er) j with
      | none => exact .inl rfl
      | some v =>
        refine .inr (.inl ?_)
        have hjN : j < 8 := by
          have hh : DCF.all (fun i => decide (i < 8)) = true := by kernel_rfl
          exact of_decide_eq_true (List.all_eq_true.1 hh j hj)
        rw [h.e j hj (hall j hjN) v hv]
    · exact .inr (.inr hj)
  · intro L hL
    refine JR.start hL ?_
    exact ⟨fun _ => (Below.refl _ _).drew, fun h => absurd h (hL 6)⟩

noncomputable def opsCG : Array Oper := (Try.f13.body.bind (opsAt 15)).getD #[]
theorem opsCG_size : opsCG.size = 8 := by kernel_rfl
theorem opsCG_earlier : Earlier opsCG := by
  have h : (List.range 8).all (fun i => ((opsCG[i]?).map (fun o => o.after.all (fun e => !Region.binds .any e || decide (e.on < i)))).getD true) = true := by kernel_rfl
  intro i o ho e he hb
  have hi : i < 8 := by
    have := (Array.getElem?_eq_some_iff.1 ho).1
    rwa [opsCG_size] at this
  have h1 := List.all_eq_true.1 h i (List.mem_range.2 hi)
  rw [ho] at h1
  simp only [Option.map_some, Option.getD_some, Array.all_eq_true'] at h1
  have h2 := h1 e he
  rw [hb] at h2
  simpa using h2
def slCG (j : Nat) : Nat := ([122, 123, 124, 125, 126, 127, 128, 14] : List Nat).getD j 0
def DCG : List Nat := [0, 1, 2, 3, 4, 5, 6, 7]
def VCG (X off B r q n c g cd : Nat) (av : Option Addr) (id0 f t cc : Int) (s : ByteArray) (id er : Int) (j : Nat) : Option Value := [some (.pointer (some ⟨X, off, none⟩)), some (.pointer (some ⟨X, off, none⟩)), some (.pointer (some ⟨X, off + 1, none⟩)), some (.pointer (some ⟨q, 0, none⟩)), some (.pointer (some ⟨B, 7, none⟩)), some (.slice av n c), some (.int .i64 er), some (.int .i64 er)].getD j none
set_option maxRecDepth 100000 in
set_option maxHeartbeats 4000000 in
theorem regCG (a0 : Act) (w : World) {Q : Exit → Act → World → Prop} (X off B r q n c g cd : Nat) (av : Option Addr) (id0 f t cc : Int) (s : ByteArray) (id er : Int) (R : World → Prop) (hX : X < w.heap.size) (hB : B < w.heap.size) (hb7 : w.cell? ⟨B, 7, none⟩ = some (.slice av n c)) (hx1 : w.cell? ⟨X, off + 1, none⟩ = some (.pointer (some ⟨q, 0, none⟩))) (hC : ∀ W, Below w.heap.size w W → Calls Try.prog 37 #[.pointer (some ⟨q, 0, none⟩), .slice av n c] W fun e w' => e = .returned (.int .i64 er) ∧ R w') (hzz : 128 < a0.tmps.size) (H0 : a0.eval (.tmp 0) = .pointer (some ⟨X, off, none⟩)) (H3 : a0.eval (.tmp 3) = .pointer (some ⟨B, 0, none⟩))
    (hK : ∀ (L : Nat → Prop) (val : Nat → Value) (u : World), (∀ i, i < 8 → L i) → WC w 6 R L val u → (∀ j, (VCG X off B r q n c g cd av id0 f t cc s id er) j = none ∨ (VCG X off B r q n c g cd av id0 f t cc s id er) j = some (val j) ∨ j ∉ DCG) → Q .normal (puts a0 (DCG.map fun j => (slCG j, val j))) u) :
    (Code.region 15 opsCG true).wp Try.prog Q a0 w := by
  have inj : ∀ i ∈ DCG, ∀ j ∈ DCG, slCG i = slCG j → i = j := by
    have h : DCG.all (fun i => DCG.all (fun j => decide (slCG i = slCG j → i = j))) = true := by kernel_rfl
    intro i hi j hj he
    exact (of_decide_eq_true (List.all_eq_true.1 (List.all_eq_true.1 h i hi) j hj)) he
  have hz : ∀ j ∈ DCG, slCG j < a0.tmps.size := by
    have h : DCG.all (fun i => decide (slCG i ≤ 128)) = true := by kernel_rfl
    intro j hj
    have := of_decide_eq_true (List.all_eq_true.1 h j hj)
    omega
  have hcg : ∀ (L L' : Nat → Prop) (val val' : Nat → Value) u, (∀ k ∈ ([6] : List Nat), (L' k ↔ L k)) → (∀ k ∈ ([] : List Nat), val' k = val k) → WC w 6 R L val u → WC w 6 R L' val' u := by
    intro L L' val val' u hl hv hw
    simp at hl hv
    unfold WC at hw ⊢
    simp only [hl]
    exact hw
  have hKD : ∀ k ∈ ([] : List Nat), k ∈ DCG := by decide
  refine wp_region_inv (by kernel_rfl) opsCG_earlier (fun L a u => JR opsCG slCG DCG (VCG X off B r q n c g cd av id0 f t cc s id er) a0 (WC w 6 R) L a u) ?_ ?_ ?_
  · rintro L L' a' u i o h ho hno hall hu
    clear hK
    have q0 := (h.fe.ev (j := 0) (by decide)).trans H0
    have q3 := (h.fe.ev (j := 3) (by decide)).trans H3
    have hi : i < 8 := by
      have := (Array.getElem?_eq_some_iff.1 ho).1
      rwa [opsCG_size] at this
    match i, hi with
    | 0, _ =>
      refine og_move (g := none) ho (.tmp 0) (d := some 122) (by kernel_rfl) trivial q0 ?_
      exact h.next hcg hKD ho hall (by decide) (by decide) (by decide) inj hz hu rfl
    | 1, _ =>
      refine og_nil (g := none) ho (.tmp 122) (d := some 123) (by kernel_rfl) trivial (show a'.eval (.tmp 122) = .pointer (some ⟨X, off, none⟩) from h.e 0 (by decide) (dep ho hall 0 (by kernel_rfl)) _ rfl) ?_
      exact h.next hcg hKD ho hall (by decide) (by decide) (by decide) inj hz hu rfl
    | 2, _ =>
      obtain ⟨h1, h2, h3⟩ := flds (d := some 124) (p := Op.fieldAddr 31 (.tmp 123) 1) (g := none) ho (by kernel_rfl)
      have g0 := (show a'.eval (.tmp 123) = .pointer (some ⟨X, off, none⟩) from h.e 1 (by decide) (dep ho hall 1 (by kernel_rfl)) _ rfl)
      refine og_plain ho h3 trivial ?_
      unfold Oper.wp
      simp only [execOp, h2, g0]
      go_simp
      exact h.next hcg hKD ho hall (by decide) (by decide) (by decide) inj hz hu rfl
    | 3, _ =>
      have hn : ¬ L 6 := fun hl => hno (anc_spec h.dc 60 6 3 (by kernel_rfl) hl)
      have c0 := ((h.w.1 hn).cell (p := ⟨X, off + 1, none⟩) hX).trans hx1
      obtain ⟨h1, h2, h3⟩ := flds (d := some 125) (p := Op.load 27 (.tmp 124)) (g := none) ho (by kernel_rfl)
      have g0 := (show a'.eval (.tmp 124) = .pointer (some ⟨X, off + 1, none⟩) from h.e 2 (by decide) (dep ho hall 2 (by kernel_rfl)) _ rfl)
      refine og_plain ho h3 trivial ?_
      unfold Oper.wp
      simp only [execOp, h2, g0]
      go_simp
      exact h.next hcg hKD ho hall (by decide) (by decide) (by decide) inj hz hu rfl
    | 4, _ =>
      obtain ⟨h1, h2, h3⟩ := flds (d := some 126) (p := Op.fieldAddr 36 (.tmp 3) 7) (g := none) ho (by kernel_rfl)
      have g0 := q3
      refine og_plain ho h3 trivial ?_
      unfold Oper.wp
      simp only [execOp, h2, g0]
      go_simp
      exact h.next hcg hKD ho hall (by decide) (by decide) (by decide) inj hz hu rfl
    | 5, _ =>
      have hn : ¬ L 6 := fun hl => hno (anc_spec h.dc 60 6 5 (by kernel_rfl) hl)
      have c0 := ((h.w.1 hn).cell (p := ⟨B, 7, none⟩) hB).trans hb7
      obtain ⟨h1, h2, h3⟩ := flds (d := some 127) (p := Op.load 24 (.tmp 126)) (g := none) ho (by kernel_rfl)
      have g0 := (show a'.eval (.tmp 126) = .pointer (some ⟨B, 7, none⟩) from h.e 4 (by decide) (dep ho hall 4 (by kernel_rfl)) _ rfl)
      refine og_plain ho h3 trivial ?_
      unfold Oper.wp
      simp only [execOp, h2, g0]
      go_simp
      exact h.next hcg hKD ho hall (by decide) (by decide) (by decide) inj hz hu rfl
    | 6, _ =>
      refine og_calls (g := none) ho 37 #[.tmp 125, .tmp 127] #[27, 24] (d := some 128) (by kernel_rfl) trivial Try.func37 rfl (by kernel_rfl) (vs := #[.pointer (some ⟨q, 0, none⟩), .slice av n c]) (by simp only [List.map_toArray, List.map_cons, List.map_nil]; rw [(show a'.eval (.tmp 125) = .pointer (some ⟨q, 0, none⟩) from h.e 3 (by decide) (dep ho hall 3 (by kernel_rfl)) _ rfl), (show a'.eval (.tmp 127) = .slice av n c from h.e 5 (by decide) (dep ho hall 5 (by kernel_rfl)) _ rfl)]) (hC u (h.w.1 hno)) ?_
      rintro e w' ⟨rfl, q3⟩
      refine ⟨_, rfl, h.put ho hall (by decide) inj hz hu (fun v' hv' => by injection hv') (fun val h1 h2 => ?_)⟩
      exact ⟨fun hn => absurd ((hu 6).2 (.inl rfl)) hn, fun _ => q3⟩
    | 7, _ =>
      refine og_assign (g := none) ho (.tmp 128) (d := some 14) (by kernel_rfl) trivial (show a'.eval (.tmp 128) = .int .i64 er from h.e 6 (by decide) (dep ho hall 6 (by kernel_rfl)) _ rfl) ?_
      exact h.next hcg hKD ho hall (by decide) (by decide) (by decide) inj hz hu rfl
    | i + 8, hi => omega
  · rintro L a' u h hall
    rw [opsCG_size] at hall
    rw [h.done hz]
    refine hK L _ u hall h.w (fun j => ?_)
    by_cases hj : j ∈ DCG
    · cases hv : (VCG X off B r q n c g cd av id0 f t cc s id er) j with
      | none => exact .inl rfl
      | some v =>
        refine .inr (.inl ?_)
        have hjN : j < 8 := by
          have hh : DCG.all (fun i => decide (i < 8)) = true := by kernel_rfl
          exact of_decide_eq_true (List.all_eq_true.1 hh j hj)
        rw [h.e j hj (hall j hjN) v hv]
    · exact .inr (.inr hj)
  · intro L hL
    refine JR.start hL ?_
    exact ⟨fun _ => (Below.refl _ _).drew, fun h => absurd h (hL 6)⟩

noncomputable def opsCH : Array Oper := (Try.f13.body.bind (opsAt 17)).getD #[]
theorem opsCH_size : opsCH.size = 19 := by kernel_rfl
theorem opsCH_earlier : Earlier opsCH := by
  have h : (List.range 19).all (fun i => ((opsCH[i]?).map (fun o => o.after.all (fun e => !Region.binds .any e || decide (e.on < i)))).getD true) = true := by kernel_rfl
  intro i o ho e he hb
  have hi : i < 19 := by
    have := (Array.getElem?_eq_some_iff.1 ho).1
    rwa [opsCH_size] at this
  have h1 := List.all_eq_true.1 h i (List.mem_range.2 hi)
  rw [ho] at h1
  simp only [Option.map_some, Option.getD_some, Array.all_eq_true'] at h1
  have h2 := h1 e he
  rw [hb] at h2
  simpa using h2
def slCH (j : Nat) : Nat := ([132, 133, 134, 135, 136, 137, 138, 139, 140, 141, 142, 143, 144, 145, 146, 147, 148, 149, 4] : List Nat).getD j 0
def DCH : List Nat := [0, 1, 2, 3, 4, 5, 6, 7, 8, 9, 10, 11, 12, 13, 14, 15, 16, 17, 18]
def VCH (X off B r q n c g cd : Nat) (av : Option Addr) (id0 f t cc : Int) (s : ByteArray) (id : Int) (j : Nat) : Option Value := [some (.pointer (some ⟨X, off, none⟩)), some (.pointer (some ⟨X, off, none⟩)), some (.pointer (some ⟨X, off, none⟩)), some (.pointer (some ⟨r, 0, none⟩)), some (.slice (some ⟨g, 0, none⟩) (n + 2) cd), some (.pointer (some ⟨B, 7, none⟩)), some (.slice av n c), some (.int .i64 (n : Int)), some (.slice (some ⟨g, 0, none⟩) n cd), some (.int .i64 id), some (.int .i64 id), some (.bool true), some (.bool true), some (.slice (some ⟨g, 0, none⟩) (n + 2) cd), some (.pointer (some ⟨B, 7, none⟩)), some (.slice av n c), some (.bool true), some (.bool true), some (.bool true)].getD j none
set_option maxRecDepth 100000 in
set_option maxHeartbeats 4000000 in
theorem regCH (a0 : Act) (w : World) {Q : Exit → Act → World → Prop} (X off B r q n c g cd : Nat) (av : Option Addr) (id0 f t cc : Int) (s : ByteArray) (id : Int) (R1 R2 : World → Prop) (hX : X < w.heap.size) (hB : B < w.heap.size) (hb7 : w.cell? ⟨B, 7, none⟩ = some (.slice av n c)) (hx0 : w.cell? ⟨X, off, none⟩ = some (.pointer (some ⟨r, 0, none⟩))) (hcd : n + 2 ≤ cd) (hcd2 : cd ≤ 9223372036854775807) (hR1 : ∀ W, R1 W → W.cell? ⟨B, 7, none⟩ = some (.slice av n c)) (hC : ∀ W, Below w.heap.size w W → Calls Try.prog 38 #[.pointer (some ⟨r, 0, none⟩), .slice (some ⟨g, 0, none⟩) n cd] W fun e w' => e = .returned (.int .i64 id) ∧ R1 w') (hC2 : ∀ W, R1 W → Calls Try.prog 26 #[.slice (some ⟨g, 0, none⟩) (n + 2) cd, .slice av n c] W fun e w' => e = .returned (.bool true) ∧ R2 w') (hzz : 149 < a0.tmps.size) (H0 : a0.eval (.tmp 0) = .pointer (some ⟨X, off, none⟩)) (H3 : a0.eval (.tmp 3) = .pointer (some ⟨B, 0, none⟩)) (H15 : a0.eval (.tmp 15) = .slice (some ⟨g, 0, none⟩) (n + 2) cd) (H14 : a0.eval (.tmp 14) = .int .i64 id)
    (hK : ∀ (L : Nat → Prop) (val : Nat → Value) (u : World), (∀ i, i < 19 → L i) → WD w 9 16 R1 R2 L val u → (∀ j, (VCH X off B r q n c g cd av id0 f t cc s id) j = none ∨ (VCH X off B r q n c g cd av id0 f t cc s id) j = some (val j) ∨ j ∉ DCH) → Q .normal (puts a0 (DCH.map fun j => (slCH j, val j))) u) :
    (Code.region 17 opsCH true).wp Try.prog Q a0 w := by
  have inj : ∀ i ∈ DCH, ∀ j ∈ DCH, slCH i = slCH j → i = j := by
    have h : DCH.all (fun i => DCH.all (fun j => decide (slCH i = slCH j → i = j))) = true := by kernel_rfl
    intro i hi j hj he
    exact (of_decide_eq_true (List.all_eq_true.1 (List.all_eq_true.1 h i hi) j hj)) he
  have hz : ∀ j ∈ DCH, slCH j < a0.tmps.size := by
    have h : DCH.all (fun i => decide (slCH i ≤ 149)) = true := by kernel_rfl
    intro j hj
    have := of_decide_eq_true (List.all_eq_true.1 h j hj)
    omega
  have hcg : ∀ (L L' : Nat → Prop) (val val' : Nat → Value) u, (∀ k ∈ ([9, 16] : List Nat), (L' k ↔ L k)) → (∀ k ∈ ([] : List Nat), val' k = val k) → WD w 9 16 R1 R2 L val u → WD w 9 16 R1 R2 L' val' u := by
    intro L L' val val' u hl hv hw
    simp at hl hv
    unfold WD at hw ⊢
    simp only [hl]
    exact hw
  have hKD : ∀ k ∈ ([] : List Nat), k ∈ DCH := by decide
  refine wp_region_inv (by kernel_rfl) opsCH_earlier (fun L a u => JR opsCH slCH DCH (VCH X off B r q n c g cd av id0 f t cc s id) a0 (WD w 9 16 R1 R2) L a u) ?_ ?_ ?_
  · rintro L L' a' u i o h ho hno hall hu
    clear hK
    have q0 := (h.fe.ev (j := 0) (by decide)).trans H0
    have q3 := (h.fe.ev (j := 3) (by decide)).trans H3
    have q15 := (h.fe.ev (j := 15) (by decide)).trans H15
    have q14 := (h.fe.ev (j := 14) (by decide)).trans H14
    have hi : i < 19 := by
      have := (Array.getElem?_eq_some_iff.1 ho).1
      rwa [opsCH_size] at this
    match i, hi with
    | 0, _ =>
      refine og_move (g := none) ho (.tmp 0) (d := some 132) (by kernel_rfl) trivial q0 ?_
      exact h.next hcg hKD ho hall (by decide) (by decide) (by decide) inj hz hu rfl
    | 1, _ =>
      refine og_nil (g := none) ho (.tmp 132) (d := some 133) (by kernel_rfl) trivial (show a'.eval (.tmp 132) = .pointer (some ⟨X, off, none⟩) from h.e 0 (by decide) (dep ho hall 0 (by kernel_rfl)) _ rfl) ?_
      exact h.next hcg hKD ho hall (by decide) (by decide) (by decide) inj hz hu rfl
    | 2, _ =>
      obtain ⟨h1, h2, h3⟩ := flds (d := some 134) (p := Op.fieldAddr 31 (.tmp 133) 0) (g := none) ho (by kernel_rfl)
      have g0 := (show a'.eval (.tmp 133) = .pointer (some ⟨X, off, none⟩) from h.e 1 (by decide) (dep ho hall 1 (by kernel_rfl)) _ rfl)
      refine og_plain ho h3 trivial ?_
      unfold Oper.wp
      simp only [execOp, h2, g0]
      go_simp
      exact h.next hcg hKD ho hall (by decide) (by decide) (by decide) inj hz hu rfl
    | 3, _ =>
      have hn : ¬ L 9 := fun hl => hno (anc_spec h.dc 60 9 3 (by kernel_rfl) hl)
      have c0 := ((h.w.1 hn).cell (p := ⟨X, off, none⟩) hX).trans hx0
      obtain ⟨h1, h2, h3⟩ := flds (d := some 135) (p := Op.load 23 (.tmp 134)) (g := none) ho (by kernel_rfl)
      have g0 := (show a'.eval (.tmp 134) = .pointer (some ⟨X, off, none⟩) from h.e 2 (by decide) (dep ho hall 2 (by kernel_rfl)) _ rfl)
      refine og_plain ho h3 trivial ?_
      unfold Oper.wp
      simp only [execOp, h2, g0]
      go_simp
      exact h.next hcg hKD ho hall (by decide) (by decide) (by decide) inj hz hu rfl
    | 4, _ =>
      refine og_move (g := none) ho (.tmp 15) (d := some 136) (by kernel_rfl) trivial q15 ?_
      exact h.next hcg hKD ho hall (by decide) (by decide) (by decide) inj hz hu rfl
    | 5, _ =>
      obtain ⟨h1, h2, h3⟩ := flds (d := some 137) (p := Op.fieldAddr 36 (.tmp 3) 7) (g := none) ho (by kernel_rfl)
      have g0 := q3
      refine og_plain ho h3 trivial ?_
      unfold Oper.wp
      simp only [execOp, h2, g0]
      go_simp
      exact h.next hcg hKD ho hall (by decide) (by decide) (by decide) inj hz hu rfl
    | 6, _ =>
      have hn : ¬ L 9 := fun hl => hno (anc_spec h.dc 60 9 6 (by kernel_rfl) hl)
      have c0 := ((h.w.1 hn).cell (p := ⟨B, 7, none⟩) hB).trans hb7
      obtain ⟨h1, h2, h3⟩ := flds (d := some 138) (p := Op.load 24 (.tmp 137)) (g := none) ho (by kernel_rfl)
      have g0 := (show a'.eval (.tmp 137) = .pointer (some ⟨B, 7, none⟩) from h.e 5 (by decide) (dep ho hall 5 (by kernel_rfl)) _ rfl)
      refine og_plain ho h3 trivial ?_
      unfold Oper.wp
      simp only [execOp, h2, g0]
      go_simp
      exact h.next hcg hKD ho hall (by decide) (by decide) (by decide) inj hz hu rfl
    | 7, _ =>
      refine og_len (g := none) ho (.tmp 138) (d := some 139) (by kernel_rfl) trivial (show a'.eval (.tmp 138) = .slice av n c from h.e 6 (by decide) (dep ho hall 6 (by kernel_rfl)) _ rfl) ?_
      exact h.next hcg hKD ho hall (by decide) (by decide) (by decide) inj hz hu rfl
    | 8, _ =>
      have k1 : n ≤ cd := by omega
      have k2 : ¬ cd = 0 := by omega
      have k4 : (n : Int) ≤ (cd : Int) := by omega
      have k5 : (0 : Int) ≤ (n : Int) := by omega
      obtain ⟨h1, h2, h3⟩ := flds (d := some 140) (p := Op.slice 24 (.tmp 136) none (some (.tmp 139)) none) (g := none) ho (by kernel_rfl)
      have g0 := (show a'.eval (.tmp 136) = .slice (some ⟨g, 0, none⟩) (n + 2) cd from h.e 4 (by decide) (dep ho hall 4 (by kernel_rfl)) _ rfl)
      have g1 := (show a'.eval (.tmp 139) = .int .i64 (n : Int) from h.e 7 (by decide) (dep ho hall 7 (by kernel_rfl)) _ rfl)
      have b0 : a'.tmps[136]?.getD undef = .slice (some ⟨g, 0, none⟩) (n + 2) cd := by simpa [Act.eval] using g0
      have b1 : a'.tmps[139]?.getD undef = .int .i64 (n : Int) := by simpa [Act.eval] using g1
      refine og_plain ho h3 trivial ?_
      unfold Oper.wp
      simp only [execOp, h2, g0]
      go_simp
      exact h.next hcg hKD ho hall (by decide) (by decide) (by decide) inj hz hu rfl
    | 9, _ =>
      refine og_calls (g := none) ho 38 #[.tmp 135, .tmp 140] #[23, 24] (d := some 141) (by kernel_rfl) trivial Try.func38 rfl (by kernel_rfl) (vs := #[.pointer (some ⟨r, 0, none⟩), .slice (some ⟨g, 0, none⟩) n cd]) (by simp only [List.map_toArray, List.map_cons, List.map_nil]; rw [(show a'.eval (.tmp 135) = .pointer (some ⟨r, 0, none⟩) from h.e 3 (by decide) (dep ho hall 3 (by kernel_rfl)) _ rfl), (show a'.eval (.tmp 140) = .slice (some ⟨g, 0, none⟩) n cd from h.e 8 (by decide) (dep ho hall 8 (by kernel_rfl)) _ rfl)]) (hC u (h.w.1 hno)) ?_
      rintro e w' ⟨rfl, q3⟩
      refine ⟨_, rfl, h.put ho hall (by decide) inj hz hu (fun v' hv' => by injection hv') (fun val h1 h2 => ?_)⟩
      have n16 : ¬ L 16 := fun hl => hno (anc_spec h.dc 60 16 9 (by kernel_rfl) hl)
      exact ⟨fun hn => absurd ((hu 9).2 (.inl rfl)) hn, fun _ _ => q3, fun hl => absurd (((hu 16).1 hl).resolve_left (by omega)) n16⟩
    | 10, _ =>
      refine og_move (g := none) ho (.tmp 14) (d := some 142) (by kernel_rfl) trivial q14 ?_
      exact h.next hcg hKD ho hall (by decide) (by decide) (by decide) inj hz hu rfl
    | 11, _ =>
      obtain ⟨h1, h2, h3⟩ := flds (d := some 143) (p := Op.binOp .eql 3 (.tmp 141) (.tmp 142) 3) (g := none) ho (by kernel_rfl)
      have g0 := (show a'.eval (.tmp 141) = .int .i64 id from h.e 9 (by decide) (dep ho hall 9 (by kernel_rfl)) _ rfl)
      have g1 := (show a'.eval (.tmp 142) = .int .i64 id from h.e 10 (by decide) (dep ho hall 10 (by kernel_rfl)) _ rfl)
      refine og_plain ho h3 trivial ?_
      unfold Oper.wp
      simp only [execOp, h2, g0, g1]
      go_simp
      exact h.next hcg hKD ho hall (by decide) (by decide) (by decide) inj hz hu rfl
    | 12, _ =>
      refine og_move (g := none) ho (.tmp 143) (d := some 144) (by kernel_rfl) trivial (show a'.eval (.tmp 143) = .bool true from h.e 11 (by decide) (dep ho hall 11 (by kernel_rfl)) _ rfl) ?_
      exact h.next hcg hKD ho hall (by decide) (by decide) (by decide) inj hz hu rfl
    | 13, _ =>
      refine og_move (g := some (12, true)) ho (.tmp 15) (d := some 145) (by kernel_rfl) ⟨144, by kernel_rfl, (show a'.eval (.tmp 144) = .bool true from h.e 12 (by decide) (dep ho hall 12 (by kernel_rfl)) _ rfl)⟩ q15 ?_
      exact h.next hcg hKD ho hall (by decide) (by decide) (by decide) inj hz hu rfl
    | 14, _ =>
      obtain ⟨h1, h2, h3⟩ := flds (d := some 146) (p := Op.fieldAddr 36 (.tmp 3) 7) (g := some (12, true)) ho (by kernel_rfl)
      have g0 := q3
      refine og_plain ho h3 ⟨144, by kernel_rfl, (show a'.eval (.tmp 144) = .bool true from h.e 12 (by decide) (dep ho hall 12 (by kernel_rfl)) _ rfl)⟩ ?_
      unfold Oper.wp
      simp only [execOp, h2, g0]
      go_simp
      exact h.next hcg hKD ho hall (by decide) (by decide) (by decide) inj hz hu rfl
    | 15, _ =>
      have l9 : L 9 := anc_spec h.dc 60 14 9 (by kernel_rfl) (dep ho hall 14 (by kernel_rfl))
      have hn : ¬ L 16 := fun hl => hno (anc_spec h.dc 60 16 15 (by kernel_rfl) hl)
      have c0 := hR1 u (h.w.2.1 l9 hn)
      obtain ⟨h1, h2, h3⟩ := flds (d := some 147) (p := Op.load 24 (.tmp 146)) (g := some (12, true)) ho (by kernel_rfl)
      have g0 := (show a'.eval (.tmp 146) = .pointer (some ⟨B, 7, none⟩) from h.e 14 (by decide) (dep ho hall 14 (by kernel_rfl)) _ rfl)
      refine og_plain ho h3 ⟨144, by kernel_rfl, (show a'.eval (.tmp 144) = .bool true from h.e 12 (by decide) (dep ho hall 12 (by kernel_rfl)) _ rfl)⟩ ?_
      unfold Oper.wp
      simp only [execOp, h2, g0]
      go_simp
      exact h.next hcg hKD ho hall (by decide) (by decide) (by decide) inj hz hu rfl
    | 16, _ =>
      have l9 : L 9 := anc_spec h.dc 60 15 9 (by kernel_rfl) (dep ho hall 15 (by kernel_rfl))
      refine og_calls (g := some (12, true)) ho 26 #[.tmp 145, .tmp 147] #[24, 24] (d := some 148) (by kernel_rfl) ⟨144, by kernel_rfl, (show a'.eval (.tmp 144) = .bool true from h.e 12 (by decide) (dep ho hall 12 (by kernel_rfl)) _ rfl)⟩ Try.func26 rfl (by kernel_rfl) (vs := #[.slice (some ⟨g, 0, none⟩) (n + 2) cd, .slice av n c]) (by simp only [List.map_toArray, List.map_cons, List.map_nil]; rw [(show a'.eval (.tmp 145) = .slice (some ⟨g, 0, none⟩) (n + 2) cd from h.e 13 (by decide) (dep ho hall 13 (by kernel_rfl)) _ rfl), (show a'.eval (.tmp 147) = .slice av n c from h.e 15 (by decide) (dep ho hall 15 (by kernel_rfl)) _ rfl)]) (hC2 u (h.w.2.1 l9 hno)) ?_
      rintro e w' ⟨rfl, q3⟩
      refine ⟨_, rfl, h.put ho hall (by decide) inj hz hu (fun v' hv' => by injection hv') (fun val h1 h2 => ?_)⟩
      exact ⟨fun hn => absurd ((hu 9).2 (.inr l9)) hn, fun _ hn => absurd ((hu 16).2 (.inl rfl)) hn, fun _ => q3⟩
    | 17, _ =>
      obtain ⟨h1, h2, h3⟩ := flds (d := some 149) (p := Op.pick (.tmp 144) (.tmp 148) (.const (.bool false))) (g := none) ho (by kernel_rfl)
      have g0 := (show a'.eval (.tmp 144) = .bool true from h.e 12 (by decide) (dep ho hall 12 (by kernel_rfl)) _ rfl)
      have g1 := (show a'.eval (.tmp 148) = .bool true from h.e 16 (by decide) (dep ho hall 16 (by kernel_rfl)) _ rfl)
      refine og_plain ho h3 trivial ?_
      unfold Oper.wp
      simp only [execOp, h2, g0, g1]
      go_simp
      exact h.next hcg hKD ho hall (by decide) (by decide) (by decide) inj hz hu rfl
    | 18, _ =>
      refine og_assign (g := none) ho (.tmp 149) (d := some 4) (by kernel_rfl) trivial (show a'.eval (.tmp 149) = .bool true from h.e 17 (by decide) (dep ho hall 17 (by kernel_rfl)) _ rfl) ?_
      exact h.next hcg hKD ho hall (by decide) (by decide) (by decide) inj hz hu rfl
    | i + 19, hi => omega
  · rintro L a' u h hall
    rw [opsCH_size] at hall
    rw [h.done hz]
    refine hK L _ u hall h.w (fun j => ?_)
    by_cases hj : j ∈ DCH
    · cases hv : (VCH X off B r q n c g cd av id0 f t cc s id) j with
      | none => exact .inl rfl
      | some v =>
        refine .inr (.inl ?_)
        have hjN : j < 19 := by
          have hh : DCH.all (fun i => decide (i < 19)) = true := by kernel_rfl
          exact of_decide_eq_true (List.all_eq_true.1 hh j hj)
        rw [h.e j hj (hall j hjN) v hv]
    · exact .inr (.inr hj)
  · intro L hL
    refine JR.start hL ?_
    exact ⟨fun _ => (Below.refl _ _).drew, fun h => absurd h (hL 9), fun h => absurd h (hL 16)⟩

end Go.Proofs.Ytkkklfnooeofcab
