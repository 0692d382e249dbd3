/-
  The laws' put at two numbers of a list: regions whose order is drawn.
-/
import Derived.Test.YtkkklfnooeofcaaNa
import Derived.Test.YtkkklfnooeofcaaIg
namespace Go.Proofs.Ytkkklfnooeofcaa
open Go.RowKit Go.Maps Go.ChangeMaps Go.MapKept Go.WideMaps
set_option linter.unusedVariables false

section
variable {ops : Array Oper} {o : Oper} {a : Act} {w : World} {K : Act → World → Prop} {Q : Exit → Act → World → Prop} {i : Nat}
theorem og_call4 {g : Option (Nat × Bool)} (ho : ops[i]? = some o) (f : FuncId) (x y z z' : Operand) (t u u1 u2 : TypeId) {d : Option Tmp} (h : (ops[i]?).map (fun o => (o.dst, o.op, o.guard)) = some (d, Op.call { callee := .value (.func f), args := #[x, y, z, z'], argTypes := #[t, u, u1, u2] }, g)) (hw : gOk ops a g) {fn : Func} {c : Code} (hf : Try.prog.funcs[f]? = some fn) (hb : fn.body = some c) (hnm : (fn.name == "runtime.NumGoroutine") = false) {R : Ending → World → Prop} (hC : Calls Try.prog f #[a.eval x, a.eval y, a.eval z, a.eval z'] w R) (hK : ∀ e w', R e w' → ∃ v, e = .returned v ∧ K (a.put d v) w') : wpOp Try.prog ops Q i K a w := by
  obtain ⟨h1, h2, h3⟩ := flds ho h
  refine og_plain ho h3 hw ?_
  unfold Oper.wp
  have e1 : (execOp a.eval o).run Try.prog w = .ok (.enter f #[a.eval x, a.eval y, a.eval z, a.eval z']) w := by
    simp [execOp, h2, resolve, invoke, Deferred.ofValue, show a.eval (.func f) = .func (.func f) #[] #[] from rfl, callFunc, hf, hb]
    simpa using hnm
  rw [e1]
  show Calls Try.prog f #[a.eval x, a.eval y, a.eval z, a.eval z'] w _
  refine hC.mono fun e w' h => ?_
  obtain ⟨v, rfl, hk⟩ := hK e w' h
  rw [h1]
  exact hk
end

/-- A note more, somewhere. -/
def LpP (w u : World) (O : Nat → Prop) (r g : Nat) (Ns : List Nt) (n : Nat) (xs : List El) : Prop :=
  ∃ f t : Nat, f < t ∧ t ≤ n ∧ NowB w u O r (g + 1) (Ns ++ [⟨g + 1, 5, wB, false, [], (xs.drop f).take (t - f)⟩])
theorem LpP.of {w u u' : World} {O : Nat → Prop} {r g : Nat} {Ns : List Nt} {n : Nat} {xs : List El} (h : LpP u u' O r g Ns n xs) (hb : Below w.heap.size w u) : LpP w u' O r g Ns n xs := by
  obtain ⟨f, t, h1, h2, O', h3, h4, h5⟩ := h
  exact ⟨f, t, h1, h2, O', h3, fun k hk => (h4 k hk).imp id (fun h => Nat.le_trans hb.size h), (Fr.of_below hb : Fr O w u).trans h5⟩
def WLp (w : World) (O : Nat → Prop) (r g : Nat) (Ns : List Nt) (n : Nat) (xs : List El) (L : Nat → Prop) (val : Nat → Value) (u : World) : Prop :=
  (¬ L 11 → Below w.heap.size w u) ∧ (L 11 → LpP w u O r g Ns n xs)

noncomputable def opsLpS : Array Oper := (Try.f8.body.bind (opsAt 9)).getD #[]
theorem opsLpS_size : opsLpS.size = 17 := by kernel_rfl
theorem opsLpS_earlier : Earlier opsLpS := by
  have h : (List.range 17).all (fun i => ((opsLpS[i]?).map (fun o => o.after.all (fun e => !Region.binds .any e || decide (e.on < i)))).getD true) = true := by kernel_rfl
  intro i o ho e he hb
  have hi : i < 17 := by
    have := (Array.getElem?_eq_some_iff.1 ho).1
    rwa [opsLpS_size] at this
  have h1 := List.all_eq_true.1 h i (List.mem_range.2 hi)
  rw [ho] at h1
  simp only [Option.map_some, Option.getD_some, Array.all_eq_true'] at h1
  have h2 := h1 e he
  rw [hb] at h2
  simpa using h2
def slLpS (j : Nat) : Nat := ([46, 47, 48, 49, 50, 51, 52, 53, 54, 55, 56, 57, 45, 58, 59, 13, 14] : List Nat).getD j 0
def DLpS : List Nat := [0, 1, 2, 3, 4, 5, 6, 7, 8, 9, 10, 11, 12, 13, 14, 15, 16]
def VLpS (r g n c k ab off nT cT : Nat) (av : Option Addr) (x y : Int) (j : Nat) : Option Value := [some (.pointer (some ⟨r, 0, none⟩)), some (.slice av n c), some (.slice (some ⟨ab, off, none⟩) nT cT), some (.int .i64 (k : Int)), some (.pointer (some ⟨ab, off + k, none⟩)), some (.int .i64 x), some (.slice (some ⟨ab, off, none⟩) nT cT), some (.int .i64 (k : Int)), some (.int .i64 ((k : Int) + 1)), some (.pointer (some ⟨ab, off + (k + 1), none⟩)), some (.int .i64 y), some (.tuple #[.int .i64 ((g + 1 : Nat) : Int), .int .i64 0]), some (.tuple #[.int .i64 ((g + 1 : Nat) : Int), .int .i64 0]), some (.int .i64 ((g + 1 : Nat) : Int)), some (.int .i64 0), some (.int .i64 ((g + 1 : Nat) : Int)), some (.int .i64 0)].getD j none
set_option maxRecDepth 100000 in
set_option maxHeartbeats 4000000 in
theorem regLpS (a0 : Act) (w : World) {Q : Exit → Act → World → Prop} (O : Nat → Prop) (r g n c k ab off nT cT : Nat) (av : Option Addr) (Ns : List Nt) (xs : List El) (x y : Int) (hD : BD w O r g Ns) (hE : IsE w av n c xs) (hwf : ∀ x ∈ xs, wfE x) (hn1 : 1 ≤ n) (hn2 : n ≤ 10000) (hg : g < 256) (hk : k + 1 < nT) (hTc : nT ≤ cT) (hT63 : cT ≤ 9223372036854775807) (hab : ab < w.heap.size) (hx : w.cell? ⟨ab, off + k, none⟩ = some (.int .i64 x)) (hy : w.cell? ⟨ab, off + (k + 1), none⟩ = some (.int .i64 y)) (hzz : 59 < a0.tmps.size) (H7 : a0.eval (.tmp 7) = .pointer (some ⟨r, 0, none⟩)) (H10 : a0.eval (.tmp 10) = .slice av n c) (H0 : a0.eval (.tmp 0) = .slice (some ⟨ab, off, none⟩) nT cT) (H12 : a0.eval (.tmp 12) = .int .i64 (k : Int))
    (hK : ∀ (L : Nat → Prop) (val : Nat → Value) (u : World), (∀ i, i < 17 → L i) → WLp w O r g Ns n xs L val u → (∀ j, (VLpS r g n c k ab off nT cT av x y) j = none ∨ (VLpS r g n c k ab off nT cT av x y) j = some (val j) ∨ j ∉ DLpS) → Q .normal (puts a0 (DLpS.map fun j => (slLpS j, val j))) u) :
    (Code.region 9 opsLpS true).wp Try.prog Q a0 w := by
  have inj : ∀ i ∈ DLpS, ∀ j ∈ DLpS, slLpS i = slLpS j → i = j := by
    have h : DLpS.all (fun i => DLpS.all (fun j => decide (slLpS i = slLpS j → i = j))) = true := by kernel_rfl
    intro i hi j hj he
    exact (of_decide_eq_true (List.all_eq_true.1 (List.all_eq_true.1 h i hi) j hj)) he
  have hz : ∀ j ∈ DLpS, slLpS j < a0.tmps.size := by
    have h : DLpS.all (fun i => decide (slLpS i ≤ 59)) = true := by kernel_rfl
    intro j hj
    have := of_decide_eq_true (List.all_eq_true.1 h j hj)
    omega
  have hcg : ∀ (L L' : Nat → Prop) (val val' : Nat → Value) u, (∀ k ∈ ([11] : List Nat), (L' k ↔ L k)) → (∀ k ∈ ([] : List Nat), val' k = val k) → WLp w O r g Ns n xs L val u → WLp w O r g Ns n xs L' val' u := by
    intro L L' val val' u hl hv hw
    simp at hl hv
    unfold WLp at hw ⊢
    simp only [hl]
    exact hw
  have hKD : ∀ k ∈ ([] : List Nat), k ∈ DLpS := by decide
  refine wp_region_inv (by kernel_rfl) opsLpS_earlier (fun L a u => JR opsLpS slLpS DLpS (VLpS r g n c k ab off nT cT av x y) a0 (WLp w O r g Ns n xs) L a u) ?_ ?_ ?_
  · rintro L L' a' u i o h ho hno hall hu
    clear hK
    have q7 := (h.fe.ev (j := 7) (by decide)).trans H7
    have q10 := (h.fe.ev (j := 10) (by decide)).trans H10
    have q0 := (h.fe.ev (j := 0) (by decide)).trans H0
    have q12 := (h.fe.ev (j := 12) (by decide)).trans H12
    have hi : i < 17 := by
      have := (Array.getElem?_eq_some_iff.1 ho).1
      rwa [opsLpS_size] at this
    match i, hi with
    | 0, _ =>
      refine og_move (g := none) ho (.tmp 7) (d := some 46) (by kernel_rfl) trivial q7 ?_
      exact h.next hcg hKD ho hall (by decide) (by decide) (by decide) inj hz hu rfl
    | 1, _ =>
      refine og_move (g := none) ho (.tmp 10) (d := some 47) (by kernel_rfl) trivial q10 ?_
      exact h.next hcg hKD ho hall (by decide) (by decide) (by decide) inj hz hu rfl
    | 2, _ =>
      refine og_move (g := none) ho (.tmp 0) (d := some 48) (by kernel_rfl) trivial q0 ?_
      exact h.next hcg hKD ho hall (by decide) (by decide) (by decide) inj hz hu rfl
    | 3, _ =>
      refine og_move (g := none) ho (.tmp 12) (d := some 49) (by kernel_rfl) trivial q12 ?_
      exact h.next hcg hKD ho hall (by decide) (by decide) (by decide) inj hz hu rfl
    | 4, _ =>
      have i1 : (k : Int) < (nT : Int) := by omega
      have i2 : (k : Int) + 1 < (nT : Int) := by omega
      obtain ⟨h1, h2, h3⟩ := flds (d := some 50) (p := Op.indexAddr 22 (.tmp 48) (.tmp 49)) (g := none) ho (by kernel_rfl)
      have g0 := (show a'.eval (.tmp 48) = .slice (some ⟨ab, off, none⟩) nT cT from h.e 2 (by decide) (dep ho hall 2 (by kernel_rfl)) _ rfl)
      have g1 := (show a'.eval (.tmp 49) = .int .i64 (k : Int) from h.e 3 (by decide) (dep ho hall 3 (by kernel_rfl)) _ rfl)
      refine og_plain ho h3 trivial ?_
      unfold Oper.wp
      simp only [execOp, h2, g0, g1]
      go_simp
      exact h.next hcg hKD ho hall (by decide) (by decide) (by decide) inj hz hu rfl
    | 5, _ =>
      have hn : ¬ L 11 := fun hl => hno (anc_spec h.dc 60 11 5 (by kernel_rfl) hl)
      have c0 := ((h.w.1 hn).cell (p := ⟨ab, off + k, none⟩) hab).trans hx
      obtain ⟨h1, h2, h3⟩ := flds (d := some 51) (p := Op.load 3 (.tmp 50)) (g := none) ho (by kernel_rfl)
      have g0 := (show a'.eval (.tmp 50) = .pointer (some ⟨ab, off + k, none⟩) from h.e 4 (by decide) (dep ho hall 4 (by kernel_rfl)) _ rfl)
      refine og_plain ho h3 trivial ?_
      unfold Oper.wp
      simp only [execOp, h2, g0]
      go_simp
      exact h.next hcg hKD ho hall (by decide) (by decide) (by decide) inj hz hu rfl
    | 6, _ =>
      refine og_move (g := none) ho (.tmp 0) (d := some 52) (by kernel_rfl) trivial q0 ?_
      exact h.next hcg hKD ho hall (by decide) (by decide) (by decide) inj hz hu rfl
    | 7, _ =>
      refine og_move (g := none) ho (.tmp 12) (d := some 53) (by kernel_rfl) trivial q12 ?_
      exact h.next hcg hKD ho hall (by decide) (by decide) (by decide) inj hz hu rfl
    | 8, _ =>
      have hw : IntKind.i64.wrap ((k : Int) + 1) = (k : Int) + 1 := by rw [IntKind.wrap_i64]; omega
      obtain ⟨h1, h2, h3⟩ := flds (d := some 54) (p := Op.binOp .add 3 (.tmp 53) (.const (.int .i64 1)) 3) (g := none) ho (by kernel_rfl)
      have g0 := (show a'.eval (.tmp 53) = .int .i64 (k : Int) from h.e 7 (by decide) (dep ho hall 7 (by kernel_rfl)) _ rfl)
      refine og_plain ho h3 trivial ?_
      unfold Oper.wp
      simp only [execOp, h2, g0]
      go_simp
      exact h.next hcg hKD ho hall (by decide) (by decide) (by decide) inj hz hu rfl
    | 9, _ =>
      have i1 : (k : Int) < (nT : Int) := by omega
      have i2 : (k : Int) + 1 < (nT : Int) := by omega
      have i3 : 0 ≤ (k : Int) + 1 := by omega
      obtain ⟨h1, h2, h3⟩ := flds (d := some 55) (p := Op.indexAddr 22 (.tmp 52) (.tmp 54)) (g := none) ho (by kernel_rfl)
      have g0 := (show a'.eval (.tmp 52) = .slice (some ⟨ab, off, none⟩) nT cT from h.e 6 (by decide) (dep ho hall 6 (by kernel_rfl)) _ rfl)
      have g1 := (show a'.eval (.tmp 54) = .int .i64 ((k : Int) + 1) from h.e 8 (by decide) (dep ho hall 8 (by kernel_rfl)) _ rfl)
      refine og_plain ho h3 trivial ?_
      unfold Oper.wp
      simp only [execOp, h2, g0, g1]
      go_simp
      exact h.next hcg hKD ho hall (by decide) (by decide) (by decide) inj hz hu rfl
    | 10, _ =>
      have hn : ¬ L 11 := fun hl => hno (anc_spec h.dc 60 11 10 (by kernel_rfl) hl)
      have c0 := ((h.w.1 hn).cell (p := ⟨ab, off + (k + 1), none⟩) hab).trans hy
      obtain ⟨h1, h2, h3⟩ := flds (d := some 56) (p := Op.load 3 (.tmp 55)) (g := none) ho (by kernel_rfl)
      have g0 := (show a'.eval (.tmp 55) = .pointer (some ⟨ab, off + (k + 1), none⟩) from h.e 9 (by decide) (dep ho hall 9 (by kernel_rfl)) _ rfl)
      refine og_plain ho h3 trivial ?_
      unfold Oper.wp
      simp only [execOp, h2, g0]
      go_simp
      exact h.next hcg hKD ho hall (by decide) (by decide) (by decide) inj hz hu rfl
    | 11, _ =>
      refine og_call4 (g := none) ho 12 (.tmp 46) (.tmp 47) (.tmp 51) (.tmp 56) 24 23 3 3 (d := some 57) (by kernel_rfl) trivial Try.func12 rfl (by kernel_rfl) (by rw [(show a'.eval (.tmp 46) = .pointer (some ⟨r, 0, none⟩) from h.e 0 (by decide) (dep ho hall 0 (by kernel_rfl)) _ rfl), (show a'.eval (.tmp 47) = .slice av n c from h.e 1 (by decide) (dep ho hall 1 (by kernel_rfl)) _ rfl), (show a'.eval (.tmp 51) = .int .i64 x from h.e 5 (by decide) (dep ho hall 5 (by kernel_rfl)) _ rfl), (show a'.eval (.tmp 56) = .int .i64 y from h.e 10 (by decide) (dep ho hall 10 (by kernel_rfl)) _ rfl)]; exact lput_any O r g Ns u (hD.below (h.w.1 hno)) av n c xs (hE.below (h.w.1 hno)) hwf x y hn1 hn2 hg) ?_
      rintro e w' ⟨f, t, q1, q2, rfl, q3⟩
      refine ⟨_, rfl, h.put ho hall (by decide) inj hz hu (fun v' hv' => by injection hv') (fun val h1 h2 => ?_)⟩
      exact ⟨fun hn => absurd ((hu 11).2 (.inl rfl)) hn, fun _ => LpP.of ⟨f, t, q1, q2, q3⟩ (h.w.1 hno)⟩
    | 12, _ =>
      refine og_move (g := none) ho (.tmp 57) (d := some 45) (by kernel_rfl) trivial (show a'.eval (.tmp 57) = .tuple #[.int .i64 ((g + 1 : Nat) : Int), .int .i64 0] from h.e 11 (by decide) (dep ho hall 11 (by kernel_rfl)) _ rfl) ?_
      exact h.next hcg hKD ho hall (by decide) (by decide) (by decide) inj hz hu rfl
    | 13, _ =>
      obtain ⟨h1, h2, h3⟩ := flds (d := some 58) (p := Op.extract (.tmp 45) 0) (g := none) ho (by kernel_rfl)
      have g0 := (show a'.eval (.tmp 45) = .tuple #[.int .i64 ((g + 1 : Nat) : Int), .int .i64 0] from h.e 12 (by decide) (dep ho hall 12 (by kernel_rfl)) _ rfl)
      refine og_plain ho h3 trivial ?_
      unfold Oper.wp
      simp only [execOp, h2, g0]
      go_simp
      exact h.next hcg hKD ho hall (by decide) (by decide) (by decide) inj hz hu rfl
    | 14, _ =>
      obtain ⟨h1, h2, h3⟩ := flds (d := some 59) (p := Op.extract (.tmp 45) 1) (g := none) ho (by kernel_rfl)
      have g0 := (show a'.eval (.tmp 45) = .tuple #[.int .i64 ((g + 1 : Nat) : Int), .int .i64 0] from h.e 12 (by decide) (dep ho hall 12 (by kernel_rfl)) _ rfl)
      refine og_plain ho h3 trivial ?_
      unfold Oper.wp
      simp only [execOp, h2, g0]
      go_simp
      exact h.next hcg hKD ho hall (by decide) (by decide) (by decide) inj hz hu rfl
    | 15, _ =>
      refine og_assign (g := none) ho (.tmp 58) (d := some 13) (by kernel_rfl) trivial (show a'.eval (.tmp 58) = .int .i64 ((g + 1 : Nat) : Int) from h.e 13 (by decide) (dep ho hall 13 (by kernel_rfl)) _ rfl) ?_
      exact h.next hcg hKD ho hall (by decide) (by decide) (by decide) inj hz hu rfl
    | 16, _ =>
      refine og_assign (g := none) ho (.tmp 59) (d := some 14) (by kernel_rfl) trivial (show a'.eval (.tmp 59) = .int .i64 0 from h.e 14 (by decide) (dep ho hall 14 (by kernel_rfl)) _ rfl) ?_
      exact h.next hcg hKD ho hall (by decide) (by decide) (by decide) inj hz hu rfl
    | i + 17, hi => omega
  · rintro L a' u h hall
    rw [opsLpS_size] at hall
    rw [h.done hz]
    refine hK L _ u hall h.w (fun j => ?_)
    by_cases hj : j ∈ DLpS
    · cases hv : (VLpS r g n c k ab off nT cT av x y) j with
      | none => exact .inl rfl
      | some v =>
        refine .inr (.inl ?_)
        have hjN : j < 17 := by
          have hh : DLpS.all (fun i => decide (i < 17)) = true := by kernel_rfl
          exact of_decide_eq_true (List.all_eq_true.1 hh j hj)
        rw [h.e j hj (hall j hjN) v hv]
    · exact .inr (.inr hj)
  · intro L hL
    refine JR.start hL ?_
    exact ⟨fun _ => (Below.refl _ _).drew, fun h => absurd h (hL 11)⟩

noncomputable def opsLpC : Array Oper := (Try.f3.body.bind (opsAt 10)).getD #[]
theorem opsLpC_size : opsLpC.size = 17 := by kernel_rfl
theorem opsLpC_earlier : Earlier opsLpC := by
  have h : (List.range 17).all (fun i => ((opsLpC[i]?).map (fun o => o.after.all (fun e => !Region.binds .any e || decide (e.on < i)))).getD true) = true := by kernel_rfl
  intro i o ho e he hb
  have hi : i < 17 := by
    have := (Array.getElem?_eq_some_iff.1 ho).1
    rwa [opsLpC_size] at this
  have h1 := List.all_eq_true.1 h i (List.mem_range.2 hi)
  rw [ho] at h1
  simp only [Option.map_some, Option.getD_some, Array.all_eq_true'] at h1
  have h2 := h1 e he
  rw [hb] at h2
  simpa using h2
def slLpC (j : Nat) : Nat := ([45, 46, 47, 48, 49, 50, 51, 52, 53, 54, 55, 56, 44, 57, 58, 13, 14] : List Nat).getD j 0
def DLpC : List Nat := [0, 1, 2, 3, 4, 5, 6, 7, 8, 9, 10, 11, 12, 13, 14, 15, 16]
def VLpC (r g n c k ab off nT cT : Nat) (av : Option Addr) (x y : Int) (j : Nat) : Option Value := [some (.pointer (some ⟨r, 0, none⟩)), some (.slice av n c), some (.slice (some ⟨ab, off, none⟩) nT cT), some (.int .i64 (k : Int)), some (.pointer (some ⟨ab, off + k, none⟩)), some (.int .i64 x), some (.slice (some ⟨ab, off, none⟩) nT cT), some (.int .i64 (k : Int)), some (.int .i64 ((k : Int) + 1)), some (.pointer (some ⟨ab, off + (k + 1), none⟩)), some (.int .i64 y), some (.tuple #[.int .i64 ((g + 1 : Nat) : Int), .int .i64 0]), some (.tuple #[.int .i64 ((g + 1 : Nat) : Int), .int .i64 0]), some (.int .i64 ((g + 1 : Nat) : Int)), some (.int .i64 0), some (.int .i64 ((g + 1 : Nat) : Int)), some (.int .i64 0)].getD j none
set_option maxRecDepth 100000 in
set_option maxHeartbeats 4000000 in
theorem regLpC (a0 : Act) (w : World) {Q : Exit → Act → World → Prop} (O : Nat → Prop) (r g n c k ab off nT cT : Nat) (av : Option Addr) (Ns : List Nt) (xs : List El) (x y : Int) (hD : BD w O r g Ns) (hE : IsE w av n c xs) (hwf : ∀ x ∈ xs, wfE x) (hn1 : 1 ≤ n) (hn2 : n ≤ 10000) (hg : g < 256) (hk : k + 1 < nT) (hTc : nT ≤ cT) (hT63 : cT ≤ 9223372036854775807) (hab : ab < w.heap.size) (hx : w.cell? ⟨ab, off + k, none⟩ = some (.int .i64 x)) (hy : w.cell? ⟨ab, off + (k + 1), none⟩ = some (.int .i64 y)) (hzz : 58 < a0.tmps.size) (H7 : a0.eval (.tmp 7) = .pointer (some ⟨r, 0, none⟩)) (H10 : a0.eval (.tmp 10) = .slice av n c) (H1 : a0.eval (.tmp 1) = .slice (some ⟨ab, off, none⟩) nT cT) (H12 : a0.eval (.tmp 12) = .int .i64 (k : Int))
    (hK : ∀ (L : Nat → Prop) (val : Nat → Value) (u : World), (∀ i, i < 17 → L i) → WLp w O r g Ns n xs L val u → (∀ j, (VLpC r g n c k ab off nT cT av x y) j = none ∨ (VLpC r g n c k ab off nT cT av x y) j = some (val j) ∨ j ∉ DLpC) → Q .normal (puts a0 (DLpC.map fun j => (slLpC j, val j))) u) :
    (Code.region 10 opsLpC true).wp Try.prog Q a0 w := by
  have inj : ∀ i ∈ DLpC, ∀ j ∈ DLpC, slLpC i = slLpC j → i = j := by
    have h : DLpC.all (fun i => DLpC.all (fun j => decide (slLpC i = slLpC j → i = j))) = true := by kernel_rfl
    intro i hi j hj he
    exact (of_decide_eq_true (List.all_eq_true.1 (List.all_eq_true.1 h i hi) j hj)) he
  have hz : ∀ j ∈ DLpC, slLpC j < a0.tmps.size := by
    have h : DLpC.all (fun i => decide (slLpC i ≤ 58)) = true := by kernel_rfl
    intro j hj
    have := of_decide_eq_true (List.all_eq_true.1 h j hj)
    omega
  have hcg : ∀ (L L' : Nat → Prop) (val val' : Nat → Value) u, (∀ k ∈ ([11] : List Nat), (L' k ↔ L k)) → (∀ k ∈ ([] : List Nat), val' k = val k) → WLp w O r g Ns n xs L val u → WLp w O r g Ns n xs L' val' u := by
    intro L L' val val' u hl hv hw
    simp at hl hv
    unfold WLp at hw ⊢
    simp only [hl]
    exact hw
  have hKD : ∀ k ∈ ([] : List Nat), k ∈ DLpC := by decide
  refine wp_region_inv (by kernel_rfl) opsLpC_earlier (fun L a u => JR opsLpC slLpC DLpC (VLpC r g n c k ab off nT cT av x y) a0 (WLp w O r g Ns n xs) L a u) ?_ ?_ ?_
  · rintro L L' a' u i o h ho hno hall hu
    clear hK
    have q7 := (h.fe.ev (j := 7) (by decide)).trans H7
    have q10 := (h.fe.ev (j := 10) (by decide)).trans H10
    have q1 := (h.fe.ev (j := 1) (by decide)).trans H1
    have q12 := (h.fe.ev (j := 12) (by decide)).trans H12
    have hi : i < 17 := by
      have := (Array.getElem?_eq_some_iff.1 ho).1
      rwa [opsLpC_size] at this
    match i, hi with
    | 0, _ =>
      refine og_move (g := none) ho (.tmp 7) (d := some 45) (by kernel_rfl) trivial q7 ?_
      exact h.next hcg hKD ho hall (by decide) (by decide) (by decide) inj hz hu rfl
    | 1, _ =>
      refine og_move (g := none) ho (.tmp 10) (d := some 46) (by kernel_rfl) trivial q10 ?_
      exact h.next hcg hKD ho hall (by decide) (by decide) (by decide) inj hz hu rfl
    | 2, _ =>
      refine og_move (g := none) ho (.tmp 1) (d := some 47) (by kernel_rfl) trivial q1 ?_
      exact h.next hcg hKD ho hall (by decide) (by decide) (by decide) inj hz hu rfl
    | 3, _ =>
      refine og_move (g := none) ho (.tmp 12) (d := some 48) (by kernel_rfl) trivial q12 ?_
      exact h.next hcg hKD ho hall (by decide) (by decide) (by decide) inj hz hu rfl
    | 4, _ =>
      have i1 : (k : Int) < (nT : Int) := by omega
      have i2 : (k : Int) + 1 < (nT : Int) := by omega
      obtain ⟨h1, h2, h3⟩ := flds (d := some 49) (p := Op.indexAddr 22 (.tmp 47) (.tmp 48)) (g := none) ho (by kernel_rfl)
      have g0 := (show a'.eval (.tmp 47) = .slice (some ⟨ab, off, none⟩) nT cT from h.e 2 (by decide) (dep ho hall 2 (by kernel_rfl)) _ rfl)
      have g1 := (show a'.eval (.tmp 48) = .int .i64 (k : Int) from h.e 3 (by decide) (dep ho hall 3 (by kernel_rfl)) _ rfl)
      refine og_plain ho h3 trivial ?_
      unfold Oper.wp
      simp only [execOp, h2, g0, g1]
      go_simp
      exact h.next hcg hKD ho hall (by decide) (by decide) (by decide) inj hz hu rfl
    | 5, _ =>
      have hn : ¬ L 11 := fun hl => hno (anc_spec h.dc 60 11 5 (by kernel_rfl) hl)
      have c0 := ((h.w.1 hn).cell (p := ⟨ab, off + k, none⟩) hab).trans hx
      obtain ⟨h1, h2, h3⟩ := flds (d := some 50) (p := Op.load 3 (.tmp 49)) (g := none) ho (by kernel_rfl)
      have g0 := (show a'.eval (.tmp 49) = .pointer (some ⟨ab, off + k, none⟩) from h.e 4 (by decide) (dep ho hall 4 (by kernel_rfl)) _ rfl)
      refine og_plain ho h3 trivial ?_
      unfold Oper.wp
      simp only [execOp, h2, g0]
      go_simp
      exact h.next hcg hKD ho hall (by decide) (by decide) (by decide) inj hz hu rfl
    | 6, _ =>
      refine og_move (g := none) ho (.tmp 1) (d := some 51) (by kernel_rfl) trivial q1 ?_
      exact h.next hcg hKD ho hall (by decide) (by decide) (by decide) inj hz hu rfl
    | 7, _ =>
      refine og_move (g := none) ho (.tmp 12) (d := some 52) (by kernel_rfl) trivial q12 ?_
      exact h.next hcg hKD ho hall (by decide) (by decide) (by decide) inj hz hu rfl
    | 8, _ =>
      have hw : IntKind.i64.wrap ((k : Int) + 1) = (k : Int) + 1 := by rw [IntKind.wrap_i64]; omega
      obtain ⟨h1, h2, h3⟩ := flds (d := some 53) (p := Op.binOp .add 3 (.tmp 52) (.const (.int .i64 1)) 3) (g := none) ho (by kernel_rfl)
      have g0 := (show a'.eval (.tmp 52) = .int .i64 (k : Int) from h.e 7 (by decide) (dep ho hall 7 (by kernel_rfl)) _ rfl)
      refine og_plain ho h3 trivial ?_
      unfold Oper.wp
      simp only [execOp, h2, g0]
      go_simp
      exact h.next hcg hKD ho hall (by decide) (by decide) (by decide) inj hz hu rfl
    | 9, _ =>
      have i1 : (k : Int) < (nT : Int) := by omega
      have i2 : (k : Int) + 1 < (nT : Int) := by omega
      have i3 : 0 ≤ (k : Int) + 1 := by omega
      obtain ⟨h1, h2, h3⟩ := flds (d := some 54) (p := Op.indexAddr 22 (.tmp 51) (.tmp 53)) (g := none) ho (by kernel_rfl)
      have g0 := (show a'.eval (.tmp 51) = .slice (some ⟨ab, off, none⟩) nT cT from h.e 6 (by decide) (dep ho hall 6 (by kernel_rfl)) _ rfl)
      have g1 := (show a'.eval (.tmp 53) = .int .i64 ((k : Int) + 1) from h.e 8 (by decide) (dep ho hall 8 (by kernel_rfl)) _ rfl)
      refine og_plain ho h3 trivial ?_
      unfold Oper.wp
      simp only [execOp, h2, g0, g1]
      go_simp
      exact h.next hcg hKD ho hall (by decide) (by decide) (by decide) inj hz hu rfl
    | 10, _ =>
      have hn : ¬ L 11 := fun hl => hno (anc_spec h.dc 60 11 10 (by kernel_rfl) hl)
      have c0 := ((h.w.1 hn).cell (p := ⟨ab, off + (k + 1), none⟩) hab).trans hy
      obtain ⟨h1, h2, h3⟩ := flds (d := some 55) (p := Op.load 3 (.tmp 54)) (g := none) ho (by kernel_rfl)
      have g0 := (show a'.eval (.tmp 54) = .pointer (some ⟨ab, off + (k + 1), none⟩) from h.e 9 (by decide) (dep ho hall 9 (by kernel_rfl)) _ rfl)
      refine og_plain ho h3 trivial ?_
      unfold Oper.wp
      simp only [execOp, h2, g0]
      go_simp
      exact h.next hcg hKD ho hall (by decide) (by decide) (by decide) inj hz hu rfl
    | 11, _ =>
      refine og_call4 (g := none) ho 12 (.tmp 45) (.tmp 46) (.tmp 50) (.tmp 55) 24 23 3 3 (d := some 56) (by kernel_rfl) trivial Try.func12 rfl (by kernel_rfl) (by rw [(show a'.eval (.tmp 45) = .pointer (some ⟨r, 0, none⟩) from h.e 0 (by decide) (dep ho hall 0 (by kernel_rfl)) _ rfl), (show a'.eval (.tmp 46) = .slice av n c from h.e 1 (by decide) (dep ho hall 1 (by kernel_rfl)) _ rfl), (show a'.eval (.tmp 50) = .int .i64 x from h.e 5 (by decide) (dep ho hall 5 (by kernel_rfl)) _ rfl), (show a'.eval (.tmp 55) = .int .i64 y from h.e 10 (by decide) (dep ho hall 10 (by kernel_rfl)) _ rfl)]; exact lput_any O r g Ns u (hD.below (h.w.1 hno)) av n c xs (hE.below (h.w.1 hno)) hwf x y hn1 hn2 hg) ?_
      rintro e w' ⟨f, t, q1, q2, rfl, q3⟩
      refine ⟨_, rfl, h.put ho hall (by decide) inj hz hu (fun v' hv' => by injection hv') (fun val h1 h2 => ?_)⟩
      exact ⟨fun hn => absurd ((hu 11).2 (.inl rfl)) hn, fun _ => LpP.of ⟨f, t, q1, q2, q3⟩ (h.w.1 hno)⟩
    | 12, _ =>
      refine og_move (g := none) ho (.tmp 56) (d := some 44) (by kernel_rfl) trivial (show a'.eval (.tmp 56) = .tuple #[.int .i64 ((g + 1 : Nat) : Int), .int .i64 0] from h.e 11 (by decide) (dep ho hall 11 (by kernel_rfl)) _ rfl) ?_
      exact h.next hcg hKD ho hall (by decide) (by decide) (by decide) inj hz hu rfl
    | 13, _ =>
      obtain ⟨h1, h2, h3⟩ := flds (d := some 57) (p := Op.extract (.tmp 44) 0) (g := none) ho (by kernel_rfl)
      have g0 := (show a'.eval (.tmp 44) = .tuple #[.int .i64 ((g + 1 : Nat) : Int), .int .i64 0] from h.e 12 (by decide) (dep ho hall 12 (by kernel_rfl)) _ rfl)
      refine og_plain ho h3 trivial ?_
      unfold Oper.wp
      simp only [execOp, h2, g0]
      go_simp
      exact h.next hcg hKD ho hall (by decide) (by decide) (by decide) inj hz hu rfl
    | 14, _ =>
      obtain ⟨h1, h2, h3⟩ := flds (d := some 58) (p := Op.extract (.tmp 44) 1) (g := none) ho (by kernel_rfl)
      have g0 := (show a'.eval (.tmp 44) = .tuple #[.int .i64 ((g + 1 : Nat) : Int), .int .i64 0] from h.e 12 (by decide) (dep ho hall 12 (by kernel_rfl)) _ rfl)
      refine og_plain ho h3 trivial ?_
      unfold Oper.wp
      simp only [execOp, h2, g0]
      go_simp
      exact h.next hcg hKD ho hall (by decide) (by decide) (by decide) inj hz hu rfl
    | 15, _ =>
      refine og_assign (g := none) ho (.tmp 57) (d := some 13) (by kernel_rfl) trivial (show a'.eval (.tmp 57) = .int .i64 ((g + 1 : Nat) : Int) from h.e 13 (by decide) (dep ho hall 13 (by kernel_rfl)) _ rfl) ?_
      exact h.next hcg hKD ho hall (by decide) (by decide) (by decide) inj hz hu rfl
    | 16, _ =>
      refine og_assign (g := none) ho (.tmp 58) (d := some 14) (by kernel_rfl) trivial (show a'.eval (.tmp 58) = .int .i64 0 from h.e 14 (by decide) (dep ho hall 14 (by kernel_rfl)) _ rfl) ?_
      exact h.next hcg hKD ho hall (by decide) (by decide) (by decide) inj hz hu rfl
    | i + 17, hi => omega
  · rintro L a' u h hall
    rw [opsLpC_size] at hall
    rw [h.done hz]
    refine hK L _ u hall h.w (fun j => ?_)
    by_cases hj : j ∈ DLpC
    · cases hv : (VLpC r g n c k ab off nT cT av x y) j with
      | none => exact .inl rfl
      | some v =>
        refine .inr (.inl ?_)
        have hjN : j < 17 := by
          have hh : DLpC.all (fun i => decide (i < 17)) = true := by kernel_rfl
          exact of_decide_eq_true (List.all_eq_true.1 hh j hj)
        rw [h.e j hj (hall j hjN) v hv]
    · exact .inr (.inr hj)
  · intro L hL
    refine JR.start hL ?_
    exact ⟨fun _ => (Below.refl _ _).drew, fun h => absurd h (hL 11)⟩

end Go.Proofs.Ytkkklfnooeofcaa
