/-
  Texts put together: Ia Ib Ic.
-/
import Derived.Test.YtkkklfnooeofcabMRa
/-! Ia -/
namespace Go.Proofs.Ytkkklfnooeofcab
open Go.RowKit Go.Maps Go.ChangeMaps Go.MapKept Go.WideMaps
set_option linter.unusedVariables false

def WIn (w : World) (id p q n c : Nat) (aq : Option Addr) (cc : Int) (wo : ByteArray) (sh : Bool) (L : Nat → Prop) (val : Nat → Value) (u : World) : Prop :=
  Below w.heap.size w u ∧
  (L 7 → ∃ k, val 7 = .pointer (some ⟨k, 0, none⟩) ∧ w.heap.size ≤ k ∧ ∃ cs, u.heap[k]? = some (.cells cs 98 (0, 0)) ∧ (¬ L 9 → cs = #[.int .i64 0, .int .i64 0]) ∧ (L 9 → cs = #[.int .i64 (p : Int), .int .i64 (q : Int)])) ∧
  (L 8 → ∃ k, val 8 = .pointer (some ⟨k, 0, none⟩) ∧ w.heap.size ≤ k ∧ ∃ cs, u.heap[k]? = some (.cells cs 47 (0, 0)) ∧ (¬ L 10 → cs = #[.int .i64 0, .int .i64 0, .string ⟨#[]⟩, .int .i64 0, .int .i64 0, .bool false, .bool false, .slice none 0 0]) ∧ (L 10 → cs = #[.int .i64 (id : Int), .int .i64 cc, .string wo, .int .i64 0, .int .i64 0, .bool false, .bool sh, .slice aq n c]))

section
variable {w : World} {id p q n c : Nat} {aq : Option Addr} {cc : Int} {wo : ByteArray} {sh : Bool} {L L' : Nat → Prop} {val val' : Nat → Value} {u u' : World}
theorem fr_sets8 (u : World) (k : Nat) (a0 a1 a2 a3 a4 a5 a6 a7 : Value) : Fr (· = k) u ((((((((u.setCell ⟨k, 0, none⟩ a0).setCell ⟨k, 1, none⟩ a1).setCell ⟨k, 2, none⟩ a2).setCell ⟨k, 3, none⟩ a3).setCell ⟨k, 4, none⟩ a4).setCell ⟨k, 5, none⟩ a5).setCell ⟨k, 6, none⟩ a6).setCell ⟨k, 7, none⟩ a7) := by
  have s : ∀ (v : World) (i : Nat) (y : Value), Fr (· = k) v (v.setCell ⟨k, i, none⟩ y) := fun v i y => Fr.setCell v ⟨k, i, none⟩ y rfl
  exact (((((((s _ _ _).trans (s _ _ _)).trans (s _ _ _)).trans (s _ _ _)).trans (s _ _ _)).trans (s _ _ _)).trans (s _ _ _)).trans (s _ _ _)
theorem set8_row {u : World} {k : Nat} {t : TypeId} {b0 b1 b2 b3 b4 b5 b6 b7 : Value} (h : u.heap[k]? = some (.cells #[b0, b1, b2, b3, b4, b5, b6, b7] t (0, 0))) (a0 a1 a2 a3 a4 a5 a6 a7 : Value) : ((((((((u.setCell ⟨k, 0, none⟩ a0).setCell ⟨k, 1, none⟩ a1).setCell ⟨k, 2, none⟩ a2).setCell ⟨k, 3, none⟩ a3).setCell ⟨k, 4, none⟩ a4).setCell ⟨k, 5, none⟩ a5).setCell ⟨k, 6, none⟩ a6).setCell ⟨k, 7, none⟩ a7).heap[k]? = some (.cells #[a0, a1, a2, a3, a4, a5, a6, a7] t (0, 0)) := by
  have := set_row (set_row (set_row (set_row (set_row (set_row (set_row (set_row h 0 a0) 1 a1) 2 a2) 3 a3) 4 a4) 5 a5) 6 a6) 7 a7
  simpa using this

theorem WIn.keep {i : Nat} (h : WIn w id p q n c aq cc wo sh L val u) (hu : ∀ j, L' j ↔ (j = i ∨ L j)) (hi : i ≠ 7 ∧ i ≠ 8 ∧ i ≠ 9 ∧ i ≠ 10) (hb : Below w.heap.size w u') (hF : Fr (fun _ => False) u u') (e7 : val' 7 = val 7) (e8 : val' 8 = val 8) : WIn w id p q n c aq cc wo sh L' val' u' := by
  obtain ⟨h1, h2, h3⟩ := h
  have l : ∀ k, k ≠ i → (L' k ↔ L k) := fun k hk => ⟨fun hl => ((hu k).1 hl).resolve_left hk, fun hl => (hu k).2 (.inr hl)⟩
  refine ⟨hb, fun a => ?_, fun a => ?_⟩
  · obtain ⟨k, k1, k2, cs, k3, k4, k5⟩ := h2 ((l 7 (by omega)).1 a)
    exact ⟨k, by rw [e7]; exact k1, k2, cs, hF.keeps k3 (fun h => h), fun a => k4 (fun b => a ((l 9 (by omega)).2 b)), fun a => k5 ((l 9 (by omega)).1 a)⟩
  · obtain ⟨k, k1, k2, cs, k3, k4, k5⟩ := h3 ((l 8 (by omega)).1 a)
    exact ⟨k, by rw [e8]; exact k1, k2, cs, hF.keeps k3 (fun h => h), fun a => k4 (fun b => a ((l 10 (by omega)).2 b)), fun a => k5 ((l 10 (by omega)).1 a)⟩
theorem WIn.call (h : WIn w id p q n c aq cc wo sh L val u) (hu : ∀ j, L' j ↔ (j = 2 ∨ L j)) (hb : Below u.heap.size u u') (e7 : val' 7 = val 7) (e8 : val' 8 = val 8) : WIn w id p q n c aq cc wo sh L' val' u' :=
  h.keep hu (by omega) (h.1.trans (hb.mono h.1.size)) (Fr.of_below hb) e7 e8
theorem WIn.span (h : WIn w id p q n c aq cc wo sh L val u) (hu : ∀ j, L' j ↔ (j = 7 ∨ L j)) (hn : ¬ L 9) (hv : val' 7 = .pointer (some ⟨u.heap.size, 0, none⟩)) (e8 : val' 8 = val 8) : WIn w id p q n c aq cc wo sh L' val' (u.alloc (.cells #[.int .i64 0, .int .i64 0] 98)) := by
  obtain ⟨h1, h2, h3⟩ := h
  have l : ∀ k, k ≠ 7 → (L' k ↔ L k) := fun k hk => ⟨fun hl => ((hu k).1 hl).resolve_left hk, fun hl => (hu k).2 (.inr hl)⟩
  refine ⟨h1.alloc h1.size _, fun _ => ⟨_, hv, h1.size, _, heap_alloc_new u _, fun _ => rfl, fun a => absurd ((l 9 (by omega)).1 a) hn⟩, fun a => ?_⟩
  obtain ⟨k, k1, k2, cs, k3, k4, k5⟩ := h3 ((l 8 (by omega)).1 a)
  exact ⟨k, by rw [e8]; exact k1, k2, cs, (Fr.alloc (fun _ => False) u _).keeps k3 (fun h => h), fun a => k4 (fun b => a ((l 10 (by omega)).2 b)), fun a => k5 ((l 10 (by omega)).1 a)⟩
theorem WIn.note (h : WIn w id p q n c aq cc wo sh L val u) (hu : ∀ j, L' j ↔ (j = 8 ∨ L j)) (hn : ¬ L 10) (hv : val' 8 = .pointer (some ⟨u.heap.size, 0, none⟩)) (e7 : val' 7 = val 7) : WIn w id p q n c aq cc wo sh L' val' (u.alloc (.cells #[.int .i64 0, .int .i64 0, .string ⟨#[]⟩, .int .i64 0, .int .i64 0, .bool false, .bool false, .slice none 0 0] 47)) := by
  obtain ⟨h1, h2, h3⟩ := h
  have l : ∀ k, k ≠ 8 → (L' k ↔ L k) := fun k hk => ⟨fun hl => ((hu k).1 hl).resolve_left hk, fun hl => (hu k).2 (.inr hl)⟩
  refine ⟨h1.alloc h1.size _, fun a => ?_, fun _ => ⟨_, hv, h1.size, _, heap_alloc_new u _, fun _ => rfl, fun a => absurd ((l 10 (by omega)).1 a) hn⟩⟩
  obtain ⟨k, k1, k2, cs, k3, k4, k5⟩ := h2 ((l 7 (by omega)).1 a)
  exact ⟨k, by rw [e7]; exact k1, k2, cs, (Fr.alloc (fun _ => False) u _).keeps k3 (fun h => h), fun a => k4 (fun b => a ((l 9 (by omega)).2 b)), fun a => k5 ((l 9 (by omega)).1 a)⟩
theorem WIn.fill {k : Nat} (h : WIn w id p q n c aq cc wo sh L val u) (hu : ∀ j, L' j ↔ (j = 9 ∨ L j)) (hn : ¬ L 9) (l7 : L 7) (hv : val 7 = .pointer (some ⟨k, 0, none⟩)) : WIn w id p q n c aq cc wo sh L' val ((u.setCell ⟨k, 0, none⟩ (.int .i64 (p : Int))).setCell ⟨k, 1, none⟩ (.int .i64 (q : Int))) := by
  obtain ⟨h1, h2, h3⟩ := h
  have l : ∀ k, k ≠ 9 → (L' k ↔ L k) := fun k hk => ⟨fun hl => ((hu k).1 hl).resolve_left hk, fun hl => (hu k).2 (.inr hl)⟩
  have hF := fr_set2 u k 0 1 (.int .i64 (p : Int)) (.int .i64 (q : Int))
  obtain ⟨k', k1, k2, cs, k3, k4, k5⟩ := h2 l7
  rw [hv] at k1
  obtain rfl : k = k' := by simpa using k1
  obtain rfl := k4 hn
  refine ⟨h1.trans (hF.below h1.size (fun j hj => by omega)), fun _ => ⟨k, hv, k2, _, ?_, fun a => absurd ((hu 9).2 (.inl rfl)) a, fun _ => rfl⟩, fun a => ?_⟩
  · have := set_row (set_row k3 0 (.int .i64 (p : Int))) 1 (.int .i64 (q : Int))
    simpa using this
  · obtain ⟨j, j1, j2, ds, j3, j4, j5⟩ := h3 ((l 8 (by omega)).1 a)
    exact ⟨j, j1, j2, ds, hF.keeps j3 (fun e => ty_ne j3 k3 (by decide) e), fun a => j4 (fun b => a ((l 10 (by omega)).2 b)), fun a => j5 ((l 10 (by omega)).1 a)⟩
theorem WIn.fill8 {k : Nat} (h : WIn w id p q n c aq cc wo sh L val u) (hu : ∀ j, L' j ↔ (j = 10 ∨ L j)) (hn : ¬ L 10) (l8 : L 8) (hv : val 8 = .pointer (some ⟨k, 0, none⟩)) : WIn w id p q n c aq cc wo sh L' val ((((((((u.setCell ⟨k, 0, none⟩ (.int .i64 (id : Int))).setCell ⟨k, 1, none⟩ (.int .i64 cc)).setCell ⟨k, 2, none⟩ (.string wo)).setCell ⟨k, 3, none⟩ (.int .i64 0)).setCell ⟨k, 4, none⟩ (.int .i64 0)).setCell ⟨k, 5, none⟩ (.bool false)).setCell ⟨k, 6, none⟩ (.bool sh)).setCell ⟨k, 7, none⟩ (.slice aq n c)) := by
  obtain ⟨h1, h2, h3⟩ := h
  have l : ∀ k, k ≠ 10 → (L' k ↔ L k) := fun k hk => ⟨fun hl => ((hu k).1 hl).resolve_left hk, fun hl => (hu k).2 (.inr hl)⟩
  have hF := fr_sets8 u k (.int .i64 (id : Int)) (.int .i64 cc) (.string wo) (.int .i64 0) (.int .i64 0) (.bool false) (.bool sh) (.slice aq n c)
  obtain ⟨k', k1, k2, cs, k3, k4, k5⟩ := h3 l8
  rw [hv] at k1
  obtain rfl : k = k' := by simpa using k1
  obtain rfl := k4 hn
  refine ⟨h1.trans (hF.below h1.size (fun j hj => by omega)), fun a => ?_, fun _ => ⟨k, hv, k2, _, set8_row k3 (.int .i64 (id : Int)) (.int .i64 cc) (.string wo) (.int .i64 0) (.int .i64 0) (.bool false) (.bool sh) (.slice aq n c), fun a => absurd ((hu 10).2 (.inl rfl)) a, fun _ => rfl⟩⟩
  obtain ⟨j, j1, j2, ds, j3, j4, j5⟩ := h2 ((l 7 (by omega)).1 a)
  exact ⟨j, j1, j2, ds, hF.keeps j3 (fun e => ty_ne j3 k3 (by decide) e), fun a => j4 (fun b => a ((l 9 (by omega)).2 b)), fun a => j5 ((l 9 (by omega)).1 a)⟩
end

noncomputable def opsIn : Array Oper := (Try.f30.body.bind (opsAt 1)).getD #[]
theorem opsIn_size : opsIn.size = 11 := by kernel_rfl
theorem opsIn_earlier : Earlier opsIn := by
  have h : (List.range 11).all (fun i => ((opsIn[i]?).map (fun o => o.after.all (fun e => !Region.binds .any e || decide (e.on < i)))).getD true) = true := by kernel_rfl
  intro i o ho e he hb
  have hi : i < 11 := by
    have := (Array.getElem?_eq_some_iff.1 ho).1
    rwa [opsIn_size] at this
  have h1 := List.all_eq_true.1 h i (List.mem_range.2 hi)
  rw [ho] at h1
  simp only [Option.map_some, Option.getD_some, Array.all_eq_true'] at h1
  have h2 := h1 e he
  rw [hb] at h2
  simpa using h2
def slIn (j : Nat) : Nat := ([7, 8, 9, 10, 11, 12, 13, 5, 6, 909, 910] : List Nat).getD j 0
def DIn : List Nat := [0, 1, 2, 3, 4, 5, 6, 7, 8]
def VIn (x b id p q n c : Nat) (aq : Option Addr) (cc : Int) (wo : ByteArray) (sh : Bool) (j : Nat) : Option Value := [some (.pointer (some ⟨x, 0, none⟩)), some (.map (some b)), some (.agg #[.int .i64 (p : Int), .int .i64 (q : Int)]), some (.pointer (some ⟨x, 0, none⟩)), some (.pointer (some ⟨x, 0, none⟩)), some (.pointer (some ⟨x, 0, none⟩)), some (.agg #[.int .i64 (id : Int), .int .i64 cc, .string wo, .int .i64 0, .int .i64 0, .bool false, .bool sh, .slice aq n c]), none, none, none, none].getD j none
set_option maxRecDepth 100000 in
set_option maxHeartbeats 4000000 in
theorem regIn (a0 : Act) (w : World) {Q : Exit → Act → World → Prop} (x b id p q n c : Nat) (aq : Option Addr) (cc : Int) (wo : ByteArray) (sh : Bool) (hx : x < w.heap.size) (hx0 : w.cell? ⟨x, 0, none⟩ = some (.int .i64 (id : Int))) (hx1 : w.cell? ⟨x, 1, none⟩ = some (.int .i64 cc)) (hx2 : w.cell? ⟨x, 2, none⟩ = some (.string wo)) (hx3 : w.cell? ⟨x, 3, none⟩ = some (.int .i64 0)) (hx4 : w.cell? ⟨x, 4, none⟩ = some (.int .i64 0)) (hx5 : w.cell? ⟨x, 5, none⟩ = some (.bool false)) (hx6 : w.cell? ⟨x, 6, none⟩ = some (.bool sh)) (hx7 : w.cell? ⟨x, 7, none⟩ = some (.slice aq n c)) (hC : ∀ u, Below w.heap.size w u → Calls Try.prog 44 #[.pointer (some ⟨x, 0, none⟩), .map (some b)] u fun e w' => e = .returned (.agg #[.int .i64 (p : Int), .int .i64 (q : Int)]) ∧ Below u.heap.size u w') (hzz : 13 < a0.tmps.size) (H0 : a0.eval (.tmp 0) = .pointer (some ⟨x, 0, none⟩)) (H1 : a0.eval (.tmp 1) = .map (some b))
    (hK : ∀ (L : Nat → Prop) (val : Nat → Value) (u : World), (∀ i, i < 11 → L i) → WIn w id p q n c aq cc wo sh L val u → (∀ j, (VIn x b id p q n c aq cc wo sh) j = none ∨ (VIn x b id p q n c aq cc wo sh) j = some (val j) ∨ j ∉ DIn) → Q .normal (puts a0 (DIn.map fun j => (slIn j, val j))) u) :
    (Code.region 1 opsIn true).wp Try.prog Q a0 w := by
  have inj : ∀ i ∈ DIn, ∀ j ∈ DIn, slIn i = slIn j → i = j := by
    have h : DIn.all (fun i => DIn.all (fun j => decide (slIn i = slIn j → i = j))) = true := by kernel_rfl
    intro i hi j hj he
    exact (of_decide_eq_true (List.all_eq_true.1 (List.all_eq_true.1 h i hi) j hj)) he
  have hz : ∀ j ∈ DIn, slIn j < a0.tmps.size := by
    have h : DIn.all (fun i => decide (slIn i ≤ 13)) = true := by kernel_rfl
    intro j hj
    have := of_decide_eq_true (List.all_eq_true.1 h j hj)
    omega
  have hcg : ∀ (L L' : Nat → Prop) (val val' : Nat → Value) u, (∀ k ∈ ([7, 8, 9, 10] : List Nat), (L' k ↔ L k)) → (∀ k ∈ ([7, 8] : List Nat), val' k = val k) → WIn w id p q n c aq cc wo sh L val u → WIn w id p q n c aq cc wo sh L' val' u := by
    intro L L' val val' u hl hv hw
    simp at hl hv
    unfold WIn at hw ⊢
    simp only [hl, hv]
    exact hw
  have hKD : ∀ k ∈ ([7, 8] : List Nat), k ∈ DIn := by decide
  refine wp_region_inv (by kernel_rfl) opsIn_earlier (fun L a u => JR opsIn slIn DIn (VIn x b id p q n c aq cc wo sh) a0 (WIn w id p q n c aq cc wo sh) L a u) ?_ ?_ ?_
  · rintro L L' a' u i o h ho hno hall hu
    clear hK
    have q0 := (h.fe.ev (j := 0) (by decide)).trans H0
    have q1 := (h.fe.ev (j := 1) (by decide)).trans H1
    have hi : i < 11 := by
      have := (Array.getElem?_eq_some_iff.1 ho).1
      rwa [opsIn_size] at this
    match i, hi with
    | 0, _ =>
      refine og_move (g := none) ho (.tmp 0) (d := some 7) (by kernel_rfl) trivial q0 ?_
      exact h.next hcg hKD ho hall (by decide) (by decide) (by decide) inj hz hu rfl
    | 1, _ =>
      refine og_move (g := none) ho (.tmp 1) (d := some 8) (by kernel_rfl) trivial q1 ?_
      exact h.next hcg hKD ho hall (by decide) (by decide) (by decide) inj hz hu rfl
    | 2, _ =>
      refine og_call2 (g := none) ho 44 (.tmp 7) (.tmp 8) 73 80 (d := some 9) (by kernel_rfl) trivial Try.func44 rfl (by kernel_rfl) (by rw [(show a'.eval (.tmp 7) = .pointer (some ⟨x, 0, none⟩) from h.e 0 (by decide) (dep ho hall 0 (by kernel_rfl)) _ rfl), (show a'.eval (.tmp 8) = .map (some b) from h.e 1 (by decide) (dep ho hall 1 (by kernel_rfl)) _ rfl)]; exact hC u h.w.1) ?_
      rintro e w' ⟨rfl, bw⟩
      refine ⟨_, rfl, h.put ho hall (by decide) inj hz hu (fun v' hv' => by injection hv') (fun val h1 h2 => ?_)⟩
      exact h.w.call hu bw (h2 7 (by decide) (by decide)) (h2 8 (by decide) (by decide))
    | 3, _ =>
      refine og_move (g := none) ho (.tmp 0) (d := some 10) (by kernel_rfl) trivial q0 ?_
      exact h.next hcg hKD ho hall (by decide) (by decide) (by decide) inj hz hu rfl
    | 4, _ =>
      refine og_nil (g := none) ho (.tmp 10) (d := some 11) (by kernel_rfl) trivial (show a'.eval (.tmp 10) = .pointer (some ⟨x, 0, none⟩) from h.e 3 (by decide) (dep ho hall 3 (by kernel_rfl)) _ rfl) ?_
      exact h.next hcg hKD ho hall (by decide) (by decide) (by decide) inj hz hu rfl
    | 5, _ =>
      obtain ⟨h1, h2, h3⟩ := flds (d := some 12) (p := Op.fieldAddr 76 (.tmp 11) 0) (g := none) ho (by kernel_rfl)
      have g0 := (show a'.eval (.tmp 11) = .pointer (some ⟨x, 0, none⟩) from h.e 4 (by decide) (dep ho hall 4 (by kernel_rfl)) _ rfl)
      refine og_plain ho h3 trivial ?_
      unfold Oper.wp
      simp only [execOp, h2, g0]
      go_simp
      exact h.next hcg hKD ho hall (by decide) (by decide) (by decide) inj hz hu rfl
    | 6, _ =>
      have c0 := (h.w.1.cell (p := ⟨x, 0, none⟩) hx).trans hx0
      have c1 := (h.w.1.cell (p := ⟨x, 1, none⟩) hx).trans hx1
      have c2 := (h.w.1.cell (p := ⟨x, 2, none⟩) hx).trans hx2
      have c3 := (h.w.1.cell (p := ⟨x, 3, none⟩) hx).trans hx3
      have c4 := (h.w.1.cell (p := ⟨x, 4, none⟩) hx).trans hx4
      have c5 := (h.w.1.cell (p := ⟨x, 5, none⟩) hx).trans hx5
      have c6 := (h.w.1.cell (p := ⟨x, 6, none⟩) hx).trans hx6
      have c7 := (h.w.1.cell (p := ⟨x, 7, none⟩) hx).trans hx7
      obtain ⟨h1, h2, h3⟩ := flds (d := some 13) (p := Op.load 47 (.tmp 12)) (g := none) ho (by kernel_rfl)
      have g0 := (show a'.eval (.tmp 12) = .pointer (some ⟨x, 0, none⟩) from h.e 5 (by decide) (dep ho hall 5 (by kernel_rfl)) _ rfl)
      refine og_plain ho h3 trivial ?_
      unfold Oper.wp
      simp only [execOp, h2, g0]
      go_simp
      exact h.next hcg hKD ho hall (by decide) (by decide) (by decide) inj hz hu rfl
    | 7, _ =>
      have hn9 : ¬ L 9 := fun hl => hno (anc_spec h.dc 60 9 7 (by kernel_rfl) hl)
      obtain ⟨h1, h2, h3⟩ := flds (d := some 5) (p := Op.alloc 98) (g := none) ho (by kernel_rfl)
      refine og_plain ho h3 trivial ?_
      unfold Oper.wp
      simp only [execOp, h2]
      go_simp
      refine h.put ho hall (by decide) inj hz hu (fun v' hv' => by cases hv') (fun val h1 h2 => ?_)
      exact h.w.span hu hn9 h1 (h2 8 (by decide) (by decide))
    | 8, _ =>
      have hn9 : ¬ L 10 := fun hl => hno (anc_spec h.dc 60 10 8 (by kernel_rfl) hl)
      obtain ⟨h1, h2, h3⟩ := flds (d := some 6) (p := Op.alloc 47) (g := none) ho (by kernel_rfl)
      refine og_plain ho h3 trivial ?_
      unfold Oper.wp
      simp only [execOp, h2]
      go_simp
      refine h.put ho hall (by decide) inj hz hu (fun v' hv' => by cases hv') (fun val h1 h2 => ?_)
      exact h.w.note hu hn9 h1 (h2 7 (by decide) (by decide))
    | 9, _ =>
      obtain ⟨h1, h2, h3⟩ := flds (d := none) (p := Op.store 98 (.tmp 5) (.tmp 9)) (g := none) ho (by kernel_rfl)
      obtain ⟨k, k1, k2, cs, k3, k4, k5⟩ := h.w.2.1 (dep ho hall 7 (by kernel_rfl))
      obtain rfl := k4 hno
      have g0 : a'.eval (.tmp 5) = _ := k1
      have g1 := (show a'.eval (.tmp 9) = .agg #[.int .i64 (p : Int), .int .i64 (q : Int)] from h.e 2 (by decide) (dep ho hall 2 (by kernel_rfl)) _ rfl)
      have c0 := cell_row k3 0
      have c1 := cell_row k3 1
      have z0 := frozen_row k3 0
      have z1 := frozen_row k3 1
      simp at c0 c1
      refine og_plain ho h3 trivial ?_
      unfold Oper.wp
      simp only [execOp, h2, g0, g1]
      go_simp
      refine h.eff ho hall (by decide) hu ?_
      exact h.w.fill hu hno (dep ho hall 7 (by kernel_rfl)) k1
    | 10, _ =>
      obtain ⟨h1, h2, h3⟩ := flds (d := none) (p := Op.store 47 (.tmp 6) (.tmp 13)) (g := none) ho (by kernel_rfl)
      obtain ⟨k, k1, k2, cs, k3, k4, k5⟩ := h.w.2.2 (dep ho hall 8 (by kernel_rfl))
      obtain rfl := k4 hno
      have g0 : a'.eval (.tmp 6) = _ := k1
      have g1 := (show a'.eval (.tmp 13) = .agg #[.int .i64 (id : Int), .int .i64 cc, .string wo, .int .i64 0, .int .i64 0, .bool false, .bool sh, .slice aq n c] from h.e 6 (by decide) (dep ho hall 6 (by kernel_rfl)) _ rfl)
      have c0 := cell_row k3 0
      have z0 := frozen_row k3 0
      have c1 := cell_row k3 1
      have z1 := frozen_row k3 1
      have c2 := cell_row k3 2
      have z2 := frozen_row k3 2
      have c3 := cell_row k3 3
      have z3 := frozen_row k3 3
      have c4 := cell_row k3 4
      have z4 := frozen_row k3 4
      have c5 := cell_row k3 5
      have z5 := frozen_row k3 5
      have c6 := cell_row k3 6
      have z6 := frozen_row k3 6
      have c7 := cell_row k3 7
      have z7 := frozen_row k3 7
      simp at c0 c1 c2 c3 c4 c5 c6 c7
      refine og_plain ho h3 trivial ?_
      unfold Oper.wp
      simp only [execOp, h2, g0, g1]
      go_simp
      refine h.eff ho hall (by decide) hu ?_
      exact h.w.fill8 hu hno (dep ho hall 8 (by kernel_rfl)) k1
    | i + 11, hi => omega
  · rintro L a' u h hall
    rw [opsIn_size] at hall
    rw [h.done hz]
    refine hK L _ u hall h.w (fun j => ?_)
    by_cases hj : j ∈ DIn
    · cases hv : (VIn x b id p q n c aq cc wo sh) j with
      | none => exact .inl rfl
      | some v =>
        refine .inr (.inl ?_)
        have hjN : j < 11 := by
          have hh : DIn.all (fun i => decide (i < 11)) = true := by kernel_rfl
          exact of_decide_eq_true (List.all_eq_true.1 hh j hj)
        rw [h.e j hj (hall j hjN) v hv]
    · exact .inr (.inr hj)
  · intro L hL
    refine JR.start hL ?_
    have hb : Below w.heap.size w w.drew := (Below.refl _ _).drew
    exact ⟨hb, fun a => absurd a (hL _), fun a => absurd a (hL _)⟩

def WTo (w : World) (kn id p q n c : Nat) (aq : Option Addr) (cc : Int) (wo : ByteArray) (sh : Bool) (L : Nat → Prop) (val : Nat → Value) (u : World) : Prop :=
  Fr (· = kn) w u ∧ ∃ p3 p4 p5, u.heap[kn]? = some (.cells #[.int .i64 (id : Int), .int .i64 cc, .string wo, p3, p4, p5, .bool sh, .slice aq n c] 47 (0, 0)) ∧ (L 7 → p3 = .int .i64 (p : Int)) ∧ (L 9 → p4 = .int .i64 (q : Int)) ∧ (L 11 → p5 = .bool ((p : Int) == (q : Int)))
section
variable {w : World} {kn kp id p q n c : Nat} {aq : Option Addr} {cc : Int} {wo : ByteArray} {sh : Bool} {L L' : Nat → Prop} {val val' : Nat → Value} {u u' : World}
theorem WTo.span (h : WTo w kn id p q n c aq cc wo sh L val u) (hkp : w.heap[kp]? = some (.cells #[.int .i64 (p : Int), .int .i64 (q : Int)] 98 (0, 0))) (hne : kp ≠ kn) : u.heap[kp]? = some (.cells #[.int .i64 (p : Int), .int .i64 (q : Int)] 98 (0, 0)) := h.1.keeps hkp hne
theorem WTo.call (h : WTo w kn id p q n c aq cc wo sh L val u) (hu : ∀ j, L' j ↔ (j = 5 ∨ L j)) (hb : Below u.heap.size u u') : WTo w kn id p q n c aq cc wo sh L' val' u' := by
  obtain ⟨h1, p3, p4, p5, h2, h3, h4, h5⟩ := h
  have l : ∀ k, k ≠ 5 → (L' k → L k) := fun k hk hl => ((hu k).1 hl).resolve_left hk
  exact ⟨h1.trans (Fr.of_below hb), p3, p4, p5, (Fr.of_below hb : Fr (fun _ => False) u u').keeps h2 (fun h => h), fun a => h3 (l 7 (by omega) a), fun a => h4 (l 9 (by omega) a), fun a => h5 (l 11 (by omega) a)⟩
theorem WTo.st3 (h : WTo w kn id p q n c aq cc wo sh L val u) (hu : ∀ j, L' j ↔ (j = 7 ∨ L j)) : WTo w kn id p q n c aq cc wo sh L' val (u.setCell ⟨kn, 3, none⟩ (.int .i64 (p : Int))) := by
  obtain ⟨h1, p3, p4, p5, h2, h3, h4, h5⟩ := h
  have l : ∀ k, k ≠ 7 → (L' k → L k) := fun k hk hl => ((hu k).1 hl).resolve_left hk
  refine ⟨h1.trans (Fr.setCell u ⟨kn, 3, none⟩ _ rfl), _, p4, p5, ?_, fun _ => rfl, fun a => h4 (l 9 (by omega) a), fun a => h5 (l 11 (by omega) a)⟩
  have := set_row h2 3 (.int .i64 (p : Int))
  simpa using this
theorem WTo.st4 (h : WTo w kn id p q n c aq cc wo sh L val u) (hu : ∀ j, L' j ↔ (j = 9 ∨ L j)) : WTo w kn id p q n c aq cc wo sh L' val (u.setCell ⟨kn, 4, none⟩ (.int .i64 (q : Int))) := by
  obtain ⟨h1, p3, p4, p5, h2, h3, h4, h5⟩ := h
  have l : ∀ k, k ≠ 9 → (L' k → L k) := fun k hk hl => ((hu k).1 hl).resolve_left hk
  refine ⟨h1.trans (Fr.setCell u ⟨kn, 4, none⟩ _ rfl), p3, _, p5, ?_, fun a => h3 (l 7 (by omega) a), fun _ => rfl, fun a => h5 (l 11 (by omega) a)⟩
  have := set_row h2 4 (.int .i64 (q : Int))
  simpa using this
theorem WTo.st5 (h : WTo w kn id p q n c aq cc wo sh L val u) (hu : ∀ j, L' j ↔ (j = 11 ∨ L j)) : WTo w kn id p q n c aq cc wo sh L' val (u.setCell ⟨kn, 5, none⟩ (.bool ((p : Int) == (q : Int)))) := by
  obtain ⟨h1, p3, p4, p5, h2, h3, h4, h5⟩ := h
  have l : ∀ k, k ≠ 11 → (L' k → L k) := fun k hk hl => ((hu k).1 hl).resolve_left hk
  refine ⟨h1.trans (Fr.setCell u ⟨kn, 5, none⟩ _ rfl), p3, p4, _, ?_, fun a => h3 (l 7 (by omega) a), fun a => h4 (l 9 (by omega) a), fun _ => rfl⟩
  have := set_row h2 5 (.bool ((p : Int) == (q : Int)))
  simpa using this
end

noncomputable def opsTo : Array Oper := (Try.f30.body.bind (opsAt 2)).getD #[]
theorem opsTo_size : opsTo.size = 12 := by kernel_rfl
theorem opsTo_earlier : Earlier opsTo := by
  have h : (List.range 12).all (fun i => ((opsTo[i]?).map (fun o => o.after.all (fun e => !Region.binds .any e || decide (e.on < i)))).getD true) = true := by kernel_rfl
  intro i o ho e he hb
  have hi : i < 12 := by
    have := (Array.getElem?_eq_some_iff.1 ho).1
    rwa [opsTo_size] at this
  have h1 := List.all_eq_true.1 h i (List.mem_range.2 hi)
  rw [ho] at h1
  simp only [Option.map_some, Option.getD_some, Array.all_eq_true'] at h1
  have h2 := h1 e he
  rw [hb] at h2
  simpa using h2
def slTo (j : Nat) : Nat := ([14, 15, 16, 17, 18, 19, 20, 907, 21, 909, 22, 911] : List Nat).getD j 0
def DTo : List Nat := [0, 1, 2, 3, 4, 5, 6, 8, 10]
def VTo (kp kn p q : Nat) (j : Nat) : Option Value := [some (.pointer (some ⟨kp, 0, none⟩)), some (.int .i64 (p : Int)), some (.pointer (some ⟨kp, 1, none⟩)), some (.int .i64 (q : Int)), some (.agg #[.int .i64 (p : Int), .int .i64 (q : Int)]), some (.bool ((p : Int) == (q : Int))), some (.pointer (some ⟨kn, 3, none⟩)), none, some (.pointer (some ⟨kn, 4, none⟩)), none, some (.pointer (some ⟨kn, 5, none⟩)), none].getD j none
set_option maxRecDepth 100000 in
set_option maxHeartbeats 4000000 in
theorem regTo (a0 : Act) (w : World) {Q : Exit → Act → World → Prop} (kp kn id p q n c : Nat) (aq : Option Addr) (cc : Int) (wo : ByteArray) (sh : Bool) (p3 p4 p5 : Value) (hkp : w.heap[kp]? = some (.cells #[.int .i64 (p : Int), .int .i64 (q : Int)] 98 (0, 0))) (hkn : w.heap[kn]? = some (.cells #[.int .i64 (id : Int), .int .i64 cc, .string wo, p3, p4, p5, .bool sh, .slice aq n c] 47 (0, 0))) (hne : kp ≠ kn) (hzz : 22 < a0.tmps.size) (H5 : a0.eval (.tmp 5) = .pointer (some ⟨kp, 0, none⟩)) (H6 : a0.eval (.tmp 6) = .pointer (some ⟨kn, 0, none⟩))
    (hK : ∀ (L : Nat → Prop) (val : Nat → Value) (u : World), (∀ i, i < 12 → L i) → WTo w kn id p q n c aq cc wo sh L val u → (∀ j, (VTo kp kn p q) j = none ∨ (VTo kp kn p q) j = some (val j) ∨ j ∉ DTo) → Q .normal (puts a0 (DTo.map fun j => (slTo j, val j))) u) :
    (Code.region 2 opsTo true).wp Try.prog Q a0 w := by
  have inj : ∀ i ∈ DTo, ∀ j ∈ DTo, slTo i = slTo j → i = j := by
    have h : DTo.all (fun i => DTo.all (fun j => decide (slTo i = slTo j → i = j))) = true := by kernel_rfl
    intro i hi j hj he
    exact (of_decide_eq_true (List.all_eq_true.1 (List.all_eq_true.1 h i hi) j hj)) he
  have hz : ∀ j ∈ DTo, slTo j < a0.tmps.size := by
    have h : DTo.all (fun i => decide (slTo i ≤ 22)) = true := by kernel_rfl
    intro j hj
    have := of_decide_eq_true (List.all_eq_true.1 h j hj)
    omega
  have hcg : ∀ (L L' : Nat → Prop) (val val' : Nat → Value) u, (∀ k ∈ ([7, 9, 11] : List Nat), (L' k ↔ L k)) → (∀ k ∈ ([] : List Nat), val' k = val k) → WTo w kn id p q n c aq cc wo sh L val u → WTo w kn id p q n c aq cc wo sh L' val' u := by
    intro L L' val val' u hl hv hw
    simp at hl hv
    unfold WTo at hw ⊢
    simp only [hl]
    exact hw
  have hKD : ∀ k ∈ ([] : List Nat), k ∈ DTo := by decide
  refine wp_region_inv (by kernel_rfl) opsTo_earlier (fun L a u => JR opsTo slTo DTo (VTo kp kn p q) a0 (WTo w kn id p q n c aq cc wo sh) L a u) ?_ ?_ ?_
  · rintro L L' a' u i o h ho hno hall hu
    clear hK
    have q5 := (h.fe.ev (j := 5) (by decide)).trans H5
    have q6 := (h.fe.ev (j := 6) (by decide)).trans H6
    have hi : i < 12 := by
      have := (Array.getElem?_eq_some_iff.1 ho).1
      rwa [opsTo_size] at this
    match i, hi with
    | 0, _ =>
      obtain ⟨h1, h2, h3⟩ := flds (d := some 14) (p := Op.fieldAddr 98 (.tmp 5) 0) (g := none) ho (by kernel_rfl)
      have g0 := q5
      refine og_plain ho h3 trivial ?_
      unfold Oper.wp
      simp only [execOp, h2, g0]
      go_simp
      exact h.next hcg hKD ho hall (by decide) (by decide) (by decide) inj hz hu rfl
    | 1, _ =>
      have c0 := (cell_row (h.w.span hkp hne) 0)
      simp at c0
      obtain ⟨h1, h2, h3⟩ := flds (d := some 15) (p := Op.load 3 (.tmp 14)) (g := none) ho (by kernel_rfl)
      have g0 := (show a'.eval (.tmp 14) = .pointer (some ⟨kp, 0, none⟩) from h.e 0 (by decide) (dep ho hall 0 (by kernel_rfl)) _ rfl)
      refine og_plain ho h3 trivial ?_
      unfold Oper.wp
      simp only [execOp, h2, g0]
      go_simp
      exact h.next hcg hKD ho hall (by decide) (by decide) (by decide) inj hz hu rfl
    | 2, _ =>
      obtain ⟨h1, h2, h3⟩ := flds (d := some 16) (p := Op.fieldAddr 98 (.tmp 5) 1) (g := none) ho (by kernel_rfl)
      have g0 := q5
      refine og_plain ho h3 trivial ?_
      unfold Oper.wp
      simp only [execOp, h2, g0]
      go_simp
      exact h.next hcg hKD ho hall (by decide) (by decide) (by decide) inj hz hu rfl
    | 3, _ =>
      have c0 := (cell_row (h.w.span hkp hne) 1)
      simp at c0
      obtain ⟨h1, h2, h3⟩ := flds (d := some 17) (p := Op.load 3 (.tmp 16)) (g := none) ho (by kernel_rfl)
      have g0 := (show a'.eval (.tmp 16) = .pointer (some ⟨kp, 1, none⟩) from h.e 2 (by decide) (dep ho hall 2 (by kernel_rfl)) _ rfl)
      refine og_plain ho h3 trivial ?_
      unfold Oper.wp
      simp only [execOp, h2, g0]
      go_simp
      exact h.next hcg hKD ho hall (by decide) (by decide) (by decide) inj hz hu rfl
    | 4, _ =>
      have c0 := (cell_row (h.w.span hkp hne) 0)
      have c1 := (cell_row (h.w.span hkp hne) 1)
      simp at c0 c1
      obtain ⟨h1, h2, h3⟩ := flds (d := some 18) (p := Op.load 98 (.tmp 5)) (g := none) ho (by kernel_rfl)
      have g0 := q5
      refine og_plain ho h3 trivial ?_
      unfold Oper.wp
      simp only [execOp, h2, g0]
      go_simp
      exact h.next hcg hKD ho hall (by decide) (by decide) (by decide) inj hz hu rfl
    | 5, _ =>
      refine op_call ho 47 (.tmp 18) 98 (d := some 19) (by kernel_rfl) Try.func47 rfl (by kernel_rfl) (by rw [(show a'.eval (.tmp 18) = .agg #[.int .i64 (p : Int), .int .i64 (q : Int)] from h.e 4 (by decide) (dep ho hall 4 (by kernel_rfl)) _ rfl)]; exact empty_any _ _ u) ?_
      rintro e w' ⟨rfl, bw⟩
      refine ⟨_, rfl, h.put ho hall (by decide) inj hz hu (fun v' hv' => by injection hv') (fun val h1 h2 => ?_)⟩
      exact h.w.call hu bw
    | 6, _ =>
      obtain ⟨h1, h2, h3⟩ := flds (d := some 20) (p := Op.fieldAddr 47 (.tmp 6) 3) (g := none) ho (by kernel_rfl)
      have g0 := q6
      refine og_plain ho h3 trivial ?_
      unfold Oper.wp
      simp only [execOp, h2, g0]
      go_simp
      exact h.next hcg hKD ho hall (by decide) (by decide) (by decide) inj hz hu rfl
    | 7, _ =>
      obtain ⟨h1, h2, h3⟩ := flds (d := none) (p := Op.store 3 (.tmp 20) (.tmp 15)) (g := none) ho (by kernel_rfl)
      have g0 := (show a'.eval (.tmp 20) = .pointer (some ⟨kn, 3, none⟩) from h.e 6 (by decide) (dep ho hall 6 (by kernel_rfl)) _ rfl)
      have g1 := (show a'.eval (.tmp 15) = .int .i64 (p : Int) from h.e 1 (by decide) (dep ho hall 1 (by kernel_rfl)) _ rfl)
      obtain ⟨p3, p4, p5, hb, k3, k4, k5⟩ := h.w.2
      have c0 := cell_row hb 3
      have z0 := frozen_row hb 3
      simp at c0
      refine og_plain ho h3 trivial ?_
      unfold Oper.wp
      simp only [execOp, h2, g0, g1]
      go_simp
      refine h.eff ho hall (by decide) hu ?_
      exact h.w.st3 hu
    | 8, _ =>
      obtain ⟨h1, h2, h3⟩ := flds (d := some 21) (p := Op.fieldAddr 47 (.tmp 6) 4) (g := none) ho (by kernel_rfl)
      have g0 := q6
      refine og_plain ho h3 trivial ?_
      unfold Oper.wp
      simp only [execOp, h2, g0]
      go_simp
      exact h.next hcg hKD ho hall (by decide) (by decide) (by decide) inj hz hu rfl
    | 9, _ =>
      obtain ⟨h1, h2, h3⟩ := flds (d := none) (p := Op.store 3 (.tmp 21) (.tmp 17)) (g := none) ho (by kernel_rfl)
      have g0 := (show a'.eval (.tmp 21) = .pointer (some ⟨kn, 4, none⟩) from h.e 8 (by decide) (dep ho hall 8 (by kernel_rfl)) _ rfl)
      have g1 := (show a'.eval (.tmp 17) = .int .i64 (q : Int) from h.e 3 (by decide) (dep ho hall 3 (by kernel_rfl)) _ rfl)
      obtain ⟨p3, p4, p5, hb, k3, k4, k5⟩ := h.w.2
      have c0 := cell_row hb 4
      have z0 := frozen_row hb 4
      simp at c0
      refine og_plain ho h3 trivial ?_
      unfold Oper.wp
      simp only [execOp, h2, g0, g1]
      go_simp
      refine h.eff ho hall (by decide) hu ?_
      exact h.w.st4 hu
    | 10, _ =>
      obtain ⟨h1, h2, h3⟩ := flds (d := some 22) (p := Op.fieldAddr 47 (.tmp 6) 5) (g := none) ho (by kernel_rfl)
      have g0 := q6
      refine og_plain ho h3 trivial ?_
      unfold Oper.wp
      simp only [execOp, h2, g0]
      go_simp
      exact h.next hcg hKD ho hall (by decide) (by decide) (by decide) inj hz hu rfl
    | 11, _ =>
      obtain ⟨h1, h2, h3⟩ := flds (d := none) (p := Op.store 4 (.tmp 22) (.tmp 19)) (g := none) ho (by kernel_rfl)
      have g0 := (show a'.eval (.tmp 22) = .pointer (some ⟨kn, 5, none⟩) from h.e 10 (by decide) (dep ho hall 10 (by kernel_rfl)) _ rfl)
      have g1 := (show a'.eval (.tmp 19) = .bool ((p : Int) == (q : Int)) from h.e 5 (by decide) (dep ho hall 5 (by kernel_rfl)) _ rfl)
      obtain ⟨p3, p4, p5, hb, k3, k4, k5⟩ := h.w.2
      have c0 := cell_row hb 5
      have z0 := frozen_row hb 5
      simp at c0
      refine og_plain ho h3 trivial ?_
      unfold Oper.wp
      simp only [execOp, h2, g0, g1]
      go_simp
      refine h.eff ho hall (by decide) hu ?_
      exact h.w.st5 hu
    | i + 12, hi => omega
  · rintro L a' u h hall
    rw [opsTo_size] at hall
    rw [h.done hz]
    refine hK L _ u hall h.w (fun j => ?_)
    by_cases hj : j ∈ DTo
    · cases hv : (VTo kp kn p q) j with
      | none => exact .inl rfl
      | some v =>
        refine .inr (.inl ?_)
        have hjN : j < 12 := by
          have hh : DTo.all (fun i => decide (i < 12)) = true := by kernel_rfl
          exact of_decide_eq_true (List.all_eq_true.1 hh j hj)
        rw [h.e j hj (hall j hjN) v hv]
    · exact .inr (.inr hj)
  · intro L hL
    refine JR.start hL ?_
    exact ⟨Fr.drew _ w, _, _, _, hkn, fun a => absurd a (hL _), fun a => absurd a (hL _), fun a => absurd a (hL _)⟩

end Go.Proofs.Ytkkklfnooeofcab

/-! Ib -/
namespace Go.Proofs.Ytkkklfnooeofcab
open Go.RowKit Go.Maps Go.ChangeMaps Go.MapKept Go.WideMaps
set_option linter.unusedVariables false

/-- A note as it is told. -/
def ntA (n : Nt) (s : Nat × Nat) (v : Value) : Array Value := #[.int .i64 (n.id : Int), .int .i64 n.cl, .string n.wo, .int .i64 (s.1 : Int), .int .i64 (s.2 : Int), .bool ((s.1 : Int) == (s.2 : Int)), .bool n.sh, v]

theorem NK.below {w w' : World} {p : NB} (h : NK w p) (hb : Below w.heap.size w w') : NK w' p := h.fr (S := fun _ => False) (Fr.of_below hb) (fun h => h) (fun _ _ h => h) (fun h => h)

set_option maxRecDepth 100000 in
set_option maxHeartbeats 4000000 in
theorem in_any (p : NB) (b : Nat) (xs : List El) (w : World) (h : NK w p) (hM : SM w b xs) (hroom : roomy p.n.sd.length 24) :
    Calls Try.prog 30 #[.pointer (some ⟨p.x, 0, none⟩), .map (some b)] w fun e w' => ∃ u β, e = .returned (.agg (ntA p.n (reachP xs p.n.el) u)) ∧ SF rpc 2 w' 90 β u p.n.sd ∧ (∀ k, β = some k → w.heap.size ≤ k) ∧ Below w.heap.size w w' := by
  have hB0 : Below w.heap.size w (w.alloc (.cells #[.int .i64 0, .int .i64 0, .string ⟨#[]⟩, .int .i64 0, .int .i64 0, .bool false, .bool false, .slice none 0 0] 47)) := (Below.refl _ _).alloc (Nat.le_refl _) _
  have hR0 := heap_alloc_new w (.cells #[.int .i64 0, .int .i64 0, .string ⟨#[]⟩, .int .i64 0, .int .i64 0, .bool false, .bool false, .slice none 0 0] 47)
  have H0 := hd (h.below hB0)
  have M0 := hd (hM.below hB0)
  have HB0 := hd hB0
  have HR0 := hd hR0
  have LX := hd (block_lt h.box)
  clear h hM hB0 hR0
  go_enter Try.func30, Try.ntmps30
  go_upto_region 1 with fail
  generalize w.alloc (.cells #[.int .i64 0, .int .i64 0, .string ⟨#[]⟩, .int .i64 0, .int .i64 0, .bool false, .bool false, .slice none 0 0] 47) = w0 at *
  obtain ⟨aq, cq, hsv, -, -⟩ := H0.out.said.form
  have hbx := H0.out.box
  rw [hsv] at hbx
  have x0 := cell_row hbx 0; have x1 := cell_row hbx 1; have x2 := cell_row hbx 2; have x3 := cell_row hbx 3
  have x4 := cell_row hbx 4; have x5 := cell_row hbx 5; have x6 := cell_row hbx 6; have x7 := cell_row hbx 7
  simp [ntc] at x0 x1 x2 x3 x4 x5 x6 x7
  have CR := hd (fun u (hu : Below w0.heap.size w0 u) => reach_any p b xs u (H0.out.below hu) (M0.out.below hu))
  refine regIn _ w0 p.x b p.n.id (reachP xs p.n.el).1 (reachP xs p.n.el).2 p.n.sd.length cq aq p.n.cl p.n.wo p.n.sh (block_lt hbx) x0 x1 x2 x3 x4 x5 x6 x7 CR.out (by simp) rfl rfl ?_
  intro L val u hL hW hV
  obtain ⟨hBu, h7, h8⟩ := hW
  obtain ⟨kp, v7, kp1, cs7, kp2, -, kp3⟩ := h7 (hL 7 (by omega))
  obtain ⟨kn, v8, kn1, cs8, kn2, -, kn3⟩ := h8 (hL 8 (by omega))
  obtain rfl := kp3 (hL 9 (by omega))
  obtain rfl := kn3 (hL 10 (by omega))
  simp only [slIn, DIn, List.getD_cons_zero, List.getD_cons_succ, List.map_cons, List.map_nil, puts, List.foldl_cons, List.foldl_nil, Act.put, List.setIfInBounds_toArray, List.set_cons_succ, List.set_cons_zero, v7, v8]
  have HU := hd hBu
  have NE := hd (ty_ne kp2 kn2 (by decide))
  have KP := hd kp2
  have KN := hd kn2
  have KG := hd (And.intro kp1 kn1)
  clear hV hL h7 h8 v7 v8 kp2 kn2 kp1 kn1 x0 x1 x2 x3 x4 x5 x6 x7 hBu
  generalize val 0 = y0; generalize val 1 = y1; generalize val 2 = y2; generalize val 3 = y3; generalize val 4 = y4; generalize val 5 = y5; generalize val 6 = y6
  go_upto_region 2 with fail
  refine regTo _ u kp kn p.n.id (reachP xs p.n.el).1 (reachP xs p.n.el).2 p.n.sd.length cq aq p.n.cl p.n.wo p.n.sh _ _ _ KP.out KN.out NE.out (by simp) rfl rfl ?_
  intro L val2 u2 hL hW hV
  obtain ⟨hF2, p3, p4, p5, hb2, e3, e4, e5⟩ := hW
  obtain rfl := e3 (hL 7 (by omega))
  obtain rfl := e4 (hL 9 (by omega))
  obtain rfl := e5 (hL 11 (by omega))
  clear hL hV e3 e4 e5
  simp only [slTo, DTo, List.getD_cons_zero, List.getD_cons_succ, List.map_cons, List.map_nil, puts, List.foldl_cons, List.foldl_nil, Act.put, List.setIfInBounds_toArray, List.set_cons_succ, List.set_cons_zero]
  have hB2 : Below w0.heap.size w0 u2 := HU.out.trans (hF2.below HU.out.size (fun k hk => by have := KG.out; omega))
  have H2 := hd (H0.out.below hB2)
  have HB2 := hd hB2
  have HN2 := hd hb2
  have x7 := cell_row H2.out.box 7
  simp [ntc] at x7
  rw [hsv] at x7
  clear hF2 hb2 hB2
  generalize val2 0 = q0; generalize val2 1 = q1; generalize val2 2 = q2; generalize val2 3 = q3; generalize val2 4 = q4; generalize val2 5 = q5; generalize val2 6 = q6; generalize val2 8 = q8; generalize val2 10 = q10
  have CC := hd (cloneR_any p.ρ (.slice aq p.n.sd.length cq) p.n.sd u2 (by rw [← hsv]; exact H2.out.said) hroom)
  go_wp2_with fail
  refine CC.out.mono ?_
  rintro e u3 ⟨v, β, rfl, hS3, hβ, b3⟩
  have hb3 := (Fr.of_below b3 : Fr (fun _ => False) u2 u3).keeps HN2.out (fun h => h)
  have c7 := cell_row hb3 7
  have z7 := frozen_row hb3 7
  simp at c7
  obtain ⟨av, cv, hv, -, -⟩ := hS3.form
  subst hv
  have hb4 := set_row hb3 7 (.slice av p.n.sd.length cv)
  have hF4 : Fr (· = kn) u3 (u3.setCell ⟨kn, 7, none⟩ (.slice av p.n.sd.length cv)) := Fr.setCell u3 ⟨kn, 7, none⟩ _ rfl
  have hB3 : Below w0.heap.size w0 u3 := HB2.out.trans (b3.mono HB2.out.size)
  have hB4 : Below w0.heap.size w0 (u3.setCell ⟨kn, 7, none⟩ (.slice av p.n.sd.length cv)) := hB3.trans (hF4.below hB3.size (fun k hk => by have := KG.out; omega))
  have hr4 := hB4.block w.heap.size (block_lt HR0.out)
  rw [HR0.out] at hr4
  have hS4 := hS3.fr hF4 (fun k hk e => by
    rw [hk] at hS3
    obtain ⟨cur, hc⟩ := hS3.blk
    exact ty_ne hc hb3 (by decide) e)
  simp only [List.setIfInBounds_toArray, List.set_cons_succ, List.set_cons_zero] at hb4
  have HB4 := hd hb4
  have HBB := hd hB4
  have HRR := hd hr4
  have HSS := hd hS4
  have HBE := hd (show ∀ k, β = some k → w0.heap.size ≤ k from fun k hk => Nat.le_trans HB2.out.size (hβ k hk))
  clear hb4 hF4 hB3 hB4 hr4 hS4 hS3 hβ b3 hb3
  go_upto_region 4 with fail
  generalize u3.setCell ⟨kn, 7, none⟩ (.slice av p.n.sd.length cv) = u4 at *
  clear c7 z7 x7
  have y0 := cell_row HB4.out 0; have y1 := cell_row HB4.out 1; have y2 := cell_row HB4.out 2; have y3 := cell_row HB4.out 3
  have y4 := cell_row HB4.out 4; have y5 := cell_row HB4.out 5; have y6 := cell_row HB4.out 6; have y7 := cell_row HB4.out 7
  have r0 := cell_row HRR.out 0; have r1 := cell_row HRR.out 1; have r2 := cell_row HRR.out 2; have r3 := cell_row HRR.out 3
  have r4 := cell_row HRR.out 4; have r5 := cell_row HRR.out 5; have r6 := cell_row HRR.out 6; have r7 := cell_row HRR.out 7
  have z0 := frozen_row HRR.out 0; have z1 := frozen_row HRR.out 1; have z2 := frozen_row HRR.out 2; have z3 := frozen_row HRR.out 3
  have z4 := frozen_row HRR.out 4; have z5 := frozen_row HRR.out 5; have z6 := frozen_row HRR.out 6; have z7 := frozen_row HRR.out 7
  simp at y0 y1 y2 y3 y4 y5 y6 y7 r0 r1 r2 r3 r4 r5 r6 r7
  have hfin := set8_row HRR.out (.int .i64 (p.n.id : Int)) (.int .i64 p.n.cl) (.string p.n.wo) (.int .i64 ((reachP xs p.n.el).1 : Int)) (.int .i64 ((reachP xs p.n.el).2 : Int)) (.bool (((reachP xs p.n.el).1 : Int) == ((reachP xs p.n.el).2 : Int))) (.bool p.n.sh) (.slice av p.n.sd.length cv)
  have hFf := fr_sets8 u4 w.heap.size (.int .i64 (p.n.id : Int)) (.int .i64 p.n.cl) (.string p.n.wo) (.int .i64 ((reachP xs p.n.el).1 : Int)) (.int .i64 ((reachP xs p.n.el).2 : Int)) (.bool (((reachP xs p.n.el).1 : Int) == ((reachP xs p.n.el).2 : Int))) (.bool p.n.sh) (.slice av p.n.sd.length cv)
  have HFI := hd hfin
  have Z : Hid (SF rpc 2 _ 90 β (.slice av p.n.sd.length cv) p.n.sd ∧ Below w.heap.size w _) := ⟨HSS.out.fr hFf (fun k hk e => by have := HBE.out k hk; have := block_lt HR0.out; omega), (HB0.out.trans (HBB.out.mono HB0.out.size)).trans (hFf.below (HB0.out.trans (HBB.out.mono HB0.out.size)).size (fun k hk => by omega))⟩
  have HG := hd (show ∀ k, β = some k → w.heap.size ≤ k from fun k hk => by have := HBE.out k hk; have := HB0.out.size; omega)
  clear hfin hFf HSS HBE HBB HB4 HRR
  go_wp2
  have f0 := cell_row HFI.out 0; have f1 := cell_row HFI.out 1; have f2 := cell_row HFI.out 2; have f3 := cell_row HFI.out 3
  have f4 := cell_row HFI.out 4; have f5 := cell_row HFI.out 5; have f6 := cell_row HFI.out 6; have f7 := cell_row HFI.out 7
  simp only [List.getElem?_toArray, List.getElem?_cons_zero, List.getElem?_cons_succ] at f0 f1 f2 f3 f4 f5 f6 f7
  refine bodyPost_ret (v := .agg (ntA p.n (reachP xs p.n.el) (.slice av p.n.sd.length cv))) ?_ rfl ⟨_, β, rfl, Z.out.1, HG.out, Z.out.2⟩
  simp [results, Try.results30, go_sem, f0, f1, f2, f3, f4, f5, f6, f7, ntA]

end Go.Proofs.Ytkkklfnooeofcab

/-! Ic -/
namespace Go.Proofs.Ytkkklfnooeofcab
open Go.RowKit Go.Maps Go.ChangeMaps Go.MapKept Go.WideMaps
set_option linter.unusedVariables false

theorem BK.below {w w' : World} {O : Nat → Prop} {r b g : Nat} {ps : List NB} (h : BK w O r b g ps) (hb : Below w.heap.size w w') : BK w' O r b g ps := h.fr (S := fun _ => False) (Fr.of_below hb) (fun _ _ h => h)

set_option maxRecDepth 100000 in
set_option maxHeartbeats 1000000 in
theorem look_none (O : Nat → Prop) (r g : Nat) (Ns : List Nt) (v : Value) (k : Int) (w : World) (h : BD w O r g Ns) (hk : -9223372036854775808 ≤ k ∧ k ≤ 9223372036854775807) (hn : ∀ n ∈ Ns, (n.id : Int) ≠ k) :
    Calls Try.prog 11 #[.pointer (some ⟨r, 0, none⟩), v, .int .i64 k] w fun e w' => e = .returned (.tuple #[.agg #[.int .i64 0, .int .i64 0, .string ⟨#[]⟩, .int .i64 0, .int .i64 0, .bool false, .bool false, .slice none 0 0], .int .i64 232]) ∧ Below w.heap.size w w' := by
  obtain ⟨b, ps, rfl, hK⟩ := h
  have hB0 : Below w.heap.size w (w.alloc (.cells #[.int .i64 0, .int .i64 0, .string ⟨#[]⟩, .int .i64 0, .int .i64 0, .bool false, .bool false, .slice none 0 0] 47)) := (Below.refl _ _).alloc (Nat.le_refl _) _
  have hR0 := heap_alloc_new w (.cells #[.int .i64 0, .int .i64 0, .string ⟨#[]⟩, .int .i64 0, .int .i64 0, .bool false, .bool false, .slice none 0 0] 47)
  have hK0 := hK.below hB0
  have lk := hK0.lk0 hk hn
  have r0 := cell_row hK0.box 0
  simp at r0
  have HB0 := hd hB0
  clear hK hn hk hK0 hB0
  go_enter Try.func11, Try.ntmps11
  go_upto_region 1 with fail
  generalize w.alloc (.cells #[.int .i64 0, .int .i64 0, .string ⟨#[]⟩, .int .i64 0, .int .i64 0, .bool false, .bool false, .slice none 0 0] 47) = w0 at *
  have y0 := cell_row hR0 0; have y1 := cell_row hR0 1; have y2 := cell_row hR0 2; have y3 := cell_row hR0 3
  have y4 := cell_row hR0 4; have y5 := cell_row hR0 5; have y6 := cell_row hR0 6; have y7 := cell_row hR0 7
  have z0 := frozen_row hR0 0; have z1 := frozen_row hR0 1; have z2 := frozen_row hR0 2; have z3 := frozen_row hR0 3
  have z4 := frozen_row hR0 4; have z5 := frozen_row hR0 5; have z6 := frozen_row hR0 6; have z7 := frozen_row hR0 7
  simp at y0 y1 y2 y3 y4 y5 y6 y7
  have hfin := set8_row hR0 (.int .i64 0) (.int .i64 0) (.string ⟨#[]⟩) (.int .i64 0) (.int .i64 0) (.bool false) (.bool false) (.slice none 0 0)
  have hFf := fr_sets8 w0 w.heap.size (.int .i64 0) (.int .i64 0) (.string ⟨#[]⟩) (.int .i64 0) (.int .i64 0) (.bool false) (.bool false) (.slice none 0 0)
  have HFI := hd hfin
  have Z := hd (HB0.out.trans (hFf.below HB0.out.size (fun k hk => by omega)))
  clear hfin hFf hR0
  go_wp2
  have f0 := cell_row HFI.out 0; have f1 := cell_row HFI.out 1; have f2 := cell_row HFI.out 2; have f3 := cell_row HFI.out 3
  have f4 := cell_row HFI.out 4; have f5 := cell_row HFI.out 5; have f6 := cell_row HFI.out 6; have f7 := cell_row HFI.out 7
  simp only [List.getElem?_toArray, List.getElem?_cons_zero, List.getElem?_cons_succ] at f0 f1 f2 f3 f4 f5 f6 f7
  refine bodyPost_ret (v := .tuple #[.agg #[.int .i64 0, .int .i64 0, .string ⟨#[]⟩, .int .i64 0, .int .i64 0, .bool false, .bool false, .slice none 0 0], .int .i64 232]) ?_ rfl ⟨rfl, Z.out⟩
  simp [results, Try.results11, go_sem, f0, f1, f2, f3, f4, f5, f6, f7]

set_option maxRecDepth 100000 in
set_option maxHeartbeats 1000000 in
theorem look_good (O : Nat → Prop) (r g : Nat) (A B : List Nt) (n : Nt) (w : World) (h : BD w O r g (A ++ n :: B)) (a : Option Addr) (N c : Nat) (xs : List El) (hE : IsE w a N c xs) (hwf : ∀ x ∈ xs, wfE x) (hroom : roomy n.sd.length 24) :
    Calls Try.prog 11 #[.pointer (some ⟨r, 0, none⟩), .slice a N c, .int .i64 (n.id : Int)] w fun e w' => ∃ u β, e = .returned (.tuple #[.agg (ntA n (reachP xs n.el) u), .int .i64 0]) ∧ SF rpc 2 w' 90 β u n.sd ∧ (∀ k, β = some k → w.heap.size ≤ k) ∧ Below w.heap.size w w' := by
  obtain ⟨b, ps, e, hK⟩ := h
  obtain ⟨A', B', p, rfl, rfl, rfl, rfl⟩ := split_map e
  have hB0 : Below w.heap.size w (w.alloc (.cells #[.int .i64 0, .int .i64 0, .string ⟨#[]⟩, .int .i64 0, .int .i64 0, .bool false, .bool false, .slice none 0 0] 47)) := (Below.refl _ _).alloc (Nat.le_refl _) _
  have hR0 := heap_alloc_new w (.cells #[.int .i64 0, .int .i64 0, .string ⟨#[]⟩, .int .i64 0, .int .i64 0, .bool false, .bool false, .slice none 0 0] 47)
  have hK0 := hK.below hB0
  have lk := hK0.lk
  have r0 := cell_row hK0.box 0
  simp at r0
  have HB0 := hd hB0
  have HK0 := hd hK0
  have HE0 := hd (hE.below hB0)
  clear hK hK0 hB0 hE e
  go_enter Try.func11, Try.ntmps11
  go_upto_region 1 with fail
  generalize w.alloc (.cells #[.int .i64 0, .int .i64 0, .string ⟨#[]⟩, .int .i64 0, .int .i64 0, .bool false, .bool false, .slice none 0 0] 47) = w0 at *
  have HR0 := hd hR0
  clear hR0
  go_wp2_with fail
  refine (spots_any a N c xs w0 HE0.out hwf).mono ?_
  rintro e u1 ⟨mb, rfl, hM, -, b1⟩
  have C2 := hd (in_any p mb xs u1 (((HK0.out.nk p (by simp))).below b1) hM hroom)
  have HB1 := hd (HB0.out.trans (b1.mono HB0.out.size))
  have HL1 := hd (b1.block w.heap.size (block_lt HR0.out))
  have L1 := hd b1.size
  clear hM b1
  go_wp2_with fail
  refine C2.out.mono ?_
  rintro e u2 ⟨v, β, rfl, hS, hβ, b2⟩
  have hr2 := (b2.block w.heap.size (Nat.lt_of_lt_of_le (block_lt HR0.out) L1.out)).trans (HL1.out.trans HR0.out)
  have hB2 := HB1.out.trans (b2.mono HB1.out.size)
  simp only [ntA]
  have y0 := cell_row hr2 0; have y1 := cell_row hr2 1; have y2 := cell_row hr2 2; have y3 := cell_row hr2 3
  have y4 := cell_row hr2 4; have y5 := cell_row hr2 5; have y6 := cell_row hr2 6; have y7 := cell_row hr2 7
  have z0 := frozen_row hr2 0; have z1 := frozen_row hr2 1; have z2 := frozen_row hr2 2; have z3 := frozen_row hr2 3
  have z4 := frozen_row hr2 4; have z5 := frozen_row hr2 5; have z6 := frozen_row hr2 6; have z7 := frozen_row hr2 7
  simp at y0 y1 y2 y3 y4 y5 y6 y7
  obtain ⟨av, cv, hv, -, -⟩ := hS.form
  subst hv
  have hfin := set8_row hr2 (.int .i64 (p.n.id : Int)) (.int .i64 p.n.cl) (.string p.n.wo) (.int .i64 ((reachP xs p.n.el).1 : Int)) (.int .i64 ((reachP xs p.n.el).2 : Int)) (.bool (((reachP xs p.n.el).1 : Int) == ((reachP xs p.n.el).2 : Int))) (.bool p.n.sh) (.slice av p.n.sd.length cv)
  have hFf := fr_sets8 u2 w.heap.size (.int .i64 (p.n.id : Int)) (.int .i64 p.n.cl) (.string p.n.wo) (.int .i64 ((reachP xs p.n.el).1 : Int)) (.int .i64 ((reachP xs p.n.el).2 : Int)) (.bool (((reachP xs p.n.el).1 : Int) == ((reachP xs p.n.el).2 : Int))) (.bool p.n.sh) (.slice av p.n.sd.length cv)
  have HFI := hd hfin
  have lt1 : w.heap.size < u1.heap.size := by have := block_lt HR0.out; have := L1.out; omega
  have Z : Hid (SF rpc 2 _ 90 β (.slice av p.n.sd.length cv) p.n.sd ∧ Below w.heap.size w _) := ⟨hS.fr hFf (fun k hk e => by have := hβ k hk; omega), hB2.trans (hFf.below hB2.size (fun k hk => by omega))⟩
  have HG := hd (show ∀ k, β = some k → w.heap.size ≤ k from fun k hk => by have := hβ k hk; omega)
  clear hfin hFf hS hβ b2 hr2 hB2 C2 lt1
  go_wp2
  have f0 := cell_row HFI.out 0; have f1 := cell_row HFI.out 1; have f2 := cell_row HFI.out 2; have f3 := cell_row HFI.out 3
  have f4 := cell_row HFI.out 4; have f5 := cell_row HFI.out 5; have f6 := cell_row HFI.out 6; have f7 := cell_row HFI.out 7
  simp only [List.getElem?_toArray, List.getElem?_cons_zero, List.getElem?_cons_succ] at f0 f1 f2 f3 f4 f5 f6 f7
  refine bodyPost_ret (v := .tuple #[.agg (ntA p.n (reachP xs p.n.el) (.slice av p.n.sd.length cv)), .int .i64 0]) ?_ rfl ⟨_, β, rfl, Z.out.1, HG.out, Z.out.2⟩
  simp [results, Try.results11, go_sem, f0, f1, f2, f3, f4, f5, f6, f7, ntA]

end Go.Proofs.Ytkkklfnooeofcab
