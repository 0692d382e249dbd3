/-
  Scripts, opened.
-/
import Derived.Test.YtnglcnilckolkaaOpensL
import Derived.Test.YtnglcnilckolkaaPs
namespace Go.Proofs.Ytnglcnilckolkaa
open Go.ChangeShapes Go.WideShapes Go.ChangeAt Go.RowKit Go.Deep Go.Joins
set_option linter.unusedVariables false

theorem cells53 : Try.prog.cellsOf 53 = 6 := by kernel_rfl
theorem cellsB : Try.prog.cellsOf 4 = 1 := by kernel_rfl

section
variable {H : Type} {enc : TypeId × Value → H} {P : Program} {w : World} {base : Nat} {spare : Nat → Bool} {held : Bool}
theorem trod_struct6 {t : TypeId} {f0 f1 f2 f3 f4 f5 : Field} {fuel : Nat} {cs : List Value} {x : DataW H × List MemPlace} (ht : P.underlying t = some (.struct #[f0, f1, f2, f3, f4, f5])) (h : DataW.trod enc P w base spare held fuel t cs = some x) :
    ∃ y0 y1 y2 y3 y4 y5 n, x = (.agg [y0.1, y1.1, y2.1, y3.1, y4.1, y5.1], y0.2 ++ (y1.2 ++ (y2.2 ++ (y3.2 ++ (y4.2 ++ y5.2))))) ∧ cs.length = P.cellsOf t ∧ DataW.trod enc P w base spare held n f0.type ((cs.drop f0.offset).take (P.cellsOf f0.type)) = some y0 ∧
      DataW.trod enc P w base spare held n f1.type ((cs.drop f1.offset).take (P.cellsOf f1.type)) = some y1 ∧ DataW.trod enc P w base spare held n f2.type ((cs.drop f2.offset).take (P.cellsOf f2.type)) = some y2 ∧
      DataW.trod enc P w base spare held n f3.type ((cs.drop f3.offset).take (P.cellsOf f3.type)) = some y3 ∧ DataW.trod enc P w base spare held n f4.type ((cs.drop f4.offset).take (P.cellsOf f4.type)) = some y4 ∧
      DataW.trod enc P w base spare held n f5.type ((cs.drop f5.offset).take (P.cellsOf f5.type)) = some y5 := by
  obtain ⟨xs, n, _, rfl, hl, hlen, hf⟩ := DataW.trod_struct ht h
  match xs, hlen with
  | [y0, y1, y2, y3, y4, y5], _ => exact ⟨y0, y1, y2, y3, y4, y5, n, by simp, hl, by simpa using hf 0 f0 rfl, by simpa using hf 1 f1 rfl, by simpa using hf 2 f2 rfl, by simpa using hf 3 f3 rfl, by simpa using hf 4 f4 rfl, by simpa using hf 5 f5 rfl⟩

end

/-- The cells of an operation and what they say. -/
def OpAt (w : World) (x : Addr) (i : Nat) (q : OpV × Option Addr × Nat × Nat) : Prop :=
  w.cell? (x.add (i * 6)) = some (.int .i64 q.1.kind) ∧ w.cell? (x.add (i * 6 + 1)) = some (.bool q.1.which) ∧ w.cell? (x.add (i * 6 + 2)) = some (.int .i64 q.1.i) ∧ w.cell? (x.add (i * 6 + 3)) = some (.int .i64 q.1.a) ∧
    w.cell? (x.add (i * 6 + 4)) = some (.int .i64 q.1.b) ∧ w.cell? (x.add (i * 6 + 5)) = some (.slice q.2.1 q.2.2.1 q.2.2.2) ∧ IsB w q.2.1 q.2.2.1 q.2.2.2 q.1.xs

set_option maxRecDepth 100000 in
theorem isS_of {H : Type} {enc : TypeId × Value → H} {W : World} {fuel : Nat} {v : Value} {d : DataW H} {p : List MemPlace}
    (hf : DataW.trod enc Try.prog W 0 (fun _ => true) true fuel 51 [v] = some (d, p)) (hs : Fits 51 d) : ∃ al nl cl O A N C, v = .slice al nl cl ∧ IsS W al nl cl O A N C := by
  rcases open_slice Try.underlying51 hf with ⟨hcs, _⟩ | ⟨x, l, cc, m, k, D, Pl, hcs, _, hl, hm, hmm, hd', hx⟩
  · simp at hcs
    exact ⟨none, 0, 0, fun _ => ⟨0, false, 0, 0, 0, []⟩, fun _ => none, fun _ => 0, fun _ => 0, hcs, Nat.le_refl _, by omega, fun h => by omega⟩
  · simp at hcs
    have hmc : m = cc := by simpa using hmm
    subst hmc
    have hd2 : d = _ := (Prod.mk.inj hd').1
    have each : ∀ i, i < l → ∃ q, OpAt W x i q := by
      intro i hi
      obtain ⟨cs', h1, h2⟩ := hx i (by omega)
      rw [cells53] at h1
      obtain ⟨_, hlen, hcell⟩ := World.cells?_some h1
      have fits : Fits 53 (D i) := by
        intro kk hk
        refine hs kk ?_
        rw [hd2]
        have hmem : kk ∈ DataW.weightsAll Try.prog 53 ((List.range l).map D) := weights_elem 53 _ (D i) (List.mem_map.2 ⟨i, List.mem_range.2 hi, rfl⟩) kk hk
        simp only [DataW.weights, Try.underlying51]
        exact List.mem_cons_of_mem _ (List.mem_append_left _ hmem)
      obtain ⟨y0, y1, y2, y3, y4, y5, q, hyx, _, g0, g1, g2, g3, g4, g5⟩ := trod_struct6 Try.underlying53 h2
      match cs', hlen with
      | [v0, v1, v2, v3, v4, v5], _ =>
        simp [cells3, cellsB, cells28] at g0 g1 g2 g3 g4 g5
        obtain ⟨z0, e0, _, _⟩ := DataW.trod_int Try.underlying3 g0
        obtain ⟨z1, e1, _⟩ := DataW.trod_bool Try.underlying4 g1
        obtain ⟨z2, e2, _, _⟩ := DataW.trod_int Try.underlying3 g2
        obtain ⟨z3, e3, _, _⟩ := DataW.trod_int Try.underlying3 g3
        obtain ⟨z4, e4, _, _⟩ := DataW.trod_int Try.underlying3 g4
        have fits5 : Fits 28 y5.1 := by
          intro kk hk
          refine fits kk ?_
          rw [(Prod.mk.inj hyx).1]
          simp only [DataW.weights, Try.underlying53]
          exact DataW.weights_mem_each (j := 5) (t := 28) rfl rfl kk hk
        obtain ⟨a5, n5, c5, xs5, e5, hb5, hn5⟩ := isB_of (d := y5.1) (p := y5.2) g5 fits5
        simp at e0 e1 e2 e3 e4
        subst e0 e1 e2 e3 e4 e5
        have k0 := hcell 0 (by omega)
        have k1 := hcell 1 (by omega)
        have k2 := hcell 2 (by omega)
        have k3 := hcell 3 (by omega)
        have k4 := hcell 4 (by omega)
        have k5 := hcell 5 (by omega)
        rw [add_add] at k0 k1 k2 k3 k4 k5
        exact ⟨⟨⟨z0, z1, z2, z3, z4, xs5⟩, a5, n5, c5⟩, by simpa using k0, by simpa using k1, by simpa using k2, by simpa using k3, by simpa using k4, by simpa using k5, hb5⟩
    by_cases h0 : 0 < l
    · have each2 : ∀ i, ∃ q, i < l → OpAt W x i q := by
        intro i
        by_cases hi : i < l
        · obtain ⟨q, hq⟩ := each i hi
          exact ⟨q, fun _ => hq⟩
        · exact ⟨⟨⟨0, false, 0, 0, 0, []⟩, none, 0, 0⟩, fun h => absurd h hi⟩
      obtain ⟨Q, hQ⟩ := Classical.axiomOfChoice each2
      obtain ⟨b, off, spot⟩ := x
      have c0 := (hQ 0 h0).1
      have hspot : spot = none := by simpa [Addr.add] using World.cell?_spot c0
      subst hspot
      have hblk := cell_lt c0
      rw [add_plain] at hblk
      refine ⟨_, l, m, fun i => (Q i).1, fun i => (Q i).2.1, fun i => (Q i).2.2.1, fun i => (Q i).2.2.2, hcs, hl, by simpa [maxLen] using hm, fun _ => ⟨b, off, rfl, hblk, fun i hi => ?_⟩⟩
      have := hQ i hi
      unfold OpAt at this
      simp only [add_plain] at this
      simpa [Nat.add_assoc] using this
    · exact ⟨_, l, m, fun _ => ⟨0, false, 0, 0, 0, []⟩, fun _ => none, fun _ => 0, fun _ => 0, hcs, hl, by simpa [maxLen] using hm, fun h => absurd h h0⟩

end Go.Proofs.Ytnglcnilckolkaa
