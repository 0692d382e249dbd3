/-
  Pairs that came in, opened.
-/
import Derived.Test.YtmkgkgdngjmcmaaDoorCommon
import Derived.Test.YtmkgkgdngjmcmaaDoorAx
import Derived.Test.YtmkgkgdngjmcmaaDoorShifts
namespace Go.Proofs.YtmkgkgdngjmcmaaDoor
open Go.ChangeShapes Go.WideShapes Go.ChangeAt Go.RowKit Go.Deep Go.Joins
set_option linter.unusedVariables false

theorem cellsT2 : Tryd.prog.cellsOf 28 = 11 := by kernel_rfl
theorem cellsB : Tryd.prog.cellsOf 4 = 1 := by kernel_rfl

theorem op_of_cells {H : Type} {enc : TypeId × Value → H} {W : World} {fuel : Nat} {v0 v1 v2 v3 v4 : Value} {x : DataW H × List MemPlace} (h : DataW.trod enc Tryd.prog W 0 (fun _ => true) true fuel 23 [v0, v1, v2, v3, v4] = some x) :
    ∃ o : OpE, v0 = .int .i64 o.kind ∧ v1 = .int .i64 o.pos ∧ v2 = .int .u8 o.ch ∧ v3 = .int .i64 o.cl ∧ v4 = .int .i64 o.sq ∧ 0 ≤ o.ch ∧ o.ch ≤ 255 := by
  obtain ⟨y0, y1, y2, y3, y4, n, hx, _, h0, h1, h2, h3, h4⟩ := trod_struct5 Tryd.underlying23 h
  simp [cells3, cellsU] at h0 h1 h2 h3 h4
  obtain ⟨z0, e0, _, _⟩ := DataW.trod_int Tryd.underlying3 h0
  obtain ⟨z1, e1, _, _⟩ := DataW.trod_int Tryd.underlying3 h1
  obtain ⟨z2, e2, _, g2⟩ := DataW.trod_int Tryd.underlying5 h2
  obtain ⟨z3, e3, _, _⟩ := DataW.trod_int Tryd.underlying3 h3
  obtain ⟨z4, e4, _, _⟩ := DataW.trod_int Tryd.underlying3 h4
  simp at e0 e1 e2 e3 e4
  have := wf_u8_range g2
  exact ⟨⟨z0, z1, z2, z3, z4⟩, e0, e1, e2, e3, e4, this.1, this.2⟩

set_option maxRecDepth 100000 in
theorem isTwos_of {H : Type} {enc : TypeId × Value → H} {W : World} {fuel : Nat} {v : Value} {d : DataW H} {p : List MemPlace}
    (hf : DataW.trod enc Tryd.prog W 0 (fun _ => true) true fuel 26 [v] = some (d, p)) (hs : Reaches 26 d) : ∃ a n c T, v = .slice a n c ∧ IsT W a n c T ∧ True ∧ True := by
  rcases open_slice Tryd.underlying26 hf with ⟨hcs, _⟩ | ⟨x, l, cc, m, k, D, Pl, hcs, _, hl, hm, hmm, hd', hx⟩
  · simp at hcs
    exact ⟨none, 0, 0, fun _ => ⟨⟨0, 0, 0, 0, 0⟩, ⟨0, 0, 0, 0, 0⟩, false⟩, hcs, ⟨Nat.le_refl _, by omega, fun h => by omega⟩, trivial, trivial⟩
  · simp at hcs
    have hmc : m = cc := by simpa using hmm
    subst hmc
    have each : ∀ i, ∃ q : TwoE, i < l → ∀ j v, (twc q)[j]? = some v → W.cell? (x.add (i * 11 + j)) = some v := by
      intro i
      by_cases hi : i < l
      · obtain ⟨cs', h1, h2⟩ := hx i (by omega)
        rw [cellsT2] at h1
        obtain ⟨_, hlen, hcell⟩ := World.cells?_some h1
        obtain ⟨y0, y1, y2, q, hyx, _, g0, g1, g2⟩ := trod_struct3 Tryd.underlying28 h2
        match cs', hlen with
        | [v0, v1, v2, v3, v4, v5, v6, v7, v8, v9, v10], _ =>
          simp [cellsO, cellsB] at g0 g1 g2
          obtain ⟨oa, rfl, rfl, rfl, rfl, rfl, _⟩ := op_of_cells g0
          obtain ⟨ob, rfl, rfl, rfl, rfl, rfl, _⟩ := op_of_cells g1
          obtain ⟨z2, e2, _⟩ := DataW.trod_bool Tryd.underlying4 g2
          simp at e2
          subst e2
          refine ⟨⟨oa, ob, z2⟩, fun _ j v hj => ?_⟩
          have hj11 : j < 11 := by
            have := (List.getElem?_eq_some_iff.1 hj).1
            simpa [twc] using this
          have k0 := hcell j (by simpa using hj11)
          rw [add_add] at k0
          rw [k0]
          exact hj
      · exact ⟨⟨⟨0, 0, 0, 0, 0⟩, ⟨0, 0, 0, 0, 0⟩, false⟩, fun h => absurd h hi⟩
    obtain ⟨Q, hQ⟩ := Classical.axiomOfChoice each
    by_cases h0 : 0 < l
    · obtain ⟨b, off, spot⟩ := x
      have c0 := hQ 0 h0 0 _ rfl
      have hspot : spot = none := by simpa [Addr.add] using World.cell?_spot c0
      subst hspot
      have hblk := cell_lt c0
      rw [add_lit] at hblk
      refine ⟨_, l, m, Q, hcs, ⟨hl, by simpa [maxLen] using hm, fun _ => ⟨b, off, rfl, hblk, fun i hi j v hj => ?_⟩⟩, trivial, trivial⟩
      have := hQ i hi j v hj
      rw [add_lit] at this
      rw [Nat.add_assoc]
      exact this
    · exact ⟨_, l, m, Q, hcs, ⟨hl, by simpa [maxLen] using hm, fun h => absurd h h0⟩, trivial, trivial⟩

end Go.Proofs.YtmkgkgdngjmcmaaDoor
