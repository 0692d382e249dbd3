/-
  Lists of operations that came in, opened.
-/
import Derived.Test.YtmbnimlibnheeabDoorCommon
import Derived.Test.YtmbnimlibnheeabDoorMa
namespace Go.Proofs.YtmbnimlibnheeabDoor
open Go.ChangeShapes Go.WideShapes Go.ChangeAt Go.RowKit Go.Deep Go.Joins
set_option linter.unusedVariables false

theorem bytesO : Tryd.prog.bytesOf 37 = 40 := by kernel_rfl

theorem cO_of_fn (D : Nat → OpE) : ∀ (l : Nat) (j : Nat) (v : Value), (cO ((List.range l).map D))[j]? = some v → ∃ i r, i < l ∧ j = i * 5 + r ∧ r < 5 ∧ (opc (D i))[r]? = some v := by
  intro l
  induction l with
  | zero => intro j v h; simp [cO] at h
  | succ l ih =>
    intro j v h
    rw [List.range_succ, List.map_append, cO_app, List.getElem?_append] at h
    have hl : (cO ((List.range l).map D)).length = l * 5 := by rw [cO_len]; simp
    split at h
    · obtain ⟨i, r, h1, h2⟩ := ih j v h
      exact ⟨i, r, by omega, h2⟩
    · rename_i hj
      rw [hl] at h hj
      simp only [List.map_cons, List.map_nil, cO_one] at h
      have h3 : j - l * 5 < 5 := by
        have := (List.getElem?_eq_some_iff.1 h).1
        simpa [opc] using this
      exact ⟨l, j - l * 5, by omega, by omega, h3, h⟩

set_option maxRecDepth 100000 in
theorem isOps_of {H : Type} {enc : TypeId × Value → H} {W : World} {fuel : Nat} {v : Value} {d : DataW H} {p : List MemPlace}
    (hf : DataW.trod enc Tryd.prog W 0 (fun _ => true) true fuel 68 [v] = some (d, p)) (hs : Reaches 68 d) : ∃ a n c os, v = .slice a n c ∧ IsO W a n c os ∧ OkO os ∧ n * 40 ≤ 140737488351232 := by
  rcases open_slice Tryd.underlying68 hf with ⟨hcs, _⟩ | ⟨x, l, cc, m, k, D, Pl, hcs, _, hl, hm, hmm, hd', hx⟩
  · simp at hcs
    exact ⟨none, 0, 0, [], hcs, ⟨rfl, Nat.le_refl _, by omega, fun h => by omega⟩, fun x hx => (by cases hx), by omega⟩
  · simp at hcs
    have hmc : m = cc := by simpa using hmm
    subst hmc
    have hd2 : d = _ := (Prod.mk.inj hd').1
    have hby : l * 40 ≤ 140737488351232 := by
      subst hd2
      have := hs ((((List.range l).map D).length + ((List.range (m - l)).map fun j => D (l + j)).length) * Tryd.prog.bytesOf 37) (by simp [DataW.weights, Tryd.underlying68])
      rw [bytesO] at this
      simp at this
      omega
    have each : ∀ i, ∃ q : OpE, i < l → (W.cell? (x.add (i * 5)) = some (.int .i64 q.kind) ∧ W.cell? (x.add (i * 5 + 1)) = some (.int .i64 q.pos) ∧ W.cell? (x.add (i * 5 + 2)) = some (.int .u8 q.ch) ∧ W.cell? (x.add (i * 5 + 3)) = some (.int .i64 q.cl) ∧ W.cell? (x.add (i * 5 + 4)) = some (.int .i64 q.sq) ∧ 0 ≤ q.ch ∧ q.ch ≤ 255) := by
      intro i
      by_cases hi : i < l
      · obtain ⟨cs', h1, h2⟩ := hx i (by omega)
        rw [cellsO] at h1
        obtain ⟨_, hlen, hcell⟩ := World.cells?_some h1
        obtain ⟨y0, y1, y2, y3, y4, q, hyx, _, g0, g1, g2, g3, g4⟩ := trod_struct5 Tryd.underlying37 h2
        match cs', hlen with
        | [v0, v1, v2, v3, v4], _ =>
          simp [cells3, cellsU] at g0 g1 g2 g3 g4
          obtain ⟨z0, e0, _, _⟩ := DataW.trod_int Tryd.underlying3 g0
          obtain ⟨z1, e1, _, _⟩ := DataW.trod_int Tryd.underlying3 g1
          obtain ⟨z2, e2, _, w2⟩ := DataW.trod_int Tryd.underlying5 g2
          obtain ⟨z3, e3, _, _⟩ := DataW.trod_int Tryd.underlying3 g3
          obtain ⟨z4, e4, _, _⟩ := DataW.trod_int Tryd.underlying3 g4
          simp at e0 e1 e2 e3 e4
          subst e0 e1 e2 e3 e4
          have k0 := hcell 0 (by omega)
          have k1 := hcell 1 (by omega)
          have k2 := hcell 2 (by omega)
          have k3 := hcell 3 (by omega)
          have k4 := hcell 4 (by omega)
          rw [add_add] at k0 k1 k2 k3 k4
          have := wf_u8_range w2
          exact ⟨⟨z0, z1, z2, z3, z4⟩, fun _ => ⟨by simpa using k0, by simpa using k1, by simpa using k2, by simpa using k3, by simpa using k4, this.1, this.2⟩⟩
      · exact ⟨⟨0, 0, 0, 0, 0⟩, fun h => absurd h hi⟩
    obtain ⟨Q, hQ⟩ := Classical.axiomOfChoice each
    by_cases h0 : 0 < l
    · obtain ⟨b, off, spot⟩ := x
      have c0 := (hQ 0 h0).1
      have hspot : spot = none := by simpa [Addr.add] using World.cell?_spot c0
      subst hspot
      have hblk := cell_lt c0
      rw [add_lit] at hblk
      refine ⟨_, l, m, (List.range l).map Q, hcs, ⟨by simp, hl, by simpa [maxLen] using hm, fun _ => ⟨b, off, rfl, hblk, fun j v hj => ?_⟩⟩, ?_, hby⟩
      · obtain ⟨i, r, hi, rfl, hr, hv⟩ := cO_of_fn Q l j v hj
        obtain ⟨k0, k1, k2, k3, k4, _⟩ := hQ i hi
        rw [add_lit] at k0 k1 k2 k3 k4
        match r, hr with
        | 0, _ => simp [opc] at hv; subst hv; exact k0
        | 1, _ => simp [opc] at hv; subst hv; exact k1
        | 2, _ => simp [opc] at hv; subst hv; exact k2
        | 3, _ => simp [opc] at hv; subst hv; exact k3
        | 4, _ => simp [opc] at hv; subst hv; exact k4
      · intro q hq
        obtain ⟨i, hi, rfl⟩ := List.mem_map.1 hq
        exact (hQ i (List.mem_range.1 hi)).2.2.2.2.2
    · obtain rfl : l = 0 := by omega
      exact ⟨_, 0, m, [], hcs, ⟨rfl, hl, by simpa [maxLen] using hm, fun h => absurd h h0⟩, fun x hx => (by cases hx), by omega⟩

end Go.Proofs.YtmbnimlibnheeabDoor
