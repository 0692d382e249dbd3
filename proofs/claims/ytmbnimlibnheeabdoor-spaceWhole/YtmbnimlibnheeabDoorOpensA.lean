/-
  Acts that came in, opened.
-/
import Derived.Test.YtmbnimlibnheeabDoorOpensO
import Derived.Test.YtmbnimlibnheeabDoorWl
namespace Go.Proofs.YtmbnimlibnheeabDoor
open Go.ChangeShapes Go.WideShapes Go.ChangeAt Go.RowKit Go.Deep Go.Joins
set_option linter.unusedVariables false

theorem cellsAc : Tryd.prog.cellsOf 35 = 5 := by kernel_rfl
theorem cellsBo : Tryd.prog.cellsOf 4 = 1 := by kernel_rfl

set_option maxRecDepth 100000 in
theorem isActs_of {H : Type} {enc : TypeId × Value → H} {W : World} {fuel : Nat} {v : Value} {d : DataW H} {p : List MemPlace}
    (hf : DataW.trod enc Tryd.prog W 0 (fun _ => true) true fuel 22 [v] = some (d, p)) (hs : Reaches 22 d) : ∃ a n c X, v = .slice a n c ∧ IsAc W a n c X ∧ OkA X ∧ True := by
  rcases open_slice Tryd.underlying22 hf with ⟨hcs, _⟩ | ⟨x, l, cc, m, k, D, Pl, hcs, _, hl, hm, hmm, hd', hx⟩
  · simp at hcs
    exact ⟨none, 0, 0, fun _ => ⟨0, false, false, 0, 0⟩, hcs, ⟨Nat.le_refl _, by omega, fun h => by omega⟩, fun i => ⟨by simp, by simp⟩, trivial⟩
  · simp at hcs
    have hmc : m = cc := by simpa using hmm
    subst hmc
    have each : ∀ i, ∃ q : AV, (0 ≤ q.ch ∧ q.ch ≤ 255) ∧ (i < l → (W.cell? (x.add (i * 5)) = some (.int .i64 q.kind) ∧ W.cell? (x.add (i * 5 + 1)) = some (.bool q.nop) ∧ W.cell? (x.add (i * 5 + 2)) = some (.bool q.out) ∧ W.cell? (x.add (i * 5 + 3)) = some (.int .i64 q.n) ∧ W.cell? (x.add (i * 5 + 4)) = some (.int .u8 q.ch))) := by
      intro i
      by_cases hi : i < l
      · obtain ⟨cs', h1, h2⟩ := hx i (by omega)
        rw [cellsAc] at h1
        obtain ⟨_, hlen, hcell⟩ := World.cells?_some h1
        obtain ⟨t0, t1, t2, t3, t4, q2, _, _, g0, g1, g2, g3, g4⟩ := trod_struct5 Tryd.underlying35 h2
        match cs', hlen with
        | [v0, v1, v2, v3, v4], _ =>
          simp [cells3, cellsBo, cellsU] at g0 g1 g2 g3 g4
          obtain ⟨z0, e0, _, _⟩ := DataW.trod_int Tryd.underlying3 g0
          obtain ⟨z1, e1, _⟩ := DataW.trod_bool Tryd.underlying4 g1
          obtain ⟨z2, e2, _⟩ := DataW.trod_bool Tryd.underlying4 g2
          obtain ⟨z3, e3, _, _⟩ := DataW.trod_int Tryd.underlying3 g3
          obtain ⟨z4, e4, _, w4⟩ := DataW.trod_int Tryd.underlying5 g4
          simp at e0 e1 e2 e3 e4
          subst e0 e1 e2 e3 e4
          have k0 := hcell 0 (by omega)
          have k1 := hcell 1 (by omega)
          have k2 := hcell 2 (by omega)
          have k3 := hcell 3 (by omega)
          have k4 := hcell 4 (by omega)
          rw [add_add] at k0 k1 k2 k3 k4
          have wr := wf_u8_range w4
          exact ⟨⟨z0, z1, z2, z3, z4⟩, ⟨wr.1, by have := wr.2; simp only [] at *; omega⟩, fun _ => ⟨by simpa using k0, by simpa using k1, by simpa using k2, by simpa using k3, by simpa using k4⟩⟩
      · exact ⟨⟨0, false, false, 0, 0⟩, ⟨by simp, by simp⟩, fun h => absurd h hi⟩
    obtain ⟨Q, hQ⟩ := Classical.axiomOfChoice each
    by_cases h0 : 0 < l
    · obtain ⟨b, off, spot⟩ := x
      have c0 := ((hQ 0).2 h0).1
      have hspot : spot = none := by simpa [Addr.add] using World.cell?_spot c0
      subst hspot
      have hblk := cell_lt c0
      rw [add_lit] at hblk
      refine ⟨_, l, m, Q, hcs, ⟨hl, by simpa [maxLen] using hm, fun _ => ⟨b, off, rfl, hblk, fun i hi => ?_⟩⟩, fun i => (hQ i).1, trivial⟩
      obtain ⟨k0, k1, k2, k3, k4⟩ := (hQ i).2 hi
      rw [add_lit] at k0 k1 k2 k3 k4
      exact ⟨k0, k1, k2, k3, k4⟩
    · exact ⟨_, l, m, Q, hcs, ⟨hl, by simpa [maxLen] using hm, fun h => absurd h h0⟩, fun i => (hQ i).1, trivial⟩

end Go.Proofs.YtmbnimlibnheeabDoor
