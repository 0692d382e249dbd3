/-
  Scripts that came in, opened.
-/
import Derived.Test.YtmbnimlibnheeabDoorOpensO
import Derived.Test.YtmbnimlibnheeabDoorRb
namespace Go.Proofs.YtmbnimlibnheeabDoor
open Go.ChangeShapes Go.WideShapes Go.ChangeAt Go.RowKit Go.Deep Go.Joins
set_option linter.unusedVariables false

theorem cellsL : Tryd.prog.cellsOf 51 = 8 := by kernel_rfl
theorem cellsB : Tryd.prog.cellsOf 4 = 1 := by kernel_rfl

theorem trod_struct4 {H : Type} {enc : TypeId × Value → H} {P : Program} {w : World} {base : Nat} {spare : Nat → Bool} {held : Bool} {t : TypeId} {f0 f1 f2 f3 : Field} {fuel : Nat} {cs : List Value} {x : DataW H × List MemPlace} (ht : P.underlying t = some (.struct #[f0, f1, f2, f3])) (h : DataW.trod enc P w base spare held fuel t cs = some x) :
    ∃ y0 y1 y2 y3 n, cs.length = P.cellsOf t ∧ DataW.trod enc P w base spare held n f0.type ((cs.drop f0.offset).take (P.cellsOf f0.type)) = some y0 ∧
      DataW.trod enc P w base spare held n f1.type ((cs.drop f1.offset).take (P.cellsOf f1.type)) = some y1 ∧ DataW.trod enc P w base spare held n f2.type ((cs.drop f2.offset).take (P.cellsOf f2.type)) = some y2 ∧
      DataW.trod enc P w base spare held n f3.type ((cs.drop f3.offset).take (P.cellsOf f3.type)) = some y3 := by
  obtain ⟨xs, n, _, rfl, hl, hlen, hf⟩ := DataW.trod_struct ht h
  match xs, hlen with
  | [y0, y1, y2, y3], _ => exact ⟨y0, y1, y2, y3, n, hl, by simpa using hf 0 f0 rfl, by simpa using hf 1 f1 rfl, by simpa using hf 2 f2 rfl, by simpa using hf 3 f3 rfl⟩

set_option maxRecDepth 100000 in
theorem isLOps_of {H : Type} {enc : TypeId × Value → H} {W : World} {fuel : Nat} {v : Value} {d : DataW H} {p : List MemPlace}
    (hf : DataW.trod enc Tryd.prog W 0 (fun _ => true) true fuel 46 [v] = some (d, p)) (hs : Reaches 46 d) : ∃ a n c X, v = .slice a n c ∧ IsL W a n c X ∧ OkL X ∧ True := by
  rcases open_slice Tryd.underlying46 hf with ⟨hcs, _⟩ | ⟨x, l, cc, m, k, D, Pl, hcs, _, hl, hm, hmm, hd', hx⟩
  · simp at hcs
    exact ⟨none, 0, 0, fun _ => ⟨0, false, 0, ⟨0, 0, 0, 0, 0⟩⟩, hcs, ⟨Nat.le_refl _, by omega, fun h => by omega⟩, fun i => ⟨by simp, by simp⟩, trivial⟩
  · simp at hcs
    have hmc : m = cc := by simpa using hmm
    subst hmc
    have each : ∀ i, ∃ q : LV, OkOp q.op ∧ (i < l → (W.cell? (x.add (i * 8)) = some (.int .i64 q.kind) ∧ W.cell? (x.add (i * 8 + 1)) = some (.bool q.which) ∧ W.cell? (x.add (i * 8 + 2)) = some (.int .i64 q.mark) ∧ W.cell? (x.add (i * 8 + 3)) = some (.int .i64 q.op.kind) ∧ W.cell? (x.add (i * 8 + 4)) = some (.int .i64 q.op.pos) ∧ W.cell? (x.add (i * 8 + 5)) = some (.int .u8 q.op.ch) ∧ W.cell? (x.add (i * 8 + 6)) = some (.int .i64 q.op.cl) ∧ W.cell? (x.add (i * 8 + 7)) = some (.int .i64 q.op.sq))) := by
      intro i
      by_cases hi : i < l
      · obtain ⟨cs', h1, h2⟩ := hx i (by omega)
        rw [cellsL] at h1
        obtain ⟨_, hlen, hcell⟩ := World.cells?_some h1
        obtain ⟨y0, y1, y2, y3, q, _, g0, g1, g2, g3⟩ := trod_struct4 Tryd.underlying51 h2
        match cs', hlen with
        | [v0, v1, v2, v3, v4, v5, v6, v7], _ =>
          simp [cells3, cellsB, cellsO] at g0 g1 g2 g3
          obtain ⟨z0, e0, _, _⟩ := DataW.trod_int Tryd.underlying3 g0
          obtain ⟨z1, e1, _⟩ := DataW.trod_bool Tryd.underlying4 g1
          obtain ⟨z2, e2, _, _⟩ := DataW.trod_int Tryd.underlying3 g2
          obtain ⟨t0, t1, t2, t3, t4, q2, _, _, r0, r1, r2, r3, r4⟩ := trod_struct5 Tryd.underlying37 g3
          simp [cells3, cellsU] at r0 r1 r2 r3 r4
          obtain ⟨z3, e3, _, _⟩ := DataW.trod_int Tryd.underlying3 r0
          obtain ⟨z4, e4, _, _⟩ := DataW.trod_int Tryd.underlying3 r1
          obtain ⟨z5, e5, _, w5⟩ := DataW.trod_int Tryd.underlying5 r2
          obtain ⟨z6, e6, _, _⟩ := DataW.trod_int Tryd.underlying3 r3
          obtain ⟨z7, e7, _, _⟩ := DataW.trod_int Tryd.underlying3 r4
          simp at e0 e1 e2 e3 e4 e5 e6 e7
          subst e0 e1 e2 e3 e4 e5 e6 e7
          have k0 := hcell 0 (by omega)
          have k1 := hcell 1 (by omega)
          have k2 := hcell 2 (by omega)
          have k3 := hcell 3 (by omega)
          have k4 := hcell 4 (by omega)
          have k5 := hcell 5 (by omega)
          have k6 := hcell 6 (by omega)
          have k7 := hcell 7 (by omega)
          rw [add_add] at k0 k1 k2 k3 k4 k5 k6 k7
          exact ⟨⟨z0, z1, z2, ⟨z3, z4, z5, z6, z7⟩⟩, wf_u8_range w5, fun _ => ⟨by simpa using k0, by simpa using k1, by simpa using k2, by simpa using k3, by simpa using k4, by simpa using k5, by simpa using k6, by simpa using k7⟩⟩
      · exact ⟨⟨0, false, 0, ⟨0, 0, 0, 0, 0⟩⟩, ⟨by simp, by simp⟩, fun h => absurd h hi⟩
    obtain ⟨Q, hQ⟩ := Classical.axiomOfChoice each
    by_cases h0 : 0 < l
    · obtain ⟨b, off, spot⟩ := x
      have c0 := ((hQ 0).2 h0).1
      have hspot : spot = none := by simpa [Addr.add] using World.cell?_spot c0
      subst hspot
      have hblk := cell_lt c0
      rw [add_lit] at hblk
      refine ⟨_, l, m, Q, hcs, ⟨hl, by simpa [maxLen] using hm, fun _ => ⟨b, off, rfl, hblk, fun i hi => ?_⟩⟩, fun i => (hQ i).1, trivial⟩
      obtain ⟨k0, k1, k2, k3, k4, k5, k6, k7⟩ := (hQ i).2 hi
      rw [add_lit] at k0 k1 k2 k3 k4 k5 k6 k7
      exact ⟨k0, k1, k2, k3, k4, k5, k6, k7⟩
    · exact ⟨_, l, m, Q, hcs, ⟨hl, by simpa [maxLen] using hm, fun h => absurd h h0⟩, fun i => (hQ i).1, trivial⟩

end Go.Proofs.YtmbnimlibnheeabDoor
