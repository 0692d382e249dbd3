/-
  Scripts, opened.
-/
import Derived.Test.YtpjnhjijipcjkaaCommon
import Derived.Test.YtpjnhjijipcjkaaSc
namespace Go.Proofs.Ytpjnhjijipcjkaa
open Go.ChangeShapes Go.WideShapes Go.ChangeAt Go.RowKit Go.Deep Go.Joins
set_option linter.unusedVariables false

theorem cellsOp : Try.prog.cellsOf 56 = 5 := by kernel_rfl
theorem cellsOps : Try.prog.cellsOf 47 = 1 := by kernel_rfl
theorem bytesOp : Try.prog.bytesOf 56 = 56 := by kernel_rfl

section
variable {H : Type} {enc : TypeId × Value → H} {P : Program} {w : World} {base : Nat} {spare : Nat → Bool} {held : Bool}
theorem trod_struct5 {t : TypeId} {f0 f1 f2 f3 f4 : Field} {fuel : Nat} {cs : List Value} {x : DataW H × List MemPlace} (ht : P.underlying t = some (.struct #[f0, f1, f2, f3, f4])) (h : DataW.trod enc P w base spare held fuel t cs = some x) :
    ∃ y0 y1 y2 y3 y4 n, x = (.agg [y0.1, y1.1, y2.1, y3.1, y4.1], y0.2 ++ (y1.2 ++ (y2.2 ++ (y3.2 ++ y4.2)))) ∧ cs.length = P.cellsOf t ∧ DataW.trod enc P w base spare held n f0.type ((cs.drop f0.offset).take (P.cellsOf f0.type)) = some y0 ∧
      DataW.trod enc P w base spare held n f1.type ((cs.drop f1.offset).take (P.cellsOf f1.type)) = some y1 ∧ DataW.trod enc P w base spare held n f2.type ((cs.drop f2.offset).take (P.cellsOf f2.type)) = some y2 ∧
      DataW.trod enc P w base spare held n f3.type ((cs.drop f3.offset).take (P.cellsOf f3.type)) = some y3 ∧ DataW.trod enc P w base spare held n f4.type ((cs.drop f4.offset).take (P.cellsOf f4.type)) = some y4 := by
  obtain ⟨xs, n, _, rfl, hl, hlen, hf⟩ := DataW.trod_struct ht h
  match xs, hlen with
  | [y0, y1, y2, y3, y4], _ => exact ⟨y0, y1, y2, y3, y4, n, by simp, hl, by simpa using hf 0 f0 rfl, by simpa using hf 1 f1 rfl, by simpa using hf 2 f2 rfl, by simpa using hf 3 f3 rfl, by simpa using hf 4 f4 rfl⟩
end

theorem op_cells {w : World} {b off i : Nat} {q : OpV} (h : w.cell? ((⟨b, off, none⟩ : Addr).add (i * 5)) = some (.int .i64 q.kind) ∧ w.cell? ((⟨b, off, none⟩ : Addr).add (i * 5 + 1)) = some (.int .i64 q.slot) ∧ w.cell? ((⟨b, off, none⟩ : Addr).add (i * 5 + 2)) = some (.int .i64 q.n) ∧ w.cell? ((⟨b, off, none⟩ : Addr).add (i * 5 + 3)) = some (.int .i64 q.v) ∧ w.cell? ((⟨b, off, none⟩ : Addr).add (i * 5 + 4)) = some (.slice q.ia q.il q.ic)) : OpAt w b (off + i * 5) q := by
  simp only [add_plain] at h
  exact h

set_option maxRecDepth 100000 in
theorem isS_of {H : Type} {enc : TypeId × Value → H} {W : World} {fuel : Nat} {v : Value} {d : DataW H} {p : List MemPlace}
    (hf : DataW.trod enc Try.prog W 0 (fun _ => true) true fuel 47 [v] = some (d, p)) (hs : Fits 47 d) : ∃ al nl cl O, v = .slice al nl cl ∧ IsS W al nl cl O ∧ nl * 56 ≤ 140737488351232 := by
  rcases open_slice Try.underlying47 hf with ⟨hcs, _⟩ | ⟨x, l, cc, m, k, D, Pl, hcs, _, hl, hm, hmm, hd', hx⟩
  · simp at hcs
    exact ⟨none, 0, 0, fun _ => ⟨0, 0, 0, 0, none, 0, 0⟩, hcs, ⟨Nat.le_refl _, by omega, fun h => by omega⟩, by omega⟩
  · simp at hcs
    have hmc : m = cc := by simpa using hmm
    subst hmc
    have hd2 : d = _ := (Prod.mk.inj hd').1
    have hsz : l * 56 ≤ 140737488351232 := by
      have := hs ((((List.range l).map D).length + ((List.range (m - l)).map fun i => D (l + i)).length) * Try.prog.bytesOf 56) (by rw [hd2]; simp [DataW.weights, Try.underlying47])
      rw [bytesOp] at this
      simp at this
      omega
    have each : ∀ i, i < l → ∃ q : OpV, W.cell? (x.add (i * 5)) = some (.int .i64 q.kind) ∧ W.cell? (x.add (i * 5 + 1)) = some (.int .i64 q.slot) ∧ W.cell? (x.add (i * 5 + 2)) = some (.int .i64 q.n) ∧ W.cell? (x.add (i * 5 + 3)) = some (.int .i64 q.v) ∧ W.cell? (x.add (i * 5 + 4)) = some (.slice q.ia q.il q.ic) := by
      intro i hi
      obtain ⟨cs', h1, h2⟩ := hx i (by omega)
      rw [cellsOp] at h1
      obtain ⟨_, hlen, hcell⟩ := World.cells?_some h1
      obtain ⟨y0, y1, y2, y3, y4, q, hyx, _, g0, g1, g2, g3, g4⟩ := trod_struct5 Try.underlying56 h2
      match cs', hlen with
      | [v0, v1, v2, v3, v4], _ =>
        simp [cells3, cellsOps] at g0 g1 g2 g3 g4
        obtain ⟨z0, e0, _, _⟩ := DataW.trod_int Try.underlying3 g0
        obtain ⟨z1, e1, _, _⟩ := DataW.trod_int Try.underlying3 g1
        obtain ⟨z2, e2, _, _⟩ := DataW.trod_int Try.underlying3 g2
        obtain ⟨z3, e3, _, _⟩ := DataW.trod_int Try.underlying3 g3
        simp at e0 e1 e2 e3
        subst e0 e1 e2 e3
        have e4 : ∃ a n c, v4 = .slice a n c := by
          rcases open_slice Try.underlying47 g4 with ⟨hcs, _⟩ | ⟨x, l, cc, m, k, D, Pl, hcs, _⟩
          · simp at hcs
            exact ⟨_, _, _, hcs⟩
          · simp at hcs
            exact ⟨_, _, _, hcs⟩
        obtain ⟨ia, il, ic, rfl⟩ := e4
        have k0 := hcell 0 (by omega)
        have k1 := hcell 1 (by omega)
        have k2 := hcell 2 (by omega)
        have k3 := hcell 3 (by omega)
        have k4 := hcell 4 (by omega)
        rw [add_add] at k0 k1 k2 k3 k4
        exact ⟨⟨z0, z1, z2, z3, ia, il, ic⟩, by simpa using k0, by simpa using k1, by simpa using k2, by simpa using k3, by simpa using k4⟩
    by_cases h0 : 0 < l
    · have each2 : ∀ i, ∃ q : OpV, i < l → W.cell? (x.add (i * 5)) = some (.int .i64 q.kind) ∧ W.cell? (x.add (i * 5 + 1)) = some (.int .i64 q.slot) ∧ W.cell? (x.add (i * 5 + 2)) = some (.int .i64 q.n) ∧ W.cell? (x.add (i * 5 + 3)) = some (.int .i64 q.v) ∧ W.cell? (x.add (i * 5 + 4)) = some (.slice q.ia q.il q.ic) := by
        intro i
        by_cases hi : i < l
        · obtain ⟨q, hq⟩ := each i hi
          exact ⟨q, fun _ => hq⟩
        · exact ⟨⟨0, 0, 0, 0, none, 0, 0⟩, fun h => absurd h hi⟩
      obtain ⟨Q, hQ⟩ := Classical.axiomOfChoice each2
      obtain ⟨b, off, spot⟩ := x
      have c0 := (hQ 0 h0).1
      have hspot : spot = none := by simpa [Addr.add] using World.cell?_spot c0
      subst hspot
      have hblk := cell_lt c0
      rw [add_plain] at hblk
      exact ⟨_, l, m, Q, hcs, ⟨hl, by simpa [maxLen] using hm, fun _ => ⟨b, off, rfl, hblk, fun i hi => op_cells (hQ i hi)⟩⟩, hsz⟩
    · exact ⟨_, l, m, fun _ => ⟨0, 0, 0, 0, none, 0, 0⟩, hcs, ⟨hl, by simpa [maxLen] using hm, fun h => absurd h h0⟩, hsz⟩

end Go.Proofs.Ytpjnhjijipcjkaa
