/-
  Moves that came in, opened.
-/
import Derived.Test.YtjgpibajndlhaaaCommon
import Derived.Test.YtjgpibajndlhaaaCk
namespace Go.Proofs.Ytjgpibajndlhaaa
open Go.ChangeShapes Go.WideShapes Go.ChangeAt Go.RowKit Go.Deep Go.Joins
set_option linter.unusedVariables false

theorem bytesMd : Try.prog.bytesOf 32 = 24 := by kernel_rfl
theorem cellsMd : Try.prog.cellsOf 32 = 3 := by kernel_rfl
theorem cellsBo : Try.prog.cellsOf 4 = 1 := by kernel_rfl

set_option maxRecDepth 100000 in
theorem isMades_of {H : Type} {enc : TypeId × Value → H} {W : World} {fuel : Nat} {v : Value} {d : DataW H} {p : List MemPlace}
    (hf : DataW.trod enc Try.prog W 0 (fun _ => true) true fuel 22 [v] = some (d, p)) (hs : Reaches 22 d) : ∃ a n c M, v = .slice a n c ∧ IsMd W a n c M ∧ True ∧ n ≤ 5864062014634 := by
  rcases open_slice Try.underlying22 hf with ⟨hcs, _⟩ | ⟨x, l, cc, m, k, D, Pl, hcs, _, hl, hm, hmm, hd', hx⟩
  · simp at hcs
    exact ⟨none, 0, 0, fun _ => (false, 0, 0), hcs, ⟨Nat.le_refl _, by omega, fun h => by omega⟩, trivial, by omega⟩
  · simp at hcs
    have hmc : m = cc := by simpa using hmm
    subst hmc
    have hd2 : d = _ := (Prod.mk.inj hd').1
    have hby : l ≤ 5864062014634 := by
      subst hd2
      have := hs ((((List.range l).map D).length + ((List.range (m - l)).map fun j => D (l + j)).length) * Try.prog.bytesOf 32) (by simp [DataW.weights, Try.underlying22])
      rw [bytesMd] at this
      simp at this
      omega
    have each : ∀ i, ∃ q : Bool × Int × Int, i < l → (W.cell? (x.add (i * 3)) = some (.bool q.1) ∧ W.cell? (x.add (i * 3 + 1)) = some (.int .i64 q.2.1) ∧ W.cell? (x.add (i * 3 + 2)) = some (.int .i64 q.2.2)) := by
      intro i
      by_cases hi : i < l
      · obtain ⟨cs', h1, h2⟩ := hx i (by omega)
        rw [cellsMd] at h1
        obtain ⟨_, hlen, hcell⟩ := World.cells?_some h1
        obtain ⟨y0, y1, y2, q, hyx, _, g0, g1, g2⟩ := trod_struct3 Try.underlying32 h2
        match cs', hlen with
        | [v0, v1, v2], _ =>
          simp [cells3, cellsBo] at g0 g1 g2
          obtain ⟨z0, e0, _⟩ := DataW.trod_bool Try.underlying4 g0
          obtain ⟨z1, e1, _, _⟩ := DataW.trod_int Try.underlying3 g1
          obtain ⟨z2, e2, _, w2⟩ := DataW.trod_int Try.underlying3 g2
          simp at e0 e1 e2
          subst e0 e1 e2
          have k0 := hcell 0 (by omega)
          have k1 := hcell 1 (by omega)
          have k2 := hcell 2 (by omega)
          rw [add_add] at k0 k1 k2
          exact ⟨(z0, z1, z2), fun _ => ⟨by simpa using k0, by simpa using k1, by simpa using k2⟩⟩
      · exact ⟨(false, 0, 0), fun h => absurd h hi⟩
    obtain ⟨Q, hQ⟩ := Classical.axiomOfChoice each
    by_cases h0 : 0 < l
    · obtain ⟨b, off, spot⟩ := x
      have c0 := (hQ 0 h0).1
      have hspot : spot = none := by simpa [Addr.add] using World.cell?_spot c0
      subst hspot
      have hblk := cell_lt c0
      rw [add_lit] at hblk
      refine ⟨_, l, m, Q, hcs, ⟨hl, by simpa [maxLen] using hm, fun _ => ⟨b, off, rfl, hblk, fun i hi => ?_⟩⟩, trivial, hby⟩
      obtain ⟨k0, k1, k2⟩ := hQ i hi
      rw [add_lit] at k0 k1 k2
      exact ⟨k0, k1, k2⟩
    · exact ⟨_, l, m, Q, hcs, ⟨hl, by simpa [maxLen] using hm, fun h => absurd h h0⟩, trivial, hby⟩

end Go.Proofs.Ytjgpibajndlhaaa
