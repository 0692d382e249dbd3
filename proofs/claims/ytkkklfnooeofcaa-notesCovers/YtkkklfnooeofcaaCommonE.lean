/-
  A list of elements, opened.
-/
import Derived.Test.YtkkklfnooeofcaaCommonO
namespace Go.Proofs.Ytkkklfnooeofcaa
open Go.ChangeShapes Go.WideShapes Go.ChangeAt Go.RowKit Go.Deep Go.Joins
set_option linter.unusedVariables false

theorem cellsE' : Try.prog.cellsOf 57 = 3 := by kernel_rfl
theorem bytesE : Try.prog.bytesOf 57 = 24 := by kernel_rfl
set_option maxRecDepth 100000 in
theorem isE_of {H : Type} {enc : TypeId × Value → H} {W : World} {fuel : Nat} {v : Value} {d : DataW H} {p : List MemPlace}
    (hf : DataW.trod enc Try.prog W 0 (fun _ => true) true fuel 23 [v] = some (d, p)) (hs : Fits 23 d) : ∃ a n c xs, v = .slice a n c ∧ (IsE W a n c xs ∧ ∀ x ∈ xs, wfE x) ∧ n * 24 ≤ 140737488351232 := by
  obtain ⟨a, n, c, xs, hv, ⟨h1, h2, h3, h4, h5⟩, hn⟩ := opens sz_elc (by omega) Try.underlying23 cellsE' bytesE wfE (0, 0, 0) (fun fuel cs y hy => by
    obtain ⟨y0, y1, y2, q, hyx, hl, g0, g1, g2⟩ := trod_struct3 Try.underlying57 hy
    rw [cellsE'] at hl
    match cs, hl with
    | [v0, v1, v2], _ =>
      simp [cellsI', cellsU'] at g0 g1 g2
      obtain ⟨z0, e0, _, w0⟩ := DataW.trod_int Try.underlying5 g0
      obtain ⟨z1, e1, _, w1⟩ := DataW.trod_int Try.underlying3 g1
      obtain ⟨z2, e2, _, w2⟩ := DataW.trod_int Try.underlying3 g2
      simp at e0 e1 e2
      subst e0 e1 e2
      exact ⟨(z0, z1, z2), rfl, wf_u8_range w0, wf_i64_range w1, wf_i64_range w2⟩) hf hs
  exact ⟨a, n, c, xs, hv, ⟨⟨h1, h2, h3, h5⟩, h4⟩, hn⟩

end Go.Proofs.Ytkkklfnooeofcaa
