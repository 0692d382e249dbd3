/-
  Lists of turns, of numbers, of marks, of elements, opened.
-/
import Derived.Test.YtkkklfnooeofcaaCommon
import Derived.Test.YtkkklfnooeofcaaFf
namespace Go.Proofs.Ytkkklfnooeofcaa
open Go.ChangeShapes Go.WideShapes Go.ChangeAt Go.RowKit Go.Deep Go.Joins
set_option linter.unusedVariables false

theorem cellsT' : Try.prog.cellsOf 55 = 2 := by kernel_rfl
theorem bytesT : Try.prog.bytesOf 55 = 16 := by kernel_rfl
set_option maxRecDepth 100000 in
theorem isT_of {H : Type} {enc : TypeId × Value → H} {W : World} {fuel : Nat} {v : Value} {d : DataW H} {p : List MemPlace}
    (hf : DataW.trod enc Try.prog W 0 (fun _ => true) true fuel 50 [v] = some (d, p)) (hs : Fits 50 d) : ∃ a n c xs, v = .slice a n c ∧ IsT W a n c xs ∧ n * 16 ≤ 140737488351232 := by
  obtain ⟨a, n, c, xs, hv, ⟨h1, h2, h3, h4, h5⟩, hn⟩ := opens sz_tuc (by omega) Try.underlying50 cellsT' bytesT (fun _ => True) (false, 0) (fun fuel cs y hy => by
    obtain ⟨y0, y1, q, hyx, hl, g0, g1⟩ := trod_struct2 Try.underlying55 hy
    rw [cellsT'] at hl
    match cs, hl with
    | [v0, v1], _ =>
      simp [cellsI', cellsB'] at g0 g1
      obtain ⟨z0, e0, _⟩ := DataW.trod_bool Try.underlying4 g0
      obtain ⟨z1, e1, _, _⟩ := DataW.trod_int Try.underlying3 g1
      simp at e0 e1
      subst e0 e1
      exact ⟨(z0, z1), rfl, trivial⟩) hf hs
  exact ⟨a, n, c, xs, hv, ⟨h1, h2, h3, h5⟩, hn⟩

end Go.Proofs.Ytkkklfnooeofcaa
