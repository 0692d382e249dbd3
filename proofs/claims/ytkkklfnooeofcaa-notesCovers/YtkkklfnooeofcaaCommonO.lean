/-
  Lists of numbers, of marks, opened.
-/
import Derived.Test.YtkkklfnooeofcaaCommonT
import Derived.Test.YtkkklfnooeofcaaNa
namespace Go.Proofs.Ytkkklfnooeofcaa
open Go.ChangeShapes Go.WideShapes Go.ChangeAt Go.RowKit Go.Deep Go.Joins
set_option linter.unusedVariables false

theorem sz_one {α : Type} {f : α → Value} (h : ∀ x, (f x).oneCell' = true) : Sz (fun x => [f x]) 1 := fun x => ⟨rfl, fun v hv => by simp at hv; rw [hv]; exact h x⟩
set_option maxRecDepth 100000 in
theorem isB_of {H : Type} {enc : TypeId × Value → H} {W : World} {fuel : Nat} {v : Value} {d : DataW H} {p : List MemPlace}
    (hf : DataW.trod enc Try.prog W 0 (fun _ => true) true fuel 60 [v] = some (d, p)) (hs : Fits 60 d) : ∃ a n c xs, v = .slice a n c ∧ IsO Value.bool W a n c xs ∧ n * 1 ≤ 140737488351232 := by
  obtain ⟨a, n, c, xs, hv, ⟨h1, h2, h3, h4, h5⟩, hn⟩ := opens (f := fun b : Bool => [Value.bool b]) (k := 1) (sz_one (fun _ => rfl)) (by omega) Try.underlying60 (by kernel_rfl) (bytes := 1) (by kernel_rfl) (fun _ => True) false (fun fuel cs y hy => by
    obtain ⟨z0, e0, _⟩ := DataW.trod_bool Try.underlying4 hy
    exact ⟨z0, e0, trivial⟩) hf hs
  exact ⟨a, n, c, xs, hv, ⟨h1, h2, h3, h5⟩, hn⟩
set_option maxRecDepth 100000 in
theorem isI_of {H : Type} {enc : TypeId × Value → H} {W : World} {fuel : Nat} {v : Value} {d : DataW H} {p : List MemPlace}
    (hf : DataW.trod enc Try.prog W 0 (fun _ => true) true fuel 22 [v] = some (d, p)) (hs : Fits 22 d) : ∃ a n c xs, v = .slice a n c ∧ IsO (Value.int .i64) W a n c xs ∧ n * 8 ≤ 140737488351232 := by
  obtain ⟨a, n, c, xs, hv, ⟨h1, h2, h3, h4, h5⟩, hn⟩ := opens (f := fun b : Int => [Value.int .i64 b]) (k := 1) (sz_one (fun _ => rfl)) (by omega) Try.underlying22 (by kernel_rfl) (bytes := 8) (by kernel_rfl) (fun _ => True) 0 (fun fuel cs y hy => by
    obtain ⟨z0, e0, _, _⟩ := DataW.trod_int Try.underlying3 hy
    exact ⟨z0, e0, trivial⟩) hf hs
  exact ⟨a, n, c, xs, hv, ⟨h1, h2, h3, h5⟩, hn⟩

end Go.Proofs.Ytkkklfnooeofcaa
