/-
  Lists of steps and of strings, opened.
-/
import Derived.Test.YtlmgogonghafeaaCommon
import Derived.Test.YtlmgogonghafeaaFo
namespace Go.Proofs.Ytlmgogonghafeaa
open Go.ChangeShapes Go.WideShapes Go.ChangeAt Go.RowKit Go.Deep Go.Joins
set_option linter.unusedVariables false

theorem cellsSt' : Try.prog.cellsOf 64 = 3 := by kernel_rfl
theorem bytesSt : Try.prog.bytesOf 64 = 24 := by kernel_rfl
theorem bytesS' : Try.prog.bytesOf 9 = 16 := by kernel_rfl
theorem sz_stc : Sz stc 3 := fun x => ⟨rfl, fun v hv => by simp [stc] at hv; rcases hv with rfl | rfl | rfl <;> rfl⟩
theorem sz_es' : Sz es 1 := fun x => ⟨rfl, fun v hv => by simp [es] at hv; subst hv; rfl⟩
set_option maxRecDepth 100000 in
theorem isSt_of {H : Type} {enc : TypeId × Value → H} {W : World} {fuel : Nat} {v : Value} {d : DataW H} {p : List MemPlace}
    (hf : DataW.trod enc Try.prog W 0 (fun _ => true) true fuel 61 [v] = some (d, p)) (hs : Fits 61 d) : ∃ a n c xs, v = .slice a n c ∧ OpS stc (fun q => q.2.2 < 256) W a n c xs ∧ n * 24 ≤ 140737488351232 :=
  opens sz_stc (by omega) Try.underlying61 cellsSt' bytesSt (fun q => q.2.2 < 256) (false, 0, 0) (fun fuel cs y hy => by
    obtain ⟨y0, y1, y2, q, hyx, hl, g0, g1, g2⟩ := trod_struct3 Try.underlying64 hy
    rw [cellsSt'] at hl
    match cs, hl with
    | [v0, v1, v2], _ =>
      simp [cellsI', cellsB', cellsU'] at g0 g1 g2
      obtain ⟨z0, e0, _⟩ := DataW.trod_bool Try.underlying4 g0
      obtain ⟨z1, e1, _, _⟩ := DataW.trod_int Try.underlying3 g1
      obtain ⟨z2, e2, _, hz2⟩ := DataW.trod_int Try.underlying5 g2
      simp at e0 e1 e2
      subst e0 e1 e2
      have hr := wf_u8_range hz2
      refine ⟨(z0, z1, z2.toNat), ?_, by show z2.toNat < 256; omega⟩
      show [_, _, _] = [_, _, Value.int .u8 ((z2.toNat : Nat) : Int)]
      rw [Int.toNat_of_nonneg hr.1]) hf hs
set_option maxRecDepth 100000 in
theorem isSs_of {H : Type} {enc : TypeId × Value → H} {W : World} {fuel : Nat} {v : Value} {d : DataW H} {p : List MemPlace}
    (hf : DataW.trod enc Try.prog W 0 (fun _ => true) true fuel 55 [v] = some (d, p)) (hs : Fits 55 d) : ∃ a n c xs, v = .slice a n c ∧ OpS es (fun q => q.size ≤ 9223372036854775807) W a n c xs ∧ n * 16 ≤ 140737488351232 :=
  opens sz_es' (by omega) Try.underlying55 cellsS' bytesS' (fun q => q.size ≤ 9223372036854775807) ⟨#[]⟩ (fun fuel cs y hy => by
    obtain ⟨z1, e1, _, hz1⟩ := DataW.trod_string Try.underlying9 hy
    exact ⟨z1, e1, hz1⟩) hf hs
end Go.Proofs.Ytlmgogonghafeaa
