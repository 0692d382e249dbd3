/-
  What the rows have in common; lists of ints, opened.
-/
import Derived.Test.YtpjnhjijipcjkaaMA
import Derived.ProofKit
import Derived.OpenShut
import Derived.ShutString
import Derived.ChangeOld
import Derived.Below
import Derived.Deep.Slices
import Derived.Lib.SmallJoins
import Derived.SizedLaws
namespace Go.Proofs.Ytpjnhjijipcjkaa
open Go.ChangeShapes Go.WideShapes Go.ChangeAt Go.RowKit Go.Deep Go.Joins
set_option linter.unusedVariables false

theorem own : ownKnob Try.prog.godebug = none := by kernel_rfl
theorem laidOut : laidOutB Try.prog = true := by kernel_rfl
theorem cells3 : Try.prog.cellsOf 3 = 1 := by kernel_rfl
theorem bytesI : Try.prog.bytesOf 3 = 8 := by kernel_rfl

theorem cell_lt {w : World} {a : Addr} {v : Value} (h : w.cell? a = some v) : a.block < w.heap.size := by
  by_cases hb : a.block < w.heap.size
  · exact hb
  · unfold World.cell? at h
    rw [Array.getElem?_eq_none (by omega)] at h
    simp at h

/-- The reach, of all that a datum holds. -/
def Fits {H : Type} (t : TypeId) (d : DataW H) : Prop := ∀ k ∈ d.weights Try.prog t, k ≤ 140737488351232

theorem fits_of {H : Type} {ts : List TypeId} {ds : List (DataW H)} (h : (DataW.weightsEach Try.prog ts ds).all (· ≤ reachBytes) = true) {j : Nat} {t : TypeId} {d : DataW H} (ht : ts[j]? = some t) (hd' : ds[j]? = some d) : Fits t d := by
  intro k hk
  have := List.all_eq_true.1 h k (DataW.weights_mem_each ht hd' k hk)
  exact of_decide_eq_true this

theorem isI_of {H : Type} {enc : TypeId × Value → H} {W : World} {fuel : Nat} {v : Value} {d : DataW H} {p : List MemPlace}
    (hf : DataW.trod enc Try.prog W 0 (fun _ => true) true fuel 22 [v] = some (d, p)) (hs : Fits 22 d) : ∃ a n c X, v = .slice a n c ∧ IsI W a n c X ∧ n * 8 ≤ 140737488351232 := by
  rcases open_ints Try.underlying22 Try.underlying3 (by kernel_rfl) hf with ⟨hcs, _⟩ | ⟨x, l, cc, zs, hcs, _, hl, hm, hz, hd', hcell, hwz⟩
  · simp at hcs
    exact ⟨none, 0, 0, fun _ => 0, hcs, ⟨Nat.le_refl _, by omega, fun h => by omega⟩, by omega⟩
  · simp at hcs
    have hz' : zs.length = cc := by simpa using hz
    refine ⟨some x, l, cc, fun i => zs.getD i 0, hcs, ?_, ?_⟩
    · refine ⟨hl, by simpa [maxLen] using hm, fun hn => ?_⟩
      have c0 := hcell 0 (by omega)
      obtain ⟨b, off, spot⟩ := x
      have hspot : spot = none := by simpa [Addr.add] using World.cell?_spot c0
      subst hspot
      refine ⟨b, off, rfl, ?_, fun i hi => ?_⟩
      · have := cell_lt c0
        rwa [add_plain] at this
      · have := hcell i (by omega)
        rw [add_plain] at this
        rw [this]
    · have hd2 : d = .slice (lits .i64 (zs.take l)) (lits .i64 (zs.drop l)) := (Prod.mk.inj hd').1
      subst hd2
      have := hs (((lits (H := H) .i64 (zs.take l)).length + (lits (H := H) .i64 (zs.drop l)).length) * Try.prog.bytesOf 3) (by simp [DataW.weights, Try.underlying22])
      rw [bytesI] at this
      simp [lits] at this
      omega

end Go.Proofs.Ytpjnhjijipcjkaa
