/-
  What the rows have in common; lists, opened.
-/
import Derived.Test.YtlmgogonghafeabSb
import Derived.ChangeMaps5
import Derived.ProofKit
import Derived.OpenShut
import Derived.ShutString
import Derived.ChangeOld
import Derived.ChangeSame
import Derived.Below
import Derived.Deep.Slices
import Derived.Deep.Strs
import Derived.Lib.SmallJoins
import Derived.SizedLaws
import Derived.DataShut
namespace Go.Proofs.Ytlmgogonghafeab
open Go.ChangeShapes Go.WideShapes Go.ChangeAt Go.RowKit Go.Deep Go.Joins
set_option linter.unusedVariables false

theorem own : ownKnob Try.prog.godebug = none := by kernel_rfl
theorem laidOut : laidOutB Try.prog = true := by kernel_rfl

theorem cell_lt {w : World} {a : Addr} {v : Value} (h : w.cell? a = some v) : a.block < w.heap.size := by
  by_cases hb : a.block < w.heap.size
  · exact hb
  · unfold World.cell? at h
    rw [Array.getElem?_eq_none (by omega)] at h
    simp at h

/-- The reach, of all that a datum holds. -/
def Fits {H : Type} (t : TypeId) (d : DataW H) : Prop := ∀ k ∈ d.weights Try.prog t, k ≤ 140737488351232

theorem fits_of {H : Type} {ts : List TypeId} {ds : List (DataW H)} (h : (DataW.weightsEach Try.prog ts ds).all (· ≤ reachBytes) = true) {j : Nat} {t : TypeId} {d : DataW H} (ht : ts[j]? = some t) (hd' : ds[j]? = some d) : Fits t d := by
  intro k hk
  have := List.all_eq_true.1 h k (DataW.weights_mem_each ht hd' k hk)
  exact of_decide_eq_true this

/-- A slice of elements of k cells each, opened. -/
def OpS {α : Type} (f : α → List Value) (Pr : α → Prop) (W : World) (a : Option Addr) (n c : Nat) (xs : List α) : Prop :=
  xs.length = n ∧ n ≤ c ∧ c ≤ 9223372036854775807 ∧ (∀ x ∈ xs, Pr x) ∧ (0 < n → ∃ b off, a = some ⟨b, off, none⟩ ∧ b < W.heap.size ∧ ∀ j v, (cl f xs)[j]? = some v → W.cell? ⟨b, off + j, none⟩ = some v)

set_option maxRecDepth 100000 in
theorem opens {α : Type} {f : α → List Value} {k : Nat} (hz : Sz f k) (hk : 0 < k) {t e : TypeId} {bytes : Nat} (ht : Try.prog.underlying t = some (.slice e)) (hce : Try.prog.cellsOf e = k) (hby : Try.prog.bytesOf e = bytes) (Pr : α → Prop) (x0 : α)
    {H : Type} {enc : TypeId × Value → H} {W : World} (he : ∀ (fuel : Nat) (cs : List Value) (y : DataW H × List MemPlace), DataW.trod enc Try.prog W 0 (fun _ => true) true fuel e cs = some y → ∃ q : α, cs = f q ∧ Pr q) {fuel : Nat} {v : Value} {d : DataW H} {p : List MemPlace}
    (hf : DataW.trod enc Try.prog W 0 (fun _ => true) true fuel t [v] = some (d, p)) (hs : Fits t d) : ∃ a n c xs, v = .slice a n c ∧ OpS f Pr W a n c xs ∧ n * bytes ≤ 140737488351232 := by
  rcases open_slice ht hf with ⟨hcs, _⟩ | ⟨x, l, cc, m, kk, D, Pl, hcs, _, hl, hm, hmm, hd', hx⟩
  · simp at hcs
    exact ⟨none, 0, 0, [], hcs, ⟨rfl, Nat.le_refl _, by omega, by simp, fun h => by omega⟩, by omega⟩
  · simp at hcs
    have hmc : m = cc := by simpa using hmm
    subst hmc
    have hd2 : d = _ := (Prod.mk.inj hd').1
    have hsz : l * bytes ≤ 140737488351232 := by
      have := hs ((((List.range l).map D).length + ((List.range (m - l)).map fun i => D (l + i)).length) * Try.prog.bytesOf e) (by rw [hd2]; simp [DataW.weights, ht])
      rw [hby] at this
      simp at this
      exact Nat.le_trans (Nat.mul_le_mul_right _ (by omega)) this
    have each : ∀ i, i < l → ∃ q : α, Pr q ∧ ∀ r (hr : r < k), W.cell? (x.add (i * k + r)) = (f q)[r]? := by
      intro i hi
      obtain ⟨cs', h1, h2⟩ := hx i (by omega)
      rw [hce] at h1
      obtain ⟨_, hlen, hcell⟩ := World.cells?_some h1
      obtain ⟨q, hq, hp⟩ := he _ _ _ h2
      refine ⟨q, hp, fun r hr => ?_⟩
      have := hcell r (by omega)
      rw [add_add] at this
      rw [this]
      subst hq
      rfl
    have each2 : ∀ i, ∃ q : α, i < l → Pr q ∧ ∀ r (hr : r < k), W.cell? (x.add (i * k + r)) = (f q)[r]? := by
      intro i
      by_cases hi : i < l
      · obtain ⟨q, hq⟩ := each i hi
        exact ⟨q, fun _ => hq⟩
      · exact ⟨x0, fun h => absurd h hi⟩
    obtain ⟨Q, hQ⟩ := Classical.axiomOfChoice each2
    refine ⟨some x, l, m, (List.range l).map Q, hcs, ⟨by simp, hl, by simpa [maxLen] using hm, ?_, fun h0 => ?_⟩, hsz⟩
    · intro y hy
      obtain ⟨i, hi, rfl⟩ := List.mem_map.1 hy
      exact (hQ i (List.mem_range.1 hi)).1
    · obtain ⟨b, off, spot⟩ := x
      have c0 := (hQ 0 h0).2 0 hk
      have hf0 : ((f (Q 0))[0]?).isSome := by
        rw [List.getElem?_eq_getElem (by rw [(hz (Q 0)).1]; exact hk)]
        rfl
      obtain ⟨v0, hv0⟩ := Option.isSome_iff_exists.1 hf0
      rw [hv0] at c0
      have hspot : spot = none := by
        have := World.cell?_spot c0
        simpa [Addr.add] using this
      subst hspot
      refine ⟨b, off, rfl, ?_, fun j u hj => ?_⟩
      · have := cell_lt c0
        rwa [add_plain] at this
      · have hjl := (List.getElem?_eq_some_iff.1 hj).1
        rw [cl_len hz] at hjl
        simp at hjl
        have hjk : j / k < l := Nat.div_lt_of_lt_mul (by rw [Nat.mul_comm]; exact hjl)
        have e : j / k * k + j % k = j := Nat.div_add_mod' j k
        have hg := cl_get hz ((List.range l).map Q) (j / k) (j % k) (by simpa using hjk) (Nat.mod_lt _ hk)
        rw [e, hj] at hg
        have hc := (hQ (j / k) hjk).2 (j % k) (Nat.mod_lt _ hk)
        rw [e, add_plain] at hc
        rw [hc, hg]
        simp

theorem cellsI' : Try.prog.cellsOf 3 = 1 := by kernel_rfl
theorem cellsS' : Try.prog.cellsOf 9 = 1 := by kernel_rfl
theorem cellsU' : Try.prog.cellsOf 5 = 1 := by kernel_rfl
theorem cellsB' : Try.prog.cellsOf 4 = 1 := by kernel_rfl
theorem wf_u8_range {n : Int} (h : (Lit.int .u8 n).wf = true) : 0 ≤ n ∧ n ≤ 255 := (Lit.wf_int_iff .u8 n).1 h
theorem wf_i64_range {n : Int} (h : (Lit.int .i64 n).wf = true) : -9223372036854775808 ≤ n ∧ n ≤ 9223372036854775807 := (Lit.wf_int_iff .i64 n).1 h

end Go.Proofs.Ytlmgogonghafeab
