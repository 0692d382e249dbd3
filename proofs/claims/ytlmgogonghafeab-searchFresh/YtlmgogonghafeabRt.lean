/-
  The laws' at, right.
-/
import Derived.Test.YtlmgogonghafeabNd
import Derived.Test.YtlmgogonghafeabSe
namespace Go.Proofs.Ytlmgogonghafeab
open Go.RowKit Go.Lib
set_option linter.unusedVariables false

/-- The slice value at a, of n numbers and capacity c, holds the list l in w. -/
def IsL (w : World) (a : Option Addr) (n c : Nat) (l : List Nat) : Prop :=
  l.length = n ∧ n ≤ c ∧ c ≤ 9223372036854775807 ∧ (0 < n → ∃ b off, a = some ⟨b, off, none⟩ ∧ b < w.heap.size ∧ ∀ k (h : k < l.length), w.cell? ⟨b, off + k, none⟩ = some (.int .i64 ((l[k] : Nat) : Int)))
theorem IsL.below {w w' : World} {a : Option Addr} {n c : Nat} {l : List Nat} (h : IsL w a n c l) (hb : Below w.heap.size w w') : IsL w' a n c l := by
  obtain ⟨h1, h2, h3, h4⟩ := h
  refine ⟨h1, h2, h3, fun hn => ?_⟩
  obtain ⟨b, off, e, hlt, hc⟩ := h4 hn
  exact ⟨b, off, e, Nat.lt_of_lt_of_le hlt hb.size, fun k hk => by rw [hb.cell (p := ⟨b, off + k, none⟩) hlt]; exact hc k hk⟩
theorem IsN.isL {w W : World} {v : Value} {l : List Nat} (h : IsN w W v l) : ∃ a c, v = .slice a l.length c ∧ IsL W a l.length c l := by
  obtain ⟨β, h1, h2⟩ := h
  obtain ⟨a, c, hv, hlc, hc⟩ := h1.form
  have el : (nI l).length = l.length := by simp [nI]
  rw [el] at hv hlc
  refine ⟨a, c, hv, rfl, hlc, hc, fun hn => ?_⟩
  cases β with
  | none =>
    obtain ⟨-, h⟩ := h1
    rw [h] at el
    simp at el
    omega
  | some g =>
    have hlt := h1.lt g rfl
    obtain ⟨cap, hv2, hR⟩ := h1
    rw [hv] at hv2
    obtain ⟨rfl, -, -⟩ := Value.slice.inj hv2
    refine ⟨g, 0, rfl, hlt, fun k hk => ?_⟩
    have := hR.cell szI k 0 (by rw [el]; exact hk) (by omega)
    simp [ei, nI] at this
    simpa using this

theorem toL (s : ByteArray) : s.toList = s.data.toList := ByteArray.toList_eq s
theorem ext_list (T : ByteArray) (i j : Nat) : (T.extract i j).toList = (T.data.toList.drop i).take (j - i) := by
  rw [toL, ByteArray.data_extract, Array.toList_extract, List.extract_eq_take_drop]
theorem st_ext {T p : By} {q : Nat} (h : q + p.length ≤ T.length) : stB T p q = ((T.drop q).take (q + p.length - q) == p) := by
  rw [Bool.eq_iff_iff, stB_iff, beq_iff_eq, show q + p.length - q = p.length by omega, List.prefix_iff_eq_take]
  exact eq_comm
theorem st_out {T p : By} {q : Nat} (h : ¬ q + p.length ≤ T.length) (hp : 1 ≤ p.length) : stB T p q = false := by
  rw [Bool.eq_false_iff]
  intro e
  rw [stB_iff] at e
  have := e.length_le
  rw [List.length_drop] at this
  omega

/-- The places ahead of i. -/
def plB (T p : By) (i : Nat) : List Nat := (List.range i).filter (stB T p)
theorem plB_succ (T p : By) (i : Nat) : plB T p (i + 1) = plB T p i ++ (if stB T p i = true then [i] else []) := by
  unfold plB
  rw [List.range_succ, List.filter_append]
  congr 1
  by_cases h : stB T p i = true
  · rw [if_pos h, List.filter_cons_of_pos h, List.filter_nil]
  · rw [if_neg h, List.filter_cons_of_neg h, List.filter_nil]
theorem plB_all {T p : By} (hp : 1 ≤ p.length) : plB T p T.length = plc T p := by
  unfold plB plc fnd
  by_cases h : p.length ≤ T.length + 1
  · have e : T.length = (T.length + 1 - p.length) + (p.length - 1) := by omega
    rw [List.range_eq_range']
    have e2 : List.range' 0 T.length = List.range' 0 (T.length + 1 - p.length) ++ List.range' (0 + (T.length + 1 - p.length)) (p.length - 1) := by
      rw [List.range'_append_1]
      congr 1
    rw [e2, List.filter_append]
    have h1 : (List.range' (0 + (T.length + 1 - p.length)) (p.length - 1)).filter (stB T p) = [] := by
      rw [List.filter_eq_nil_iff]
      intro q hq
      rw [List.mem_range'_1] at hq
      rw [st_out (by omega) hp]
      simp
    rw [h1, List.append_nil]
  · have e : T.length + 1 - p.length = 0 := by omega
    rw [e]
    simp only [List.range'_zero, List.filter_nil]
    rw [List.filter_eq_nil_iff]
    intro q hq
    rw [List.mem_range] at hq
    rw [st_out (by omega) hp]
    simp
theorem plB_pre (T p : By) (i : Nat) : ∀ d, plB T p i <+: plB T p (i + d)
  | 0 => List.prefix_refl _
  | d + 1 => (plB_pre T p i d).trans ⟨_, (plB_succ T p (i + d)).symm⟩
/-- The next place. -/
theorem plB_next {T p : By} {i : Nat} (hp : 1 ≤ p.length) (hi : i < T.length) (h : stB T p i = true) : ∃ hk : (plB T p i).length < (plc T p).length, (plc T p)[(plB T p i).length] = i := by
  have h1 := plB_pre T p (i + 1) (T.length - (i + 1))
  rw [show i + 1 + (T.length - (i + 1)) = T.length by omega, plB_all hp, plB_succ, if_pos h] at h1
  obtain ⟨r, hr⟩ := h1
  have e : (plc T p)[(plB T p i).length]? = some i := by
    rw [← hr, List.append_assoc, List.getElem?_append_right (Nat.le_refl _), Nat.sub_self]
    rfl
  obtain ⟨hk, hv⟩ := List.getElem?_eq_some_iff.1 e
  exact ⟨hk, hv⟩

end Go.Proofs.Ytlmgogonghafeab
