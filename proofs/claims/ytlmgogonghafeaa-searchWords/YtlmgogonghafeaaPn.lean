/-
  Search, without memory: where a pattern stands; its places, character by character; a bit for each of its beginnings.
-/
import Derived.Test.YtlmgogonghafeaaAa
namespace Go.Proofs.Ytlmgogonghafeaa
open Go.RowKit
set_option linter.unusedVariables false

abbrev El := Int × Int × Int
abbrev By := List UInt8

def stB (T p : By) (q : Nat) : Bool := p.isPrefixOf (T.drop q)
theorem stB_iff {T p : By} {q : Nat} : stB T p q = true ↔ p <+: T.drop q := by unfold stB; exact List.isPrefixOf_iff_prefix

/-- The places from s0 on at which the pattern is seen to stand, t characters having been read. -/
def fnd (T p : By) (s0 t : Nat) : List Nat := (List.range' s0 (t + 1 - p.length)).filter (stB T p)

theorem fnd_zero {T p : By} {s0 : Nat} (hp : 1 ≤ p.length) : fnd T p s0 0 = [] := by
  unfold fnd
  rw [show 0 + 1 - p.length = 0 by omega]
  rfl

theorem suf_iff {T p : By} {s0 t : Nat} (ht : s0 + t < T.length) (hm : p.length ≤ t + 1) : p <:+ (T.drop s0).take (t + 1) ↔ stB T p (s0 + (t + 1 - p.length)) = true := by
  have hl : ((T.drop s0).take (t + 1)).length = t + 1 := by simp; omega
  rw [stB_iff, List.suffix_iff_eq_drop, hl, List.prefix_iff_eq_take, List.drop_take, List.drop_drop, show t + 1 - (t + 1 - p.length) = p.length by omega]

theorem fnd_succ {T p : By} {s0 t : Nat} (ht : s0 + t < T.length) :
    fnd T p s0 (t + 1) = fnd T p s0 t ++ (if p <:+ (T.drop s0).take (t + 1) then [s0 + (t + 1 - p.length)] else []) := by
  by_cases hm : p.length ≤ t + 1
  · unfold fnd
    rw [show t + 1 + 1 - p.length = (t + 1 - p.length) + 1 by omega, List.range'_concat, List.filter_append]
    congr 1
    simp only [Nat.one_mul, List.filter_cons, List.filter_nil]
    by_cases h : p <:+ (T.drop s0).take (t + 1)
    · rw [if_pos h, if_pos ((suf_iff ht hm).1 h)]
    · rw [if_neg h, if_neg (fun e => h ((suf_iff ht hm).2 e))]
  · have hn : ¬ p <:+ (T.drop s0).take (t + 1) := fun h => by
      have := h.length_le
      simp at this
      omega
    rw [if_neg hn, List.append_nil]
    unfold fnd
    rw [show t + 1 + 1 - p.length = 0 by omega, show t + 1 - p.length = 0 by omega]

theorem fnd_prefix {T p : By} {s0 t : Nat} : ∀ d, fnd T p s0 t <+: fnd T p s0 (t + d)
  | 0 => List.prefix_refl _
  | d + 1 => by
    unfold fnd
    have : List.range' s0 (t + 1 - p.length) <+: List.range' s0 (t + (d + 1) + 1 - p.length) := by
      refine ⟨List.range' (s0 + (t + 1 - p.length)) (t + (d + 1) + 1 - p.length - (t + 1 - p.length)), ?_⟩
      rw [List.range'_append_1]
      congr 1
      omega
    exact this.filter _
theorem fnd_take {T p : By} {s0 t N k : Nat} (h : t ≤ N) (hk : (fnd T p s0 t).length = k) : (fnd T p s0 N).take k = fnd T p s0 t := by
  have := fnd_prefix (T := T) (p := p) (s0 := s0) (t := t) (N - t)
  rw [show t + (N - t) = N by omega] at this
  rw [← hk]
  exact (List.prefix_iff_eq_take.1 this).symm
theorem fnd_len {T p : By} {s0 t : Nat} (hp : 1 ≤ p.length) : (fnd T p s0 t).length ≤ t := by
  unfold fnd
  refine Nat.le_trans (List.length_filter_le _ _) ?_
  rw [List.length_range']
  omega
/-- All places. -/
def plc (T p : By) : List Nat := fnd T p 0 T.length
theorem fnd_mem {T p : By} {s0 t q : Nat} : q ∈ fnd T p s0 t ↔ (s0 ≤ q ∧ q + p.length ≤ s0 + t ∧ stB T p q = true) ∨ (p.length = 0 ∧ q ∈ fnd T p s0 t) := by
  by_cases h0 : p.length = 0
  · constructor
    · exact fun h => .inr ⟨h0, h⟩
    · rintro (⟨h1, h2, h3⟩ | h)
      · unfold fnd
        rw [List.mem_filter, List.mem_range'_1]
        exact ⟨by omega, h3⟩
      · exact h.2
  · unfold fnd
    rw [List.mem_filter, List.mem_range'_1]
    constructor
    · rintro ⟨h1, h2⟩
      exact .inl ⟨by omega, by omega, h2⟩
    · rintro (⟨h1, h2, h3⟩ | h)
      · exact ⟨by omega, h3⟩
      · omega
/-- The places from s0 on are those of all that are not ahead of s0. -/
theorem fnd_from {T p : By} {s0 : Nat} (hp : 1 ≤ p.length) (hs : s0 ≤ T.length) : fnd T p s0 (T.length - s0) = (plc T p).filter (fun q => decide (s0 ≤ q)) := by
  unfold plc fnd
  rw [List.filter_filter]
  by_cases h : s0 + p.length ≤ T.length + 1
  · have e : List.range' 0 (T.length + 1 - p.length) = List.range' 0 s0 ++ List.range' s0 (T.length - s0 + 1 - p.length) := by
      rw [show (List.range' s0 (T.length - s0 + 1 - p.length)) = List.range' (0 + s0) (T.length - s0 + 1 - p.length) by rw [Nat.zero_add], List.range'_append_1]
      congr 1
      omega
    rw [e, List.filter_append]
    have h1 : (List.range' 0 s0).filter (fun q => decide (s0 ≤ q) && stB T p q) = [] := by
      rw [List.filter_eq_nil_iff]
      intro q hq
      rw [List.mem_range'_1] at hq
      simp
      omega
    rw [h1, List.nil_append]
    refine List.filter_congr fun q hq => ?_
    rw [List.mem_range'_1] at hq
    simp [hq.1]
  · have h1 : (List.range' 0 (T.length + 1 - p.length)).filter (fun q => decide (s0 ≤ q) && stB T p q) = [] := by
      rw [List.filter_eq_nil_iff]
      intro q hq
      rw [List.mem_range'_1] at hq
      simp
      omega
    rw [h1, show T.length - s0 + 1 - p.length = 0 by omega]
    rfl

/-- Bit i: the last i + 1 characters are the first i + 1 of the pattern. -/
def BS (p seen : By) (H : Nat) : Prop := ∀ i, H.testBit i = decide (i < p.length ∧ p.take (i + 1) <:+ seen)
/-- Bit i: the character stands at place i of the pattern, which is below k. -/
def MK (p : By) (k : Nat) (c : UInt8) (M : Nat) : Prop := ∀ i, M.testBit i = decide (i < k ∧ p[i]? = some c)

theorem BS.zero {p : By} : BS p [] 0 := fun i => by
  rw [Nat.zero_testBit]
  symm
  rw [decide_eq_false_iff_not]
  rintro ⟨h1, h2⟩
  have := h2.length_le
  rw [List.length_take, List.length_nil] at this
  omega
theorem BS.lt {p seen : By} {H : Nat} (h : BS p seen H) : H < 2 ^ p.length := Nat.lt_pow_two_of_testBit _ fun i hi => by
  rw [h i]
  simp
  omega
theorem MK.zero {p : By} {c : UInt8} : MK p 0 c 0 := fun i => by simp
theorem MK.lt {p : By} {k : Nat} {c : UInt8} {M : Nat} (h : MK p k c M) : M < 2 ^ k := Nat.lt_pow_two_of_testBit _ fun i hi => by
  rw [h i]
  simp
  omega
theorem MK.same {p : By} {k : Nat} {c : UInt8} {M : Nat} (h : MK p k c M) (hk : p[k]? = some c) : MK p (k + 1) c (M ||| 2 ^ k) := fun i => by
  rw [Nat.testBit_or, h i, Nat.testBit_two_pow]
  by_cases e : k = i
  · subst e
    simp [hk]
  · have : (i < k + 1) ↔ (i < k) := by omega
    simp [e, this]
theorem MK.other {p : By} {k : Nat} {c : UInt8} {M : Nat} (h : MK p k c M) (hk : p[k]? ≠ some c) : MK p (k + 1) c M := fun i => by
  rw [h i]
  by_cases e : k = i
  · subst e
    simp [hk]
  · have : (i < k + 1) ↔ (i < k) := by omega
    simp [this]

theorem suffix_snoc {a s : By} {x y : UInt8} : a ++ [x] <:+ s ++ [y] ↔ a <:+ s ∧ x = y := by
  constructor
  · rintro ⟨t, ht⟩
    rw [← List.append_assoc] at ht
    obtain ⟨h1, h2⟩ := List.append_inj' ht rfl
    exact ⟨⟨t, h1⟩, by simpa using h2⟩
  · rintro ⟨⟨t, ht⟩, rfl⟩
    exact ⟨t, by rw [← ht]; simp⟩

theorem BS.step {p seen : By} {H M : Nat} {c : UInt8} (h : BS p seen H) (hM : MK p p.length c M) (hp : p.length ≤ 64) : BS p (seen ++ [c]) ((H * 2 % 18446744073709551616 ||| 1) &&& M) := fun i => by
  rw [Nat.testBit_and, Nat.testBit_or, hM i, show (18446744073709551616 : Nat) = 2 ^ 64 from rfl, Nat.testBit_mod_two_pow]
  by_cases hi : i < p.length
  · have ht : p.take (i + 1) = p.take i ++ [p[i]] := by rw [List.take_succ_eq_append_getElem hi]
    rw [ht]
    simp only [suffix_snoc, hi, true_and, List.getElem?_eq_getElem hi, Option.some.injEq]
    cases i with
    | zero => simp
    | succ j =>
      have e1 : (H * 2).testBit (j + 1) = H.testBit j := by
        rw [Nat.testBit_succ, Nat.mul_div_cancel _ (by omega)]
      have e2 : (1 : Nat).testBit (j + 1) = false := by rw [Nat.testBit_succ]; simp
      rw [e1, e2, h j]
      have : j < p.length := by omega
      simp [this, show j + 1 < 64 by omega]
  · simp [hi]

/-- The last bit is set just where the whole pattern has gone by. -/
theorem BS.top {p seen : By} {H m : Nat} (h : BS p seen H) (hm : p.length = m + 1) : (H / 2 ^ m = 0 ↔ ¬ p <:+ seen) := by
  have hl := h.lt
  rw [hm, Nat.pow_succ] at hl
  have hb := h m
  rw [show p.take (m + 1) = p by rw [← hm, List.take_length], hm] at hb
  rw [Nat.testBit_eq_decide_div_mod_eq] at hb
  have h2 : H / 2 ^ m < 2 := Nat.div_lt_of_lt_mul (by omega)
  simp only [show m < m + 1 by omega, true_and, decide_eq_decide] at hb
  rw [← hb]
  clear hb hl
  generalize H / 2 ^ m = q at *
  omega

end Go.Proofs.Ytlmgogonghafeaa
