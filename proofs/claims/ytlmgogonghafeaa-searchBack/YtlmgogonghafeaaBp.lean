/-
  There and back: a pattern for strange characters, and these for it again.
-/
import Derived.Test.YtlmgogonghafeaaSs
import Derived.Test.YtlmgogonghafeaaSp
import Derived.Test.YtlmgogonghafeaaWt
namespace Go.Proofs.Ytlmgogonghafeaa
open Go.RowKit Go.Lib
set_option linter.unusedVariables false

section
variable {T p q : By} {z : UInt8}
/-- What begins the swapped text without a strange character begins the text there. -/
theorem sc_pre (hq : ∀ c ∈ q, c = z) (hq1 : 1 ≤ q.length) : ∀ (f i : Nat) (u : By), (∀ c ∈ u, c ≠ z) → u <+: (sc T p q f i).2 → u <+: T.drop i
  | 0, i, u, hu, h => by
    rw [sc] at h
    have : u = [] := List.prefix_nil.1 h
    rw [this]
    exact List.nil_prefix
  | f + 1, i, u, hu, h => by
    rw [sc] at h
    by_cases hi : i < T.length
    · rw [if_pos hi] at h
      by_cases hs : stB T p i = true
      · rw [if_pos hs] at h
        cases u with
        | nil => exact List.nil_prefix
        | cons c u =>
          exfalso
          cases q with
          | nil => simp at hq1
          | cons d q =>
            simp only [List.cons_append, List.cons_prefix_cons] at h
            exact hu c (by simp) (by rw [h.1]; exact hq d (by simp))
      · rw [if_neg hs] at h
        cases u with
        | nil => exact List.nil_prefix
        | cons c u =>
          simp only [List.cons_prefix_cons] at h
          rw [drop_cons hi, List.cons_prefix_cons]
          exact ⟨h.1, sc_pre hq hq1 f (i + 1) u (fun c hc => hu c (List.mem_cons_of_mem _ hc)) h.2⟩
    · rw [if_neg hi] at h
      have : u = [] := List.prefix_nil.1 h
      rw [this]
      exact List.nil_prefix
theorem stB_cons {c : UInt8} {R p : By} {k : Nat} : stB (c :: R) p (k + 1) = stB R p k := by unfold stB; rw [List.drop_succ_cons]
theorem stB_app {A R p : By} {k : Nat} (h : A.length ≤ k) : stB (A ++ R) p k = stB R p (k - A.length) := by
  unfold stB
  rw [List.drop_append, List.drop_of_length_le h, List.nil_append]
/-- The pattern stands nowhere in the swapped text. -/
theorem sc_nowhere (hp : 1 ≤ p.length) (hpz : ∀ c ∈ p, c ≠ z) (hq : ∀ c ∈ q, c = z) (hq1 : 1 ≤ q.length) : ∀ (f i k : Nat), stB (sc T p q f i).2 p k = false
  | 0, i, k => by
    rw [sc]
    cases p with
    | nil => simp at hp
    | cons c p => simp [stB]
  | f + 1, i, k => by
    have hnil : stB [] p k = false := by
      cases p with
      | nil => simp at hp
      | cons c p => simp [stB]
    rw [sc]
    by_cases hi : i < T.length
    · rw [if_pos hi]
      by_cases hs : stB T p i = true
      · rw [if_pos hs]
        simp only
        by_cases hk : q.length ≤ k
        · rw [stB_app hk]
          exact sc_nowhere hp hpz hq hq1 f _ _
        · cases h : stB (q ++ (sc T p q f (i + p.length)).2) p k with
          | false => rfl
          | true =>
            exfalso
            rw [stB_iff] at h
            cases p with
            | nil => simp at hp
            | cons c p =>
              rw [List.drop_append_of_le_length (by omega)] at h
              have hd' : q.drop k = q[k]'(by omega) :: q.drop (k + 1) := List.drop_eq_getElem_cons (by omega)
              rw [hd', List.cons_append, List.cons_prefix_cons] at h
              exact hpz c (by simp) (by rw [h.1]; exact hq _ (List.getElem_mem _))
      · rw [if_neg hs]
        simp only
        cases k with
        | succ k =>
          rw [stB_cons]
          exact sc_nowhere hp hpz hq hq1 f _ _
        | zero =>
          cases h : stB (T.getD i 0 :: (sc T p q f (i + 1)).2) p 0 with
          | false => rfl
          | true =>
            exfalso
            rw [stB_iff, List.drop_zero] at h
            apply hs
            rw [stB_iff]
            refine sc_pre (T := T) (p := p) hq hq1 (f + 1) i p hpz ?_
            rw [sc, if_pos hi, if_neg hs]
            exact h
    · rw [if_neg hi]
      exact hnil
/-- Back again. -/
theorem sc_back (hp : 1 ≤ p.length) (hTz : ∀ c ∈ T, c ≠ z) (hq : ∀ c ∈ q, c = z) (hq1 : 1 ≤ q.length) (hst : ∀ a, stB T p a = true → a + p.length ≤ T.length) : ∀ (f i : Nat), T.length ≤ i + f → ∀ (T1 : By) (j F : Nat), T1.drop j = (sc T p q f i).2 → T1.length ≤ j + F → (sc T1 q p F j).2 = T.drop i ∧ (sc T1 q p F j).1.length = (sc T p q f i).1.length
  | 0, i, hf, T1, j, F, h, hF => by
    rw [sc] at h
    have hj : T1.length ≤ j := List.drop_eq_nil_iff.1 h
    have e : sc T1 q p F j = ([], []) := by
      cases F with
      | zero => rfl
      | succ F => rw [sc, if_neg (by omega)]
    rw [e, sc, List.drop_of_length_le (by omega)]
    exact ⟨rfl, rfl⟩
  | f + 1, i, hf, T1, j, F, h, hF => by
    rw [sc] at h ⊢
    by_cases hi : i < T.length
    · rw [if_pos hi] at h ⊢
      by_cases hs : stB T p i = true
      · rw [if_pos hs] at h ⊢
        simp only at h
        have hlj : q.length ≤ T1.length - j := by
          have := congrArg List.length h
          rw [List.length_drop, List.length_append] at this
          omega
        obtain ⟨F, rfl⟩ : ∃ F', F = F' + 1 := ⟨F - 1, by omega⟩
        have hst1 : stB T1 q j = true := by
          rw [stB_iff, h]
          exact List.prefix_append _ _
        have hd1 : T1.drop (j + q.length) = (sc T p q f (i + p.length)).2 := by
          rw [← List.drop_drop, h, List.drop_left]
        have hend := hst i hs
        obtain ⟨i1, i2⟩ := sc_back hp hTz hq hq1 hst f (i + p.length) (by omega) T1 (j + q.length) F hd1 (by omega)
        rw [sc, if_pos (by omega), if_pos hst1]
        simp only [List.length_cons, i2, i1]
        refine ⟨?_, trivial⟩
        rw [stB_iff] at hs
        obtain ⟨r, hr⟩ := hs
        rw [← hr, ← List.drop_drop, ← hr, List.drop_left]
      · rw [if_neg hs] at h ⊢
        simp only at h
        have hlj : 1 ≤ T1.length - j := by
          have := congrArg List.length h
          rw [List.length_drop, List.length_cons] at this
          omega
        obtain ⟨F, rfl⟩ : ∃ F', F = F' + 1 := ⟨F - 1, by omega⟩
        have hne : T.getD i 0 ≠ z := by
          rw [show T.getD i 0 = T[i] by simp [List.getD, hi]]
          exact hTz _ (List.getElem_mem _)
        have hst1 : ¬ stB T1 q j = true := by
          rw [stB_iff, h]
          intro hpre
          cases q with
          | nil => simp at hq1
          | cons d q =>
            rw [List.cons_prefix_cons] at hpre
            exact hne (by rw [← hpre.1]; exact hq d (by simp))
        have hd1 : T1.drop (j + 1) = (sc T p q f (i + 1)).2 := by
          rw [← List.drop_drop, h]
          rfl
        have hg : T1.getD j 0 = T.getD i 0 := by
          have := drop_cons (T := T1) (i := j) (by omega)
          rw [h] at this
          exact (List.cons.inj this).1.symm
        obtain ⟨i1, i2⟩ := sc_back hp hTz hq hq1 hst f (i + 1) (by omega) T1 (j + 1) F hd1 (by omega)
        rw [sc, if_pos (by omega), if_neg hst1]
        simp only [i2, i1, hg]
        exact ⟨(drop_cons hi).symm, trivial⟩
    · rw [if_neg hi] at h ⊢
      have hj : T1.length ≤ j := List.drop_eq_nil_iff.1 h
      have e : sc T1 q p F j = ([], []) := by
        cases F with
        | zero => rfl
        | succ F => rw [sc, if_neg (by omega)]
      rw [e, List.drop_of_length_le (by omega)]
      exact ⟨rfl, rfl⟩
end

/-- Elements of a text, of a client that swaps nothing. -/
def elT (T : By) : List El := T.map fun c => ((c.toNat : Int), 64, 1)
theorem tB_elT (T : By) : tB (elT T) = T := by
  unfold tB elT
  rw [List.map_map]
  conv => rhs; rw [← List.map_id T]
  apply List.map_congr_left
  intro c _
  simp
theorem elT_len (T : By) : (elT T).length = T.length := by simp [elT]
/-- Swap's operations on a text: each fits, and what they leave. -/
theorem swT (T p b : By) (cl : Int) (hcl : 1 ≤ cl ∧ cl ≤ 63) (hp : 1 ≤ p.length) (hb : ∀ c ∈ b, 32 ≤ c.toNat ∧ c.toNat ≤ 126) (hT : T.length ≤ 1000) (hc : (apP T p).length * (p.length + b.length) ≤ 64) :
    (∀ i (h : i < (swS cl 1 (apP T p) p.length b (apP T p).length).length), fitsP ((runT T ((swS cl 1 (apP T p) p.length b (apP T p).length).take i)).length : Int) ((swS cl 1 (apP T p) p.length b (apP T p).length)[i]) = 0 ∧ 0 ≤ ((swS cl 1 (apP T p) p.length b (apP T p).length)[i]).ch ∧ ((swS cl 1 (apP T p) p.length b (apP T p).length)[i]).ch ≤ 255) ∧
    runT T (swS cl 1 (apP T p) p.length b (apP T p).length) = (sc T p b T.length 0).2 := by
  refine ⟨?_, run_swapped T p b cl 1 hp⟩
  have hsc : (sc (tB (elT T)) p b (elT T).length 0).1 = apP T p := by rw [tB_elT, elT_len, sc_apP hp]
  have hlb : (apP T p).length * b.length ≤ 64 := Nat.le_trans (Nat.mul_le_mul_left _ (Nat.le_add_left _ _)) hc
  obtain ⟨pre, i, f, h1, h2, h3, h4, h5, h6, h7, h8⟩ := swX (xs := elT T) (cl := cl) (fs := 1) p b hp (apP T p) hsc (fun a ha => by rw [tB_elT] at ha; have := st_le hp a ha; rw [elT_len]; exact this) (fun x hx => by
    obtain ⟨c, -, rfl⟩ := List.mem_map.1 hx
    unfold oldE
    simp
    omega) ⟨hcl.1, by omega⟩ (by omega) hb (by rw [elT_len]; omega) (by omega) (apP T p).length (Nat.le_refl _)
  intro i hi
  obtain ⟨g1, -, -, -, g5, g6⟩ := h6 i hi
  refine ⟨?_, g5, g6⟩
  have : (runX (elT T) ((swS cl 1 (apP T p) p.length b (apP T p).length).take i)).length = (runT T ((swS cl 1 (apP T p) p.length b (apP T p).length).take i)).length := by
    rw [← tB_elT T, ← tB_run, tB_elT]
    simp [tB]
  rw [this] at g1
  exact g1
theorem swE_many1 (T p b : By) (cl : Int) (h : 64 < (apP T p).length * (p.length + b.length)) : swE T p b cl 1 = 222 := by
  unfold swE cntP
  rw [if_pos]
  exact .inr (.inr (.inr (by omega)))
theorem swE_few1 (T p b : By) (cl : Int) (hcl : 1 ≤ cl ∧ cl ≤ 63) (hT : T.length ≤ 1000) (h : (apP T p).length * (p.length + b.length) ≤ 64) : swE T p b cl 1 = 0 := by
  unfold swE cntP
  have h2 : (apP T p).length * b.length ≤ 64 := Nat.le_trans (Nat.mul_le_mul_left _ (Nat.le_add_left _ _)) h
  rw [if_neg (by omega), if_neg]
  rintro ⟨-, h3 | h3⟩
  · omega
  · rw [Int.mul_sub, ← Int.natCast_mul, ← Int.natCast_mul] at h3
    omega
/-- All of it. -/
structure BkK (T p q T1 : By) (n : Nat) : Prop where
  cnt : (apP T p).length = n
  fst : (sc T p q T.length 0).2 = T1
  none : plc T1 p = []
  cnt2 : (apP T1 q).length = n
  back : (sc T1 q p T1.length 0).2 = T
  len : T1.length ≤ T.length + n * q.length
theorem bkK (T p q : By) (z : UInt8) (hp : 1 ≤ p.length) (hpz : ∀ c ∈ p, c ≠ z) (hTz : ∀ c ∈ T, c ≠ z) (hq : ∀ c ∈ q, c = z) (hq1 : 1 ≤ q.length) : BkK T p q (sc T p q T.length 0).2 (apP T p).length := by
  have h := sc_back (p := p) hp hTz hq hq1 (st_le hp) T.length 0 (by omega) (sc T p q T.length 0).2 0 (sc T p q T.length 0).2.length rfl (by omega)
  refine ⟨rfl, rfl, ?_, ?_, h.1, ?_⟩
  · unfold plc fnd
    rw [List.filter_eq_nil_iff]
    intro k _
    rw [sc_nowhere hp hpz hq hq1 T.length 0 k]
    decide
  · rw [← sc_apP (q := p) hq1, h.2, sc_apP hp]
  · have : ∀ f i : Nat, (sc T p q f i).2.length ≤ (T.length - i) + (sc T p q f i).1.length * q.length := by
      intro f
      induction f with
      | zero => intro i; simp [sc]
      | succ f ih =>
        intro i
        rw [sc]
        by_cases hi : i < T.length
        · rw [if_pos hi]
          by_cases hs : stB T p i = true
          · rw [if_pos hs]
            have := ih (i + p.length)
            simp only [List.length_append, List.length_cons, Nat.add_mul, Nat.one_mul]
            omega
          · rw [if_neg hs]
            have := ih (i + 1)
            simp only [List.length_cons]
            omega
        · rw [if_neg hi]
          simp
    have h2 := this T.length 0
    rw [sc_apP hp] at h2
    simpa using h2
end Go.Proofs.Ytlmgogonghafeaa
