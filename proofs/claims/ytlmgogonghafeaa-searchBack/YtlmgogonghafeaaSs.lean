/-
  Swap's operations on the elements: each fits; what stays of the old ones.
-/
import Derived.Test.YtlmgogonghafeaaSq
import Derived.Test.YtlmgogonghafeaaGp
import Derived.Test.YtlmgogonghafeaaKp
namespace Go.Proofs.Ytlmgogonghafeaa
open Go.RowKit Go.Lib
set_option linter.unusedVariables false

def runX (xs : List El) (os : List OpE) : List El := os.foldl applyP xs
theorem runX_tl (xs : List El) (cl fs : Int) (os : List OpE) (k p c : Int) : runX xs (tl cl fs os k p c) = applyP (runX xs os) ⟨k, p, c, cl, fs + (os.length : Int)⟩ := by
  unfold runX tl
  rw [List.foldl_append]
  rfl
theorem tB_run (xs : List El) : ∀ os : List OpE, tB (runX xs os) = runT (tB xs) os := by
  intro os
  unfold runX runT
  induction os generalizing xs with
  | nil => rfl
  | cons o os ih => rw [List.foldl_cons, List.foldl_cons, ih, tB_apply]
/-- Each operation fits what those ahead of it leave; they bear the client and the numbers, one behind the other. -/
def RunOk (xs : List El) (cl fs : Int) (os : List OpE) : Prop :=
  ∀ i (h : i < os.length), fitsP ((runX xs (os.take i)).length : Int) os[i] = 0 ∧ os[i].cl = cl ∧ os[i].sq = fs + (i : Int) ∧ (os[i].kind = 1 ∨ os[i].kind = 2) ∧ 0 ≤ os[i].ch ∧ os[i].ch ≤ 255
theorem RunOk.tl {xs : List El} {cl fs : Int} {os : List OpE} (h : RunOk xs cl fs os) (k p c : Int) (hf : fitsP ((runX xs os).length : Int) ⟨k, p, c, cl, fs + (os.length : Int)⟩ = 0) (hk : k = 1 ∨ k = 2) (h0 : 0 ≤ c) (h1 : c ≤ 255) : RunOk xs cl fs (tl cl fs os k p c) := by
  intro i hi
  have hl : (Go.Proofs.Ytlmgogonghafeaa.tl cl fs os k p c).length = os.length + 1 := by simp [Go.Proofs.Ytlmgogonghafeaa.tl]
  by_cases hlt : i < os.length
  · have e1 : (Go.Proofs.Ytlmgogonghafeaa.tl cl fs os k p c)[i] = os[i] := List.getElem_append_left hlt
    have e2 : (Go.Proofs.Ytlmgogonghafeaa.tl cl fs os k p c).take i = os.take i := List.take_append_of_le_length (by omega)
    rw [e1, e2]
    exact h i hlt
  · obtain rfl : i = os.length := by omega
    have e1 : (Go.Proofs.Ytlmgogonghafeaa.tl cl fs os k p c)[os.length] = ⟨k, p, c, cl, fs + (os.length : Int)⟩ := by simp [Go.Proofs.Ytlmgogonghafeaa.tl]
    have e2 : (Go.Proofs.Ytlmgogonghafeaa.tl cl fs os k p c).take os.length = os := List.take_left
    rw [e1, e2]
    exact ⟨hf, rfl, rfl, hk, h0, h1⟩
theorem fits_mk (n : Nat) (k p c cl sq : Int) (hk : (k = 1 ∧ n < 4096 ∧ p ≤ n ∧ 32 ≤ c ∧ c ≤ 126) ∨ (k = 2 ∧ n ≤ 4096 ∧ p < n ∧ c = 0)) (hp : 0 ≤ p) (hp2 : p ≤ 4095) (h1 : 1 ≤ cl ∧ cl ≤ 64) (h2 : 1 ≤ sq ∧ sq ≤ 64) : fitsP (n : Int) ⟨k, p, c, cl, sq⟩ = 0 := by
  rcases hk with ⟨rfl, a1, a2, a3, a4⟩ | ⟨rfl, a1, a2, rfl⟩
  · simp [fitsP, validP, holdP, pointP, inR]
    omega
  · simp [fitsP, validP, holdP, pointP, inR]
    omega

section
variable {xs : List El} {cl fs : Int}
theorem runX_del (os : List OpE) (A B : List El) (pos : Int) (hpos : pos = (A.length : Int)) (hok : RunOk xs cl fs os) (h : runX xs os = A ++ B) (hcl : 1 ≤ cl ∧ cl ≤ 64) (hfs : 1 ≤ fs) (hN : A.length + B.length ≤ 4000) : ∀ j : Nat, j ≤ B.length → fs + ((os.length + j : Nat) : Int) ≤ 65 →
    runX xs (delS cl fs pos j os) = A ++ B.drop j ∧ RunOk xs cl fs (delS cl fs pos j os)
  | 0, _, _ => ⟨by rw [delS, h]; rfl, hok⟩
  | j + 1, hj, hs => by
    obtain ⟨i1, i2⟩ := runX_del os A B pos hpos hok h hcl hfs hN j (by omega) (by omega)
    have hl := delS_len cl fs pos j os
    rw [delS]
    constructor
    · rw [runX_tl, i1]
      unfold applyP
      rw [if_neg (show ¬ (2 : Int) = 1 by decide), if_pos rfl]
      simp only [hpos, Int.toNat_natCast]
      rw [List.take_left, List.drop_append]
      simp [List.drop_drop]
    · refine i2.tl 2 pos 0 ?_ (.inr rfl) (Int.le_refl _) (by decide)
      rw [i1, hl]
      refine fits_mk _ 2 pos 0 cl _ (.inr ⟨rfl, ?_, ?_, rfl⟩) (by omega) (by omega) hcl ⟨by omega, by omega⟩
      · simp
        omega
      · simp
        omega
theorem runX_ins (os : List OpE) (A B : List El) (b : By) (pos : Int) (hpos : pos = (A.length : Int)) (hok : RunOk xs cl fs os) (h : runX xs os = A ++ B) (hcl : 1 ≤ cl ∧ cl ≤ 64) (hfs : 1 ≤ fs) (hb : ∀ c ∈ b, 32 ≤ c.toNat ∧ c.toNat ≤ 126) (hN : A.length + b.length + B.length ≤ 4000) : ∀ j : Nat, j ≤ b.length → fs + ((os.length + j : Nat) : Int) ≤ 65 →
    ∃ E : List El, E.length = j ∧ (∀ x ∈ E, x.2.1 = cl) ∧ runX xs (insS cl fs pos b j os) = A ++ (E ++ B) ∧ RunOk xs cl fs (insS cl fs pos b j os)
  | 0, _, _ => ⟨[], rfl, fun _ h => (by cases h), by rw [insS, h]; rfl, hok⟩
  | j + 1, hj, hs => by
    obtain ⟨E, e1, e2, i1, i2⟩ := runX_ins os A B b pos hpos hok h hcl hfs hb hN j (by omega) (by omega)
    have hl := insS_len cl fs pos b j os
    have hc := hb (b.getD j 0) (by
      rw [show b.getD j 0 = b[j] by simp [List.getD, show j < b.length by omega]]
      exact List.getElem_mem _)
    rw [insS]
    refine ⟨E ++ [(((b.getD j 0).toNat : Int), cl, fs + ((insS cl fs pos b j os).length : Int))], by simp [e1], ?_, ?_, ?_⟩
    · intro x hx
      rcases List.mem_append.1 hx with hx | hx
      · exact e2 x hx
      · rw [List.mem_singleton] at hx
        rw [hx]
    · rw [runX_tl, i1]
      unfold applyP
      rw [if_pos rfl]
      have e : (pos + (j : Int)).toNat = (A ++ E).length := by simp [e1]; omega
      simp only [e]
      rw [← List.append_assoc, List.take_left, List.drop_left]
      simp
    · refine i2.tl 1 _ _ ?_ (.inl rfl) (by omega) (by omega)
      rw [i1, hl]
      refine fits_mk _ 1 _ _ cl _ (.inl ⟨rfl, ?_, ?_, by omega, by omega⟩) (by omega) (by omega) hcl ⟨by omega, by omega⟩
      · simp [e1]
        omega
      · simp [e1]
        omega

def oldE (cl : Int) (x : El) : Bool := decide (x.2.1 ≠ cl)
theorem swX (p b : By) (hp : 1 ≤ p.length) (l : List Nat) (hl : (sc (tB xs) p b xs.length 0).1 = l) (hst : ∀ a, stB (tB xs) p a = true → a + p.length ≤ xs.length) (hold : ∀ x ∈ xs, oldE cl x = true) (hcl : 1 ≤ cl ∧ cl ≤ 64) (hfs : 1 ≤ fs) (hb : ∀ c ∈ b, 32 ≤ c.toNat ∧ c.toNat ≤ 126)
    (hN : xs.length + l.length * b.length ≤ 4000) (hs : fs + ((l.length * (p.length + b.length) : Nat) : Int) ≤ 65) : ∀ k ≤ l.length, ∃ (pre : List El) (i f : Nat),
    runX xs (swS cl fs l p.length b k) = pre ++ xs.drop i ∧ pre.length + k * p.length = i + k * b.length ∧ i ≤ xs.length ∧ xs.length ≤ i + f ∧ (sc (tB xs) p b f i).1 = l.drop k ∧ RunOk xs cl fs (swS cl fs l p.length b k) ∧ (pre.filter (oldE cl)).Sublist (xs.take i) ∧ (pre.filter (oldE cl)).length + k * p.length = i
  | 0, _ => ⟨[], 0, xs.length, by simp [swS, runX], by simp, Nat.zero_le _, by omega, by rw [hl]; rfl, fun i hi => by simp [swS] at hi, by simp, by simp⟩
  | k + 1, hk => by
    obtain ⟨pre, i, f, h1, h2, h3, h4, h5, h6, h7, h8⟩ := swX p b hp l hl hst hold hcl hfs hb hN hs k (by omega)
    have hTl : (tB xs).length = xs.length := by simp [tB]
    rw [List.drop_eq_getElem_cons (show k < l.length by omega)] at h5
    obtain ⟨g1, g2, g3, f', g4, g5, g6⟩ := sc_some hp f i (by rw [hTl]; exact h4) h5
    obtain ⟨a, ha⟩ : ∃ a, l[k]'(by omega) = a := ⟨_, rfl⟩
    rw [ha] at g1 g2 g3 g4 g5 g6
    rw [hTl] at g4
    have hend := hst a g3
    have hk1 : (k + 1) * b.length ≤ l.length * b.length := Nat.mul_le_mul_right _ hk
    have hk2 : (k + 1) * (p.length + b.length) ≤ l.length * (p.length + b.length) := Nat.mul_le_mul_right _ hk
    have hk3 : k * b.length ≤ l.length * b.length := Nat.mul_le_mul_right _ (by omega)
    rw [Nat.add_mul, Nat.one_mul] at hk1 hk2
    have hml : ((xs.drop i).take (a - i)).length = a - i := by rw [List.length_take, List.length_drop]; omega
    have hcut : xs.drop i = (xs.drop i).take (a - i) ++ xs.drop a := by
      conv => lhs; rw [← List.take_append_drop (a - i) (xs.drop i)]
      rw [List.drop_drop, show i + (a - i) = a by omega]
    obtain ⟨A, hA⟩ : ∃ A, A = pre ++ (xs.drop i).take (a - i) := ⟨_, rfl⟩
    have hAl : A.length = pre.length + (a - i) := by rw [hA, List.length_append, hml]
    have hpos : posK l p.length b k = (A.length : Int) := by
      rw [hAl]
      unfold posK
      have : l.getD k 0 = a := by rw [← ha]; simp [List.getD, show k < l.length by omega]
      rw [this, Int.mul_sub, ← Int.natCast_mul, ← Int.natCast_mul]
      omega
    have hBl : (xs.drop a).length = xs.length - a := List.length_drop
    have r1 : runX xs (swS cl fs l p.length b k) = A ++ xs.drop a := by rw [h1, hA, List.append_assoc, ← hcut]
    have hlen := swS_len cl fs l p.length b k
    obtain ⟨r2, o2⟩ := runX_del _ A _ _ hpos h6 r1 hcl hfs (by omega) p.length (by omega) (by rw [hlen]; omega)
    have hlen2 := delS_len cl fs (posK l p.length b k) p.length (swS cl fs l p.length b k)
    obtain ⟨E, e1, e2, r3, o3⟩ := runX_ins _ A _ b _ hpos o2 r2 hcl hfs hb (by rw [List.length_drop]; omega) b.length (Nat.le_refl _) (by rw [hlen2, hlen]; omega)
    have hEf : E.filter (oldE cl) = [] := by
      rw [List.filter_eq_nil_iff]
      intro x hx
      unfold oldE
      simp [e2 x hx]
    have hMf : ((xs.drop i).take (a - i)).filter (oldE cl) = (xs.drop i).take (a - i) := by
      rw [List.filter_eq_self]
      intro x hx
      exact hold x (List.mem_of_mem_drop (List.mem_of_mem_take hx))
    refine ⟨A ++ E, a + p.length, f', ?_, ?_, hend, g4, g5, ?_, ?_, ?_⟩
    · rw [swS, r3, List.drop_drop]
      simp
    · rw [List.length_append, hAl, e1, Nat.add_mul, Nat.add_mul, Nat.one_mul, Nat.one_mul]
      omega
    · rw [swS]
      exact o3
    · rw [List.filter_append, hEf, List.append_nil, hA, List.filter_append, hMf]
      have e5 : xs.take (a + p.length) = xs.take i ++ ((xs.drop i).take (a - i) ++ (xs.drop a).take p.length) := by
        rw [List.take_add, ← List.append_assoc]
        congr 1
        have : a = i + (a - i) := by omega
        conv => lhs; rw [this]
        rw [List.take_add]
      rw [e5]
      exact h7.append (List.sublist_append_left _ _)
    · rw [List.filter_append, hEf, List.append_nil, hA, List.filter_append, hMf, List.length_append, hml, Nat.add_mul, Nat.one_mul]
      omega
end
end Go.Proofs.Ytlmgogonghafeaa
