/-
  Swap's operations, one after the other, swap (no memory).
-/
import Derived.Test.YtlmgogonghafeabSp
namespace Go.Proofs.Ytlmgogonghafeab
set_option linter.unusedVariables false

/-- An operation at a text of bytes. -/
def apT (T : By) (o : OpE) : By :=
  if o.kind = 1 then T.take o.pos.toNat ++ UInt8.ofNat o.ch.toNat :: T.drop o.pos.toNat
  else if o.kind = 2 then T.take o.pos.toNat ++ T.drop (o.pos.toNat + 1) else T
def runT (T : By) (os : List OpE) : By := os.foldl apT T
theorem runT_tl (T : By) (cl fs : Int) (os : List OpE) (k p c : Int) : runT T (tl cl fs os k p c) = apT (runT T os) ⟨k, p, c, cl, fs + (os.length : Int)⟩ := by
  unfold runT tl
  rw [List.foldl_append]
  rfl
/-- The text swapped by a look from place i on: the places, the text. -/
def sc (T p q : By) : Nat → Nat → List Nat × By
  | 0, _ => ([], [])
  | f + 1, i => if i < T.length then (if stB T p i = true then (i :: (sc T p q f (i + p.length)).1, q ++ (sc T p q f (i + p.length)).2) else ((sc T p q f (i + 1)).1, T.getD i 0 :: (sc T p q f (i + 1)).2)) else ([], [])
theorem drop_cons {T : By} {i : Nat} (h : i < T.length) : T.drop i = T.getD i 0 :: T.drop (i + 1) := by
  rw [List.drop_eq_getElem_cons h]
  simp [List.getD, h]
theorem sc_none {T p q : By} : ∀ (f i : Nat), T.length ≤ i + f → (sc T p q f i).1 = [] → (sc T p q f i).2 = T.drop i
  | 0, i, h, _ => by rw [List.drop_of_length_le (by omega)]; rfl
  | f + 1, i, h, e => by
    rw [sc] at e ⊢
    by_cases hi : i < T.length
    · rw [if_pos hi] at e ⊢
      by_cases hs : stB T p i = true
      · rw [if_pos hs] at e; cases e
      · rw [if_neg hs] at e ⊢
        rw [drop_cons hi]
        exact congrArg _ (sc_none f (i + 1) (by omega) e)
    · rw [if_neg hi, List.drop_of_length_le (by omega)]
theorem sc_some {T p q : By} (hp : 1 ≤ p.length) {a : Nat} {r : List Nat} : ∀ (f i : Nat), T.length ≤ i + f → (sc T p q f i).1 = a :: r →
    i ≤ a ∧ a < T.length ∧ stB T p a = true ∧ ∃ f', T.length ≤ a + p.length + f' ∧ (sc T p q f' (a + p.length)).1 = r ∧ (sc T p q f i).2 = (T.drop i).take (a - i) ++ (q ++ (sc T p q f' (a + p.length)).2)
  | 0, i, h, e => by cases e
  | f + 1, i, h, e => by
    rw [sc] at e ⊢
    by_cases hi : i < T.length
    · rw [if_pos hi] at e ⊢
      by_cases hs : stB T p i = true
      · rw [if_pos hs] at e ⊢
        obtain ⟨rfl, rfl⟩ := List.cons.inj e
        exact ⟨Nat.le_refl _, hi, hs, f, by omega, rfl, by simp⟩
      · rw [if_neg hs] at e ⊢
        obtain ⟨h1, h2, h3, f', h4, h5, h6⟩ := sc_some hp f (i + 1) (by omega) e
        refine ⟨by omega, h2, h3, f', h4, h5, ?_⟩
        show T.getD i 0 :: (sc T p q f (i + 1)).2 = _
        rw [h6, drop_cons hi, show a - i = (a - (i + 1)) + 1 by omega, List.take_succ_cons]
        rfl
    · rw [if_neg hi] at e
      cases e

/-- Deleting j characters at one place. -/
theorem run_del (T : By) (cl fs : Int) (os : List OpE) (A B : By) (pos : Int) (hpos : pos = (A.length : Int)) : ∀ j : Nat, runT T os = A ++ B → runT T (delS cl fs pos j os) = A ++ B.drop j
  | 0, h => by rw [delS, h]; rfl
  | j + 1, h => by
    rw [delS, runT_tl, run_del T cl fs os A B pos hpos j h]
    unfold apT
    rw [if_neg (show ¬ (2 : Int) = 1 by decide), if_pos rfl]
    simp only [hpos, Int.toNat_natCast]
    rw [List.take_left, List.drop_append]
    simp [List.drop_drop]
/-- Putting in j characters of b from one place on. -/
theorem run_ins (T : By) (cl fs : Int) (os : List OpE) (A B b : By) (pos : Int) (hpos : pos = (A.length : Int)) : ∀ j : Nat, j ≤ b.length → runT T os = A ++ B → runT T (insS cl fs pos b j os) = A ++ (b.take j ++ B)
  | 0, _, h => by rw [insS, h]; rfl
  | j + 1, hj, h => by
    rw [insS, runT_tl, run_ins T cl fs os A B b pos hpos j (by omega) h]
    unfold apT
    rw [if_pos rfl]
    have e : (pos + (j : Int)).toNat = A.length + j := by omega
    have hl : (A ++ b.take j).length = A.length + j := by simp; omega
    simp only [e]
    rw [← List.append_assoc, ← hl, List.take_left, List.drop_left, List.append_assoc]
    congr 1
    have hb : b.take (j + 1) = b.take j ++ [b.getD j 0] := by
      rw [List.take_succ_eq_append_getElem (by omega)]
      simp [List.getD, show j < b.length by omega]
    rw [hb, List.append_assoc]
    congr 1
    simp

theorem run_swS (T p b : By) (cl fs : Int) (hp : 1 ≤ p.length) (l : List Nat) (F : Nat) (hF : T.length ≤ F) (hl : (sc T p b F 0).1 = l) (hst : ∀ a, stB T p a = true → a + p.length ≤ T.length) : ∀ k ≤ l.length, ∃ (pre : By) (i f : Nat),
    runT T (swS cl fs l p.length b k) = pre ++ T.drop i ∧ (pre.length : Int) = (i : Int) + (k : Int) * ((b.length : Int) - (p.length : Int)) ∧ i ≤ T.length ∧ T.length ≤ i + f ∧ (sc T p b f i).1 = l.drop k ∧ (sc T p b F 0).2 = pre ++ (sc T p b f i).2
  | 0, _ => ⟨[], 0, F, by simp [swS, runT], by simp, Nat.zero_le _, by omega, by rw [hl]; rfl, rfl⟩
  | k + 1, hk => by
    obtain ⟨pre, i, f, h1, h2, h3, h4, h5, h6⟩ := run_swS T p b cl fs hp l F hF hl hst k (by omega)
    rw [List.drop_eq_getElem_cons (show k < l.length by omega)] at h5
    obtain ⟨g1, g2, g3, f', g4, g5, g6⟩ := sc_some hp f i h4 h5
    obtain ⟨a, ha⟩ : ∃ a, l[k]'(by omega) = a := ⟨_, rfl⟩
    rw [ha] at g1 g2 g3 g4 g5 g6
    have hend := hst a g3
    have hml : ((T.drop i).take (a - i)).length = a - i := by rw [List.length_take, List.length_drop]; omega
    have hcut : T.drop i = (T.drop i).take (a - i) ++ T.drop a := by
      conv => lhs; rw [← List.take_append_drop (a - i) (T.drop i)]
      rw [List.drop_drop, show i + (a - i) = a by omega]
    have hpos : posK l p.length b k = ((pre ++ (T.drop i).take (a - i)).length : Int) := by
      rw [List.length_append, hml]
      unfold posK
      have : l.getD k 0 = a := by rw [← ha]; simp [List.getD, show k < l.length by omega]
      rw [this]
      omega
    refine ⟨pre ++ (T.drop i).take (a - i) ++ b, a + p.length, f', ?_, ?_, hend, g4, g5, ?_⟩
    · rw [swS]
      have r1 : runT T (swS cl fs l p.length b k) = (pre ++ (T.drop i).take (a - i)) ++ T.drop a := by rw [h1, List.append_assoc, ← hcut]
      have r2 := run_del T cl fs _ _ _ _ hpos p.length r1
      have r3 := run_ins T cl fs _ _ _ b _ hpos b.length (Nat.le_refl _) r2
      rw [r3, List.take_length, List.drop_drop]
      simp
    · rw [List.length_append, List.length_append, hml]
      have e : ((k + 1 : Nat) : Int) * ((b.length : Int) - (p.length : Int)) = (k : Int) * ((b.length : Int) - (p.length : Int)) + ((b.length : Int) - (p.length : Int)) := by
        rw [Int.natCast_add, Int.add_mul]
        simp
      rw [e]
      omega
    · rw [h6, g6]
      simp
theorem run_swap (T p b : By) (cl fs : Int) (hp : 1 ≤ p.length) (l : List Nat) (hl : (sc T p b T.length 0).1 = l) (hst : ∀ a, stB T p a = true → a + p.length ≤ T.length) :
    runT T (swS cl fs l p.length b l.length) = (sc T p b T.length 0).2 := by
  obtain ⟨pre, i, f, h1, h2, h3, h4, h5, h6⟩ := run_swS T p b cl fs hp l T.length (Nat.le_refl _) hl hst l.length (Nat.le_refl _)
  rw [List.drop_length] at h5
  rw [h1, h6, sc_none f i h4 h5]
theorem sc_late {T p q : By} (hst : ∀ a, stB T p a = true → a + p.length ≤ T.length) : ∀ f i : Nat, T.length < i + p.length → (sc T p q f i).1 = []
  | 0, _, _ => rfl
  | f + 1, i, h => by
    rw [sc]
    by_cases hi : i < T.length
    · rw [if_pos hi, if_neg (fun e => by have := hst i e; omega)]
      exact sc_late hst f (i + 1) (by omega)
    · rw [if_neg hi]
theorem sc_apart {T p q : By} (hp : 1 ≤ p.length) (hst : ∀ a, stB T p a = true → a + p.length ≤ T.length) : ∀ (n j fr f : Nat) (acc : List Nat), T.length + 1 - p.length ≤ j + n → j + n ≤ max (T.length + 1 - p.length) j → T.length ≤ max fr j + f →
    (((List.range' j n).filter (stB T p)).foldl (apN p.length) (fr, acc)).2 = acc ++ (sc T p q f (max fr j)).1
  | 0, j, fr, f, acc, h1, h2, h3 => by
    rw [sc_late hst f (max fr j) (by omega)]
    simp
  | n + 1, j, fr, f, acc, h1, h2, h3 => by
    rw [List.range'_succ]
    by_cases hs : stB T p j = true
    · rw [List.filter_cons_of_pos hs, List.foldl_cons]
      unfold apN
      by_cases hf : fr ≤ j
      · rw [if_pos hf]
        obtain ⟨f0, rfl⟩ : ∃ f0, f = f0 + 1 := ⟨f - 1, by have := hst j hs; omega⟩
        have hj := hst j hs
        have e1 : max fr j = j := by omega
        have ih := sc_apart (q := q) hp hst n (j + 1) (j + p.length) f0 (acc ++ [j]) (by omega) (by omega) (by omega)
        unfold apN at ih
        rw [ih, e1, sc, if_pos (by omega), if_pos hs, show max (j + p.length) (j + 1) = j + p.length by omega]
        simp
      · rw [if_neg hf]
        have ih := sc_apart (q := q) hp hst n (j + 1) fr f acc (by omega) (by omega) (by omega)
        unfold apN at ih
        rw [ih, show max fr (j + 1) = max fr j by omega]
    · rw [List.filter_cons_of_neg hs]
      by_cases hf : fr ≤ j
      · have e1 : max fr j = j := by omega
        obtain ⟨f0, rfl⟩ : ∃ f0, f = f0 + 1 := ⟨f - 1, by omega⟩
        rw [sc_apart (q := q) hp hst n (j + 1) fr f0 acc (by omega) (by omega) (by omega), e1, sc, if_pos (by omega), if_neg hs, show max fr (j + 1) = j + 1 by omega]
      · rw [sc_apart (q := q) hp hst n (j + 1) fr f acc (by omega) (by omega) (by omega), show max fr (j + 1) = max fr j by omega]
theorem st_le {T p : By} (hp : 1 ≤ p.length) (a : Nat) (h : stB T p a = true) : a + p.length ≤ T.length := by
  rw [stB_iff] at h
  have := h.length_le
  rw [List.length_drop] at this
  omega
theorem sc_apP {T p q : By} (hp : 1 ≤ p.length) : (sc T p q T.length 0).1 = apP T p := by
  have h := sc_apart (T := T) (p := p) (q := q) hp (st_le hp) (T.length + 1 - p.length) 0 0 T.length [] (by omega) (by omega) (by omega)
  rw [List.nil_append] at h
  unfold apP apS plc fnd
  exact h.symm
/-- Swap's operations make of the text the swapped text. -/
theorem run_swapped (T p b : By) (cl fs : Int) (hp : 1 ≤ p.length) : runT T (swS cl fs (apP T p) p.length b (apP T p).length) = (sc T p b T.length 0).2 :=
  run_swap T p b cl fs hp _ (sc_apP hp) (st_le hp)
end Go.Proofs.Ytlmgogonghafeab
