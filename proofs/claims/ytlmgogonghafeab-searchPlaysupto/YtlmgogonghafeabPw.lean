/-
  The words of a text, without memory: runs of letters; how often each stands.
-/
import Derived.Test.YtlmgogonghafeabMR
import Derived.Lib.FieldsP
namespace Go.Proofs.Ytlmgogonghafeab
open Go.RowKit Go.Lib
set_option linter.unusedVariables false

def ltN (r : Nat) : Bool := decide ((97 ≤ r ∧ r ≤ 122) ∨ (65 ≤ r ∧ r ≤ 90))
def ltB (c : UInt8) : Bool := ltN c.toNat
/-- The words, cur being the one under way. -/
def wdF : By → By → List By
  | [], cur => if cur = [] then [] else [cur]
  | c :: r, cur => if ltB c = true then wdF r (cur ++ [c]) else if cur = [] then wdF r [] else cur :: wdF r []
def wdP (T : By) : List By := wdF T []

theorem wdF_lt {L : By} (h : ∀ c ∈ L, ltB c = true) (R cur : By) : wdF (L ++ R) cur = wdF R (cur ++ L) := by
  induction L generalizing cur with
  | nil => simp
  | cons c L ih =>
    rw [List.cons_append, wdF, if_pos (h c (by simp)), ih (fun d hd => h d (by simp [hd]))]
    simp
theorem wdF_no {c : UInt8} (h : ltB c = false) (R cur : By) : wdF (c :: R) cur = if cur = [] then wdF R [] else cur :: wdF R [] := by
  rw [wdF, if_neg (by rw [h]; simp)]
theorem wdF_nos {N : By} (h : ∀ c ∈ N, ltB c = false) (h0 : N ≠ []) (R cur : By) : wdF (N ++ R) cur = if cur = [] then wdF R [] else cur :: wdF R [] := by
  induction N generalizing cur with
  | nil => exact absurd rfl h0
  | cons c N ih =>
    rw [List.cons_append, wdF_no (h c (by simp))]
    by_cases hN : N = []
    · subst hN; rfl
    · have := ih (fun d hd => h d (by simp [hd])) hN []
      rw [this]
      simp
theorem wdF_mem {T : By} : ∀ {cur : By}, (∀ c ∈ cur, ltB c = true) → ∀ w ∈ wdF T cur, w ≠ [] ∧ ∀ c ∈ w, ltB c = true := by
  induction T with
  | nil =>
    intro cur hc w hw
    rw [wdF] at hw
    split at hw
    · cases hw
    · rename_i h
      rw [List.mem_singleton] at hw
      subst hw
      exact ⟨h, hc⟩
  | cons c T ih =>
    intro cur hc w hw
    rw [wdF] at hw
    split at hw
    · rename_i hl
      refine ih (fun d hd => ?_) w hw
      rw [List.mem_append, List.mem_singleton] at hd
      rcases hd with h | rfl
      · exact hc d h
      · exact hl
    · split at hw
      · exact ih (by simp) w hw
      · rename_i h
        rcases List.mem_cons.1 hw with rfl | hw
        · exact ⟨h, hc⟩
        · exact ih (by simp) w hw
theorem wdF_flat (T : By) : ∀ cur : By, (wdF T cur).flatten = cur ++ T.filter ltB := by
  induction T with
  | nil =>
    intro cur
    rw [wdF]
    split
    · rename_i h; rw [h]; rfl
    · simp
  | cons c T ih =>
    intro cur
    rw [wdF]
    split
    · rename_i hl
      rw [ih, List.filter_cons_of_pos hl]
      simp
    · rename_i hl
      split
      · rename_i h
        rw [ih, List.filter_cons_of_neg hl, h]
      · rw [List.flatten_cons, ih, List.filter_cons_of_neg hl]
        rfl

theorem dec_cont (s : ByteArray) (pos : Nat) : ∀ j, 1 ≤ j → j < (Utf8.decode s pos).2 → pos + j < s.size ∧ 128 ≤ (s.get! (pos + j)).toNat := by
  intro j h1 hj
  simp only [Utf8.decode] at hj
  have key : ∀ k, (decide (pos + k < s.size) && (s.get! (pos + k)).toNat / 64 == 2) = true → pos + k < s.size ∧ 128 ≤ (s.get! (pos + k)).toNat := by
    intro k hk
    simp only [Bool.and_eq_true, decide_eq_true_eq, beq_iff_eq] at hk
    exact ⟨hk.1, by omega⟩
  split at hj
  · exfalso; simp only at hj; omega
  · split at hj
    · rename_i h
      simp only [Bool.and_eq_true] at h
      split at hj
      · simp only at hj
        obtain rfl : j = 1 := by omega
        exact key 1 (by rw [Bool.and_eq_true]; exact h.2)
      · exfalso; simp only at hj; omega
    · split at hj
      · rename_i h
        simp only [Bool.and_eq_true] at h
        split at hj
        · simp only at hj
          have : j = 1 ∨ j = 2 := by omega
          rcases this with rfl | rfl
          · exact key 1 (by rw [Bool.and_eq_true]; exact h.1.2)
          · exact key 2 (by rw [Bool.and_eq_true]; exact h.2)
        · exfalso; simp only at hj; omega
      · split at hj
        · rename_i h
          simp only [Bool.and_eq_true] at h
          split at hj
          · simp only at hj
            have : j = 1 ∨ j = 2 ∨ j = 3 := by omega
            rcases this with rfl | rfl | rfl
            · exact key 1 (by rw [Bool.and_eq_true]; exact h.1.1.2)
            · exact key 2 (by rw [Bool.and_eq_true]; exact h.1.2)
            · exact key 3 (by rw [Bool.and_eq_true]; exact h.2)
          · exfalso; simp only at hj; omega
        · exfalso; simp only at hj; omega

/-- No letter, of runes. -/
def noR (r : Nat) : Bool := !ltN r
theorem get_bang (s : ByteArray) (k : Nat) (h : k < s.size) : s.get! k = s.data.toList[k]'(by simpa using h) := by
  have := get_at s k h
  rw [Nat.add_zero] at this
  rw [this]
  simp
  rfl
theorem dec_width (s : ByteArray) (pos : Nat) (h : pos < s.size) : 1 ≤ (Utf8.decode s pos).2 ∧ pos + (Utf8.decode s pos).2 ≤ s.size := by
  have h1 := Lib.width_pos s pos
  refine ⟨h1, ?_⟩
  by_cases h2 : (Utf8.decode s pos).2 = 1
  · omega
  · have := (dec_cont s pos ((Utf8.decode s pos).2 - 1) (by omega) (by omega)).1
    omega

def spB (s : ByteArray) (x : Nat × Nat) : By := (s.data.toList.drop x.1).take (x.2 - x.1)
theorem spans_wd (s : ByteArray) : ∀ (f pos : Nat) (st : Option Nat) (acc : List (Nat × Nat)), s.size ≤ pos + f → pos ≤ s.size → (∀ a, st = some a → a < pos) →
    ((closeSpans s (spansFromP noR s f pos st acc)).map (spB s)) = acc.map (spB s) ++ wdF (s.data.toList.drop pos) (match st with | none => [] | some a => (s.data.toList.drop a).take (pos - a)) := by
  have hsz : s.data.toList.length = s.size := by simp
  intro f
  induction f with
  | zero =>
    intro pos st acc h1 h2 h3
    obtain rfl : pos = s.size := by omega
    rw [List.drop_of_length_le (by omega)]
    cases st with
    | none => simp [spansFromP, closeSpans, wdF]
    | some a =>
      have ha := h3 a rfl
      have hne : (s.data.toList.drop a).take (s.size - a) ≠ [] := by
        intro e
        have := congrArg List.length e
        rw [List.length_take, List.length_drop, hsz] at this
        simp at this
        omega
      simp only [spansFromP, closeSpans, wdF, if_neg hne, List.map_append]
      rfl
  | succ f ih =>
    intro pos st acc h1 h2 h3
    by_cases hlt : pos < s.size
    · have hp : pos < s.data.toList.length := by omega
      obtain ⟨hw1, hw2⟩ := dec_width s pos hlt
      have hgb := get_bang s pos hlt
      by_cases hn : noR (Utf8.decode s pos).1 = true
      · have hN : ∀ c ∈ (s.data.toList.drop pos).take (Utf8.decode s pos).2, ltB c = false := by
          intro c hc
          obtain ⟨j, hj, rfl⟩ := List.getElem_of_mem hc
          rw [List.length_take, List.length_drop] at hj
          rw [List.getElem_take, List.getElem_drop]
          by_cases hj0 : j = 0
          · subst hj0
            simp only [Nat.add_zero]
            by_cases ha : (s[pos]'hlt).toNat < 128
            · have hd := decode_ascii s pos hlt ha
              rw [hd] at hn
              have e := gets s pos hlt
              rw [e]
              unfold ltB
              unfold noR at hn
              simpa using hn
            · have e := gets s pos hlt
              rw [e]
              unfold ltB ltN
              rw [decide_eq_false_iff_not]
              omega
          · have := (dec_cont s pos j (by omega) (by omega))
            rw [get_bang s (pos + j) this.1] at this
            unfold ltB ltN
            rw [decide_eq_false_iff_not]
            omega
        have hsp : s.data.toList.drop pos = (s.data.toList.drop pos).take (Utf8.decode s pos).2 ++ s.data.toList.drop (pos + (Utf8.decode s pos).2) := by
          rw [← List.drop_drop, List.take_append_drop]
        have hne : (s.data.toList.drop pos).take (Utf8.decode s pos).2 ≠ [] := by
          intro e
          have := congrArg List.length e
          rw [List.length_take, List.length_drop] at this
          simp at this
          omega
        rw [hsp, wdF_nos hN hne]
        simp only [spansFromP, hlt, if_true, hn]
        cases st with
        | none =>
          rw [ih _ _ _ (by omega) hw2 (fun a h => by cases h)]
          simp
        | some a =>
          have ha := h3 a rfl
          rw [ih _ _ _ (by omega) hw2 (fun a h => by cases h)]
          have hne2 : (s.data.toList.drop a).take (pos - a) ≠ [] := by
            intro e
            have := congrArg List.length e
            rw [List.length_take, List.length_drop] at this
            simp at this
            omega
          simp only [if_neg hne2, List.map_append, List.append_assoc]
          rfl
      · have hl : ltN (Utf8.decode s pos).1 = true := by
          unfold noR at hn
          simpa using hn
        have ha : (s[pos]'hlt).toNat < 128 := by
          by_cases ha : (s[pos]'hlt).toNat < 128
          · exact ha
          · have := decode_high s pos hlt (by omega)
            unfold ltN at hl
            rw [decide_eq_true_eq] at hl
            omega
        have hd := decode_ascii s pos hlt ha
        rw [hd] at hl
        have hc : ltB s.data.toList[pos] = true := by
          unfold ltB
          rw [gets s pos hlt]
          exact hl
        rw [hd] at hn
        have hn2 : noR (s[pos]'hlt).toNat = false := by simpa using hn
        rw [List.drop_eq_getElem_cons hp, wdF, if_pos hc]
        simp only [spansFromP, hlt, if_true, hd, hn2, Bool.false_eq_true, if_false]
        cases st with
        | none =>
          rw [ih _ _ _ (by omega) (by omega) (fun a h => by cases h; omega)]
          congr 2
          show (s.data.toList.drop pos).take (pos + 1 - pos) = [] ++ [s.data.toList[pos]]
          rw [show pos + 1 - pos = 1 by omega, List.drop_eq_getElem_cons hp]
          rfl
        | some a =>
          have ha2 := h3 a rfl
          rw [ih _ _ _ (by omega) (by omega) (fun b h => by cases h; omega)]
          congr 2
          show (s.data.toList.drop a).take (pos + 1 - a) = (s.data.toList.drop a).take (pos - a) ++ [s.data.toList[pos]]
          rw [show pos + 1 - a = (pos - a) + 1 by omega, List.take_succ_eq_append_getElem (by rw [List.length_drop]; omega)]
          congr 2
          rw [List.getElem_drop]
          congr 1
          omega
    · obtain rfl : pos = s.size := by omega
      rw [spansFromP_end noR s (f + 1) s.size st acc hlt, List.drop_of_length_le (by omega)]
      cases st with
      | none => simp [closeSpans, wdF]
      | some a =>
        have ha := h3 a rfl
        have hne : (s.data.toList.drop a).take (s.size - a) ≠ [] := by
          intro e
          have := congrArg List.length e
          rw [List.length_take, List.length_drop, hsz] at this
          simp at this
          omega
        simp only [closeSpans, wdF, if_neg hne, List.map_append]
        rfl
theorem fields_wd (s : ByteArray) : (goFieldsP noR s).map (fun x => x.data.toList) = wdP s.data.toList := by
  have h := spans_wd s s.size 0 none [] (by omega) (Nat.zero_le _) (fun a h => by cases h)
  unfold goFieldsP spansOfP wdP
  rw [List.map_map]
  simp only [List.map_nil, List.nil_append, List.drop_zero] at h
  rw [← h]
  refine List.map_congr_left fun x _ => ?_
  show (s.extract x.1 x.2).data.toList = spB s x
  rw [← toL, ext_list]
  rfl

/-- w stands at place i as a whole run of letters. -/
def occB (T w : By) (i : Nat) : Bool := stB T w i && (decide (i = 0) || !ltB (T.getD (i - 1) 0)) && !(decide (i + w.length < T.length) && ltB (T.getD (i + w.length) 0))
def occN (T w : By) (n : Nat) : Nat := ((List.range n).filter (occB T w)).length
theorem occN_succ (T w : By) (n : Nat) : occN T w (n + 1) = occN T w n + (if occB T w n = true then 1 else 0) := by
  unfold occN
  rw [List.range_succ, List.filter_append, List.length_append]
  congr 1
  split
  · rename_i h; rw [List.filter_cons_of_pos h]; rfl
  · rename_i h; rw [List.filter_cons_of_neg h]; rfl

theorem getD_lt {T : By} {i : Nat} (h : i < T.length) : T.getD i 0 = T[i] := by simp [List.getD, h]
theorem occ_zero {L R w : By} (hL : ∀ c ∈ L, ltB c = true) (hR : ∀ c r, R = c :: r → ltB c = false) (hw : w ≠ []) (hwl : ∀ c ∈ w, ltB c = true) : occB (L ++ R) w 0 = decide (w = L) := by
  rw [Bool.eq_iff_iff, decide_eq_true_eq]
  unfold occB
  simp only [decide_true, Bool.true_or, Bool.and_true, Nat.zero_add, Bool.and_eq_true, Bool.not_eq_true', Bool.and_eq_false_iff, decide_eq_false_iff_not]
  rw [stB_iff, List.drop_zero]
  constructor
  · rintro ⟨h1, h2⟩
    have hle : w.length ≤ L.length := by
      by_cases h : w.length ≤ L.length
      · exact h
      · exfalso
        have hl := h1.length_le
        have hlt : L.length < (L ++ R).length := by omega
        rw [List.length_append] at hlt
        cases hRR : R with
        | nil => rw [hRR] at hlt; simp at hlt
        | cons c r =>
          have hc := hR c r hRR
          obtain ⟨t, ht⟩ := h1
          have e : (w ++ t)[L.length]? = some c := by rw [ht, hRR, List.getElem?_append_right (Nat.le_refl _), Nat.sub_self]; rfl
          rw [List.getElem?_append_left (by omega)] at e
          have := hwl c (List.mem_of_getElem? e)
          rw [hc] at this
          cases this
    have hpre : w <+: L := by
      have e := List.prefix_iff_eq_take.1 h1
      rw [List.take_append_of_le_length hle] at e
      exact List.prefix_iff_eq_take.2 e
    by_cases h : w.length = L.length
    · exact hpre.eq_of_length h
    · exfalso
      have hlt : w.length < L.length := by omega
      rcases h2 with h2 | h2
      · rw [List.length_append] at h2; omega
      · rw [getD_lt (by rw [List.length_append]; omega), List.getElem_append_left hlt] at h2
        rw [hL _ (List.getElem_mem hlt)] at h2
        cases h2
  · rintro rfl
    refine ⟨⟨R, rfl⟩, ?_⟩
    cases hRR : R with
    | nil => left; simp
    | cons c r =>
      right
      rw [getD_lt (by simp), List.getElem_append_right (Nat.le_refl _)]
      simp only [Nat.sub_self, List.getElem_cons_zero]
      exact hR c r hRR
theorem occ_in {L R w : By} (hL : ∀ c ∈ L, ltB c = true) {i : Nat} (h0 : 0 < i) (hi : i ≤ L.length) : occB (L ++ R) w i = false ∨ i = L.length + 1 := by
  left
  unfold occB
  have e : (L ++ R).getD (i - 1) 0 = L[i - 1]'(by omega) := by
    rw [getD_lt (by rw [List.length_append]; omega), List.getElem_append_left (by omega)]
  rw [e, hL _ (List.getElem_mem (by omega))]
  have : ¬ i = 0 := by omega
  simp [this]
theorem occ_shift {L R w : By} {c : UInt8} (hc : ltB c = false) (j : Nat) : occB (L ++ c :: R) w (L.length + 1 + j) = occB R w j := by
  have e : L ++ c :: R = (L ++ [c]) ++ R := by simp
  have hl : (L ++ [c]).length = L.length + 1 := by simp
  have h1 : stB (L ++ c :: R) w (L.length + 1 + j) = stB R w j := by
    unfold stB
    congr 1
    rw [e, ← hl, ← List.drop_drop, List.drop_left]
  have h2 : ∀ k, (L ++ c :: R).getD (L.length + 1 + k) 0 = R.getD k 0 := by
    intro k
    rw [e]
    simp only [List.getD]
    rw [List.getElem?_append_right (by rw [hl]; omega), hl, show L.length + 1 + k - (L.length + 1) = k by omega]
  unfold occB
  rw [h1, show L.length + 1 + j + w.length = L.length + 1 + (j + w.length) by omega, h2]
  have h3 : (decide (L.length + 1 + j = 0) || !ltB ((L ++ c :: R).getD (L.length + 1 + j - 1) 0)) = (decide (j = 0) || !ltB (R.getD (j - 1) 0)) := by
    by_cases hj : j = 0
    · subst hj
      have : (L ++ c :: R).getD (L.length + 1 + 0 - 1) 0 = c := by
        rw [getD_lt (by simp)]
        simp
      rw [this, hc]
      simp
    · have e2 : L.length + 1 + j - 1 = L.length + 1 + (j - 1) := by omega
      rw [e2, h2]
      simp [hj]
  rw [h3]
  have h4 : decide (L.length + 1 + (j + w.length) < (L ++ c :: R).length) = decide (j + w.length < R.length) := by
    rw [decide_eq_decide, List.length_append, List.length_cons]
    omega
  rw [h4]
theorem occ_sep {L R w : By} {c : UInt8} (hc : ltB c = false) (hw : w ≠ []) (hwl : ∀ c ∈ w, ltB c = true) : occB (L ++ c :: R) w L.length = false := by
  have : stB (L ++ c :: R) w L.length = false := by
    rw [Bool.eq_false_iff]
    intro h
    rw [stB_iff, List.drop_left] at h
    obtain ⟨t, ht⟩ := h
    cases w with
    | nil => exact hw rfl
    | cons d w =>
      rw [List.cons_append] at ht
      have := (List.cons.inj ht).1
      have h2 := hwl d (by simp)
      rw [this, hc] at h2
      cases h2
  unfold occB
  rw [this]
  rfl
theorem occN_ext {T T' w : By} {n : Nat} {k : Nat} (h : ∀ j, j < n → occB T w (k + j) = occB T' w j) : ((List.range' k n).filter (occB T w)).length = occN T' w n := by
  induction n with
  | zero => simp [occN]
  | succ n ih =>
    rw [List.range'_concat, List.filter_append, List.length_append, ih (fun j hj => h j (by omega)), occN_succ]
    congr 1
    rw [Nat.one_mul]
    have e := h n (by omega)
    split
    · rename_i h2; rw [← e] at h2; rw [List.filter_cons_of_pos h2]; rfl
    · rename_i h2; rw [← e] at h2; rw [List.filter_cons_of_neg h2]; rfl
theorem split_lt (T : By) : ∃ L R, T = L ++ R ∧ (∀ c ∈ L, ltB c = true) ∧ (∀ c r, R = c :: r → ltB c = false) := by
  induction T with
  | nil => exact ⟨[], [], rfl, by simp, fun c r h => by cases h⟩
  | cons c T ih =>
    obtain ⟨L, R, h1, h2, h3⟩ := ih
    cases hc : ltB c with
    | true =>
      refine ⟨c :: L, R, by rw [h1]; rfl, fun d hd => ?_, h3⟩
      rcases List.mem_cons.1 hd with rfl | h
      · exact hc
      · exact h2 d h
    | false => exact ⟨[], c :: T, rfl, by simp, fun d r h => by rw [← (List.cons.inj h).1]; exact hc⟩
def tlW : By → List By
  | [] => []
  | _ :: r => wdP r
theorem occ_count (w : By) (hw : w ≠ []) (hwl : ∀ c ∈ w, ltB c = true) : ∀ (n : Nat) (T : By), T.length ≤ n → occN T w T.length = (wdP T).count w := by
  intro n
  induction n with
  | zero =>
    intro T hT
    obtain rfl : T = [] := List.length_eq_zero_iff.1 (by omega)
    simp [occN, wdP, wdF]
  | succ n ih =>
    intro T hT
    obtain ⟨L, R, hT2, hL, hR⟩ := split_lt T
    have h0 := occ_zero hL hR hw hwl
    have hwd : wdP T = (if L = [] then [] else [L]) ++ tlW R := by
      rw [hT2]
      unfold wdP
      rw [wdF_lt hL, List.nil_append]
      cases hRR : R with
      | nil => rw [wdF]; simp [tlW]
      | cons c r =>
        rw [wdF_no (hR c r hRR)]
        unfold tlW wdP
        by_cases hLe : L = []
        · simp [hLe]
        · simp [hLe]
    have hcL : (if L = [] then ([] : List By) else [L]).count w = if w = L then 1 else 0 := by
      by_cases hLe : L = []
      · rw [if_pos hLe, hLe, if_neg hw]; rfl
      · rw [if_neg hLe, List.count_cons, List.count_nil]
        by_cases hwL : w = L
        · rw [if_pos hwL, hwL]; simp
        · rw [if_neg hwL]
          have : ¬ (L == w) = true := by simpa using fun e => hwL e.symm
          simp [this]
    rw [hwd, List.count_append, hcL]
    cases hRR : R with
    | nil =>
      rw [hRR, List.append_nil] at hT2
      rw [hRR] at h0
      rw [List.append_nil] at h0
      rw [hT2]
      simp only [tlW, List.count_nil, Nat.add_zero]
      have e : ∀ m, m ≤ L.length → occN L w m = if 0 < m ∧ w = L then 1 else 0 := by
        intro m
        induction m with
        | zero => intro _; simp [occN]
        | succ m ihm =>
          intro hm
          rw [occN_succ, ihm (by omega)]
          by_cases hm0 : m = 0
          · subst hm0
            rw [h0]
            by_cases hwL : w = L <;> simp [hwL]
          · have := occ_in (R := []) (w := w) hL (i := m) (by omega) (by omega)
            rw [List.append_nil] at this
            rcases this with h | h
            · have hm1 : 0 < m := by omega
              rw [h]
              simp [hm1]
            · omega
      rw [e L.length (Nat.le_refl _)]
      by_cases hwL : w = L
      · have : 0 < L.length := by rw [← hwL]; exact List.length_pos_iff.2 hw
        rw [if_pos ⟨this, hwL⟩, if_pos hwL]
      · rw [if_neg (fun h => hwL h.2), if_neg hwL]
    | cons c r =>
      have hc := hR c r hRR
      rw [hRR] at hT2 h0
      simp only [tlW]
      have hTl : T.length = L.length + 1 + r.length := by rw [hT2]; simp; omega
      rw [← ih r (by omega), hTl]
      rw [hT2]
      have e : ∀ m, m ≤ L.length → occN (L ++ c :: r) w (m + 1) = if w = L then 1 else 0 := by
        intro m
        induction m with
        | zero =>
          intro _
          rw [occN_succ, h0]
          by_cases hwL : w = L <;> simp [hwL, occN]
        | succ m ihm =>
          intro hm
          rw [occN_succ, ihm (by omega)]
          have h := occ_in (R := c :: r) (w := w) hL (i := m + 1) (by omega) hm
          rcases h with h | h
          · rw [h]; simp
          · omega
      have hsplit : occN (L ++ c :: r) w (L.length + 1 + r.length) = occN (L ++ c :: r) w (L.length + 1) + occN r w r.length := by
        have h1 : List.range (L.length + 1 + r.length) = List.range (L.length + 1) ++ List.range' (L.length + 1) r.length := by
          have h3 := List.range'_append_1 (s := 0) (m := L.length + 1) (n := r.length)
          rw [Nat.zero_add] at h3
          rw [List.range_eq_range', List.range_eq_range', h3]
        have h2 := occN_ext (T := L ++ c :: r) (T' := r) (w := w) (n := r.length) (k := L.length + 1) (fun j hj => occ_shift hc j)
        unfold occN at h2 ⊢
        rw [h1, List.filter_append, List.length_append, h2]
      rw [hsplit, e L.length (Nat.le_refl _)]

/-- What words count, together. -/
theorem sum_count (ws ks : List By) (hn : ks.Nodup) (h : ∀ w ∈ ws, w ∈ ks) : (ks.map (fun k => ws.count k * k.length)).sum = (ws.map List.length).sum := by
  induction ws with
  | nil =>
    simp only [List.count_nil, Nat.zero_mul, List.map_nil, List.sum_nil]
    clear hn h
    induction ks with
    | nil => rfl
    | cons k ks ih => simpa using ih
  | cons w ws ih =>
    rw [List.map_cons, List.sum_cons, ← ih (fun x hx => h x (by simp [hx]))]
    have hw := h w (by simp)
    clear ih h
    induction ks with
    | nil => cases hw
    | cons k ks ih =>
      rw [List.map_cons, List.sum_cons, List.map_cons, List.sum_cons]
      obtain ⟨hk, hn2⟩ := List.nodup_cons.1 hn
      by_cases e : k = w
      · subst e
        have e2 : ks.map (fun x => (k :: ws).count x * x.length) = ks.map (fun x => ws.count x * x.length) := by
          refine List.map_congr_left fun x hx => ?_
          have : ¬ (k == x) = true := by
            simp only [beq_iff_eq]
            rintro rfl
            exact hk hx
          rw [List.count_cons]
          simp [this]
        rw [e2, List.count_cons_self, Nat.add_mul]
        omega
      · rcases List.mem_cons.1 hw with h1 | h1
        · exact absurd h1.symm e
        · have := ih hn2 h1
          have e3 : (w :: ws).count k = ws.count k := by
            rw [List.count_cons]
            have : ¬ (w == k) = true := by simp only [beq_iff_eq]; exact fun h => e h.symm
            simp [this]
          rw [e3]
          omega
end Go.Proofs.Ytlmgogonghafeab
