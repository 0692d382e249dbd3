/-
  HistoryChecks, without memory: the program's tables by client against the document's scans: the log.
-/
import Derived.Test.YtfhghijefjhehaaDoorUa
namespace Go.Proofs.YtfhghijefjhehaaDoor
set_option linter.unusedVariables false

structure Ed where
  tag : Int
  o : OpE
structure Ev where
  step : Int
  site : Int
  hav : Int
  made : Int
  o : OpE
  len : Nat

section
variable (chg : OpE → Prop) (C : Int) (log : List Ed)

/-- The places of a client's edits among the first k. -/
def lgAt : Nat → Int → List Nat
  | 0, _ => []
  | k + 1, c => lgAt k c ++ (match log[k]? with | some e => if e.o.cl = c then [k] else [] | none => [])
/-- The document's: the last Seq, the last Tag of a client. -/
def sqAt : Nat → Int → Int
  | 0, _ => 0
  | k + 1, c => match log[k]? with | some e => if e.o.cl = c then e.o.sq else sqAt k c | none => sqAt k c
def tgAt : Nat → Int → Int
  | 0, _ => 0
  | k + 1, c => match log[k]? with | some e => if e.o.cl = c then e.tag else tgAt k c | none => tgAt k c
/-- The program's least tag. -/
def lstAt (k : Nat) (c : Int) : Int := match (lgAt log k c).getLast? with
  | some j => match log[j]? with | some e => e.tag | none => 0
  | none => 0

/-- The program's test of the log's edit k, and the document's. -/
def canP (k : Nat) (e : Ed) : Prop := chg e.o ∧ e.o.cl ≤ C ∧ e.o.sq = ((lgAt log k e.o.cl).length : Int) + 1 ∧ lstAt log k e.o.cl ≤ e.tag ∧ e.tag ≤ (k : Int)
def canD (k : Nat) (e : Ed) : Prop := chg e.o ∧ e.o.cl ≤ C ∧ e.o.sq = sqAt log k e.o.cl + 1 ∧ tgAt log k e.o.cl ≤ e.tag ∧ e.tag ≤ (k : Int)
def GoodL (k : Nat) : Prop := ∀ i e, i < k → log[i]? = some e → canP chg C log i e

variable {chg C log}
theorem lstAt_eq (k : Nat) (c : Int) : lstAt log k c = tgAt log k c := by
  induction k with
  | zero => rfl
  | succ k ih =>
    unfold lstAt at ih ⊢
    cases h : log[k]? with
    | none => simp only [lgAt, tgAt, h, List.append_nil]; exact ih
    | some e =>
      by_cases hc : e.o.cl = c
      · simp [lgAt, tgAt, h, hc]
      · simp only [lgAt, tgAt, h, if_neg hc, List.append_nil]; exact ih
theorem len_eq {k : Nat} (h : GoodL chg C log k) (c : Int) : ((lgAt log k c).length : Int) = sqAt log k c := by
  induction k with
  | zero => rfl
  | succ k ih =>
    have ih := ih (fun i e hi => h i e (by omega))
    cases hk : log[k]? with
    | none => simp only [lgAt, sqAt, hk, List.append_nil]; exact ih
    | some e =>
      by_cases hc : e.o.cl = c
      · have := (h k e (by omega) hk).2.2.1
        rw [hc] at this
        simp [lgAt, sqAt, hk, hc]
        omega
      · simp only [lgAt, sqAt, hk, if_neg hc, List.append_nil]; exact ih
/-- Both ask the same of the log's edit k. -/
theorem can_iff {k : Nat} (h : GoodL chg C log k) (e : Ed) : canP chg C log k e ↔ canD chg C log k e := by
  unfold canP canD
  rw [len_eq h, lstAt_eq]

theorem lgAt_lt {k j : Nat} {c : Int} (h : j ∈ lgAt log k c) : j < k ∧ ∃ e, log[j]? = some e ∧ e.o.cl = c := by
  induction k with
  | zero => simp [lgAt] at h
  | succ k ih =>
    simp only [lgAt, List.mem_append] at h
    rcases h with h | h
    · obtain ⟨a, b⟩ := ih h
      exact ⟨by omega, b⟩
    · cases hk : log[k]? with
      | none => rw [hk] at h; simp at h
      | some e =>
        rw [hk] at h
        by_cases hc : e.o.cl = c
        · simp [hc] at h
          subst h
          exact ⟨by omega, e, hk, hc⟩
        · simp [hc] at h
theorem mem_lgAt {k j : Nat} {c : Int} {e : Ed} (hj : j < k) (he : log[j]? = some e) (hc : e.o.cl = c) : j ∈ lgAt log k c := by
  induction k with
  | zero => omega
  | succ k ih =>
    simp only [lgAt, List.mem_append]
    by_cases h : j = k
    · subst h
      exact .inr (by simp [he, hc])
    · exact .inl (ih (by omega))
/-- The places rise. -/
theorem lgAt_sorted (k : Nat) (c : Int) : (lgAt log k c).Pairwise (· < ·) := by
  induction k with
  | zero => exact List.Pairwise.nil
  | succ k ih =>
    simp only [lgAt]
    rw [List.pairwise_append]
    refine ⟨ih, ?_, fun a ha b hb => ?_⟩
    · split
      · split <;> simp
      · simp
    · have := (lgAt_lt ha).1
      have hb' : b = k := by
        revert hb
        split
        · split <;> simp
        · simp
      omega
/-- The j-th of a client's edits has the Seq j + 1. -/
theorem lgAt_seq {k : Nat} (h : GoodL chg C log k) (c : Int) (j : Nat) (hj : j < (lgAt log k c).length) : ∃ e, log[(lgAt log k c)[j]]? = some e ∧ e.o.cl = c ∧ e.o.sq = (j : Int) + 1 := by
  induction k with
  | zero => simp [lgAt] at hj
  | succ k ih =>
    have ih := ih (fun i e hi => h i e (by omega))
    cases hk : log[k]? with
    | none =>
      have e1 : lgAt log (k + 1) c = lgAt log k c := by simp [lgAt, hk]
      simp only [e1] at hj ⊢
      exact ih hj
    | some e =>
      by_cases hc : e.o.cl = c
      · have e1 : lgAt log (k + 1) c = lgAt log k c ++ [k] := by simp [lgAt, hk, hc]
        simp only [e1] at hj ⊢
        rw [List.length_append, List.length_singleton] at hj
        by_cases hl : j < (lgAt log k c).length
        · rw [List.getElem_append_left hl]
          exact ih hl
        · have hjl : j = (lgAt log k c).length := by omega
          subst hjl
          rw [List.getElem_append_right (Nat.le_refl _)]
          simp only [Nat.sub_self, List.getElem_singleton]
          have := (h k e (by omega) hk).2.2.1
          rw [hc] at this
          exact ⟨e, hk, hc, this⟩
      · have e1 : lgAt log (k + 1) c = lgAt log k c := by simp [lgAt, hk, hc]
        simp only [e1] at hj ⊢
        exact ih hj

/-- How many of the first m edits are the client's (the document's ownAmong). -/
def ownN (m : Nat) (c : Int) : Nat := ((lgAt log log.length c).filter (fun j => decide (j < m))).length
theorem count_lt : ∀ {l : List Nat} (hs : l.Pairwise (· < ·)) (m n : Nat), n < (l.filter (fun j => decide (j < m))).length ↔ ∃ h : n < l.length, l[n] < m
  | [], _, m, n => by simp
  | a :: l, hs, m, n => by
    rw [List.pairwise_cons] at hs
    by_cases ha : a < m
    · rw [List.filter_cons_of_pos (by simpa using ha)]
      cases n with
      | zero => simp [ha]
      | succ n =>
        simp only [List.length_cons, Nat.add_lt_add_iff_right, List.getElem_cons_succ]
        rw [count_lt hs.2 m n]
    · have : (a :: l).filter (fun j => decide (j < m)) = [] := by
        rw [List.filter_eq_nil_iff]
        intro x hx
        rcases List.mem_cons.1 hx with rfl | hx
        · simpa using ha
        · have := hs.1 x hx
          simp
          omega
      rw [this]
      simp only [List.length_nil, Nat.not_lt_zero, false_iff, not_exists]
      intro h hh
      cases n with
      | zero => exact ha hh
      | succ n =>
        have hn : n < l.length := by simpa using h
        have := hs.1 l[n] (List.getElem_mem hn)
        simp only [List.getElem_cons_succ] at hh
        omega
/-- hasUnmade of the program: more than made of the client's edits are among the first hav. -/
theorem unmade_iff (c : Int) (made hav : Nat) : (∃ h : made < (lgAt log log.length c).length, (lgAt log log.length c)[made] < hav) ↔ ¬ (ownN (log := log) hav c ≤ made) := by
  rw [Nat.not_le]
  exact (count_lt (lgAt_sorted _ _) hav made).symm

/-- isAsLogged of the program is the document's loop. -/
theorem logged_iff (h : GoodL chg C log log.length) (c : Int) (q : Nat) (x : Ed) :
    (∀ hq : q < (lgAt log log.length c).length, log[(lgAt log log.length c)[q]]? = some x) ↔ ∀ (k : Nat) (e : Ed), log[k]? = some e → e.o.cl = c → e.o.sq = (q : Int) + 1 → e = x := by
  constructor
  · intro hx k e hk hc hs
    have hm : k ∈ lgAt log log.length c := mem_lgAt (List.getElem?_eq_some_iff.1 hk).1 hk hc
    obtain ⟨j, hj, rfl⟩ := List.getElem_of_mem hm
    obtain ⟨e', h1, -, h3⟩ := lgAt_seq h c j hj
    rw [hk] at h1
    injection h1 with h1
    subst h1
    have : j = q := by omega
    subst this
    have := hx hj
    rw [hk] at this
    injection this
  · intro hx hq
    obtain ⟨e, h1, h2, h3⟩ := lgAt_seq h c q hq
    rw [h1, hx _ e h1 h2 h3]
end

end Go.Proofs.YtfhghijefjhehaaDoor
