/-
  Texts put together: Ua Ha Hb Hc.
-/
import Derived.Test.YtfhghijefjhehaaGreatDoorRows
import Derived.WalkKit
import Derived.WalkSpells
import Derived.WalkLawsBesides
/-! Ua -/
namespace Go.Proofs.YtfhghijefjhehaaGreatDoor
open Go.RowKit
set_option linter.unusedVariables false

theorem hd {p : Prop} (h : p) : Hid p := h

structure OpE where
  kind : Int
  pos : Int
  ch : Int
  cl : Int
  sq : Int

def OpE.val (o : OpE) : Value := .agg #[.int .i64 o.kind, .int .i64 o.pos, .int .u8 o.ch, .int .i64 o.cl, .int .i64 o.sq]

/-- a xs it is behind b. -/
def shiftP (a b : OpE) (f : Bool) : OpE :=
  if ¬ ((a.kind = 1 ∨ a.kind = 2) ∧ (b.kind = 1 ∨ b.kind = 2)) then a
  else if a.kind = 2 ∧ b.kind = 2 ∧ a.pos = b.pos then ⟨0, 0, 0, a.cl, a.sq⟩
  else if b.pos < a.pos ∨ (b.pos = a.pos ∧ b.kind = 1 ∧ (a.kind = 2 ∨ f = false)) then ⟨a.kind, wrap64 (if b.kind = 1 then a.pos + 1 else a.pos - 1), a.ch, a.cl, a.sq⟩
  else a

def throughP : OpE → List OpE → Bool → OpE × List OpE
  | op, [], _ => (op, [])
  | op, x :: l, f => ((throughP (shiftP op x (!f)) l f).1, shiftP x op f :: (throughP (shiftP op x (!f)) l f).2)

def weaveP : List OpE → List OpE → List OpE × List OpE
  | xs, [] => (xs, [])
  | xs, b :: bs => ((weaveP (throughP b xs true).2 bs).1, (throughP b xs true).1 :: (weaveP (throughP b xs true).2 bs).2)

theorem throughP_len (l : List OpE) : ∀ (op : OpE) (f : Bool), (throughP op l f).2.length = l.length := by
  induction l with
  | nil => intro op f; rfl
  | cons x l ih => intro op f; simp [throughP, ih]

theorem weaveP_len (bs : List OpE) : ∀ xs, (weaveP xs bs).1.length = xs.length ∧ (weaveP xs bs).2.length = bs.length := by
  induction bs with
  | nil => intro xs; exact ⟨rfl, rfl⟩
  | cons b bs ih =>
    intro xs
    have := ih (throughP b xs true).2
    simp only [weaveP, List.length_cons]
    rw [this.1, this.2, throughP_len]
    exact ⟨rfl, rfl⟩

/-- The other way about: the first of xs through all of bs. -/
theorem weaveP_cons (bs : List OpE) : ∀ a xs, weaveP (a :: xs) bs = ((throughP a bs false).1 :: (weaveP xs (throughP a bs false).2).1, (weaveP xs (throughP a bs false).2).2) := by
  induction bs with
  | nil => intro a xs; simp [weaveP, throughP]
  | cons b bs ih =>
    intro a xs
    simp only [weaveP, throughP, Bool.not_true, Bool.not_false]
    rw [ih]

theorem weaveP_nil (bs : List OpE) : weaveP [] bs = ([], bs) := by
  induction bs with
  | nil => rfl
  | cons b bs ih => simp only [weaveP, throughP, ih]

theorem throughP_app (l : List OpE) : ∀ (op : OpE) (m : List OpE) (f : Bool), throughP op (l ++ m) f = ((throughP (throughP op l f).1 m f).1, (throughP op l f).2 ++ (throughP (throughP op l f).1 m f).2) := by
  induction l with
  | nil => intro op m f; rfl
  | cons x l ih => intro op m f; simp only [List.cons_append, throughP, ih]

theorem weaveP_app (b1 : List OpE) : ∀ (xs b2 : List OpE), weaveP xs (b1 ++ b2) = ((weaveP (weaveP xs b1).1 b2).1, (weaveP xs b1).2 ++ (weaveP (weaveP xs b1).1 b2).2) := by
  induction b1 with
  | nil => intro xs b2; rfl
  | cons b bs ih => intro xs b2; simp only [List.cons_append, weaveP, ih]

theorem weaveP_app2 (a1 : List OpE) : ∀ (a2 bs : List OpE), weaveP (a1 ++ a2) bs = ((weaveP a1 bs).1 ++ (weaveP a2 (weaveP a1 bs).2).1, (weaveP a2 (weaveP a1 bs).2).2) := by
  induction a1 with
  | nil => intro a2 bs; simp [weaveP_nil]
  | cons a xs ih =>
    intro a2 bs
    simp only [List.cons_append, weaveP_cons, ih]

/-- A piece of a list taken, and one more. -/
theorem throughP_snoc (l : List OpE) (op x : OpE) (f : Bool) : throughP op (l ++ [x]) f = (shiftP (throughP op l f).1 x (!f), (throughP op l f).2 ++ [shiftP x (throughP op l f).1 f]) := by
  rw [throughP_app]
  rfl

theorem weaveP_snoc (bs : List OpE) (xs : List OpE) (b : OpE) : weaveP xs (bs ++ [b]) = ((throughP b (weaveP xs bs).1 true).2, (weaveP xs bs).2 ++ [(throughP b (weaveP xs bs).1 true).1]) := by
  rw [weaveP_app]
  rfl

theorem weaveP_snoc2 (xs : List OpE) (bs : List OpE) (a : OpE) : weaveP (xs ++ [a]) bs = ((weaveP xs bs).1 ++ [(throughP a (weaveP xs bs).2 false).1], (throughP a (weaveP xs bs).2 false).2) := by
  rw [weaveP_app2, weaveP_cons, weaveP_nil]

/-- Characters stay bytes. -/
def OkOp (o : OpE) : Prop := 0 ≤ o.ch ∧ o.ch ≤ 255

theorem shiftP_ok {a b : OpE} {f : Bool} (h : OkOp a) : OkOp (shiftP a b f) := by
  unfold shiftP
  repeat' split
  · exact h
  · exact ⟨Int.le_refl _, by simp⟩
  all_goals exact h

end Go.Proofs.YtfhghijefjhehaaGreatDoor

/-! Ha -/
namespace Go.Proofs.YtfhghijefjhehaaGreatDoor
set_option linter.unusedVariables false

structure Ed where
  tag : Int
  o : OpE
structure Ev where
  step : Int
  site : Int
  hav : Int
  made : Int
  o : OpE
  len : Nat

section
variable (chg : OpE → Prop) (C : Int) (log : List Ed)

/-- The places of a client's edits among the first k. -/
def lgAt : Nat → Int → List Nat
  | 0, _ => []
  | k + 1, c => lgAt k c ++ (match log[k]? with | some e => if e.o.cl = c then [k] else [] | none => [])
/-- The document's: the last Seq, the last Tag of a client. -/
def sqAt : Nat → Int → Int
  | 0, _ => 0
  | k + 1, c => match log[k]? with | some e => if e.o.cl = c then e.o.sq else sqAt k c | none => sqAt k c
def tgAt : Nat → Int → Int
  | 0, _ => 0
  | k + 1, c => match log[k]? with | some e => if e.o.cl = c then e.tag else tgAt k c | none => tgAt k c
/-- The program's least tag. -/
def lstAt (k : Nat) (c : Int) : Int := match (lgAt log k c).getLast? with
  | some j => match log[j]? with | some e => e.tag | none => 0
  | none => 0

/-- The program's test of the log's edit k, and the document's. -/
def canP (k : Nat) (e : Ed) : Prop := chg e.o ∧ e.o.cl ≤ C ∧ e.o.sq = ((lgAt log k e.o.cl).length : Int) + 1 ∧ lstAt log k e.o.cl ≤ e.tag ∧ e.tag ≤ (k : Int)
def canD (k : Nat) (e : Ed) : Prop := chg e.o ∧ e.o.cl ≤ C ∧ e.o.sq = sqAt log k e.o.cl + 1 ∧ tgAt log k e.o.cl ≤ e.tag ∧ e.tag ≤ (k : Int)
def GoodL (k : Nat) : Prop := ∀ i e, i < k → log[i]? = some e → canP chg C log i e

variable {chg C log}
theorem lstAt_eq (k : Nat) (c : Int) : lstAt log k c = tgAt log k c := by
  induction k with
  | zero => rfl
  | succ k ih =>
    unfold lstAt at ih ⊢
    cases h : log[k]? with
    | none => simp only [lgAt, tgAt, h, List.append_nil]; exact ih
    | some e =>
      by_cases hc : e.o.cl = c
      · simp [lgAt, tgAt, h, hc]
      · simp only [lgAt, tgAt, h, if_neg hc, List.append_nil]; exact ih
theorem len_eq {k : Nat} (h : GoodL chg C log k) (c : Int) : ((lgAt log k c).length : Int) = sqAt log k c := by
  induction k with
  | zero => rfl
  | succ k ih =>
    have ih := ih (fun i e hi => h i e (by omega))
    cases hk : log[k]? with
    | none => simp only [lgAt, sqAt, hk, List.append_nil]; exact ih
    | some e =>
      by_cases hc : e.o.cl = c
      · have := (h k e (by omega) hk).2.2.1
        rw [hc] at this
        simp [lgAt, sqAt, hk, hc]
        omega
      · simp only [lgAt, sqAt, hk, if_neg hc, List.append_nil]; exact ih
/-- Both ask the same of the log's edit k. -/
theorem can_iff {k : Nat} (h : GoodL chg C log k) (e : Ed) : canP chg C log k e ↔ canD chg C log k e := by
  unfold canP canD
  rw [len_eq h, lstAt_eq]

theorem lgAt_lt {k j : Nat} {c : Int} (h : j ∈ lgAt log k c) : j < k ∧ ∃ e, log[j]? = some e ∧ e.o.cl = c := by
  induction k with
  | zero => simp [lgAt] at h
  | succ k ih =>
    simp only [lgAt, List.mem_append] at h
    rcases h with h | h
    · obtain ⟨a, b⟩ := ih h
      exact ⟨by omega, b⟩
    · cases hk : log[k]? with
      | none => rw [hk] at h; simp at h
      | some e =>
        rw [hk] at h
        by_cases hc : e.o.cl = c
        · simp [hc] at h
          subst h
          exact ⟨by omega, e, hk, hc⟩
        · simp [hc] at h
theorem mem_lgAt {k j : Nat} {c : Int} {e : Ed} (hj : j < k) (he : log[j]? = some e) (hc : e.o.cl = c) : j ∈ lgAt log k c := by
  induction k with
  | zero => omega
  | succ k ih =>
    simp only [lgAt, List.mem_append]
    by_cases h : j = k
    · subst h
      exact .inr (by simp [he, hc])
    · exact .inl (ih (by omega))
/-- The places rise. -/
theorem lgAt_sorted (k : Nat) (c : Int) : (lgAt log k c).Pairwise (· < ·) := by
  induction k with
  | zero => exact List.Pairwise.nil
  | succ k ih =>
    simp only [lgAt]
    rw [List.pairwise_append]
    refine ⟨ih, ?_, fun a ha b hb => ?_⟩
    · split
      · split <;> simp
      · simp
    · have := (lgAt_lt ha).1
      have hb' : b = k := by
        revert hb
        split
        · split <;> simp
        · simp
      omega
/-- The j-th of a client's edits has the Seq j + 1. -/
theorem lgAt_seq {k : Nat} (h : GoodL chg C log k) (c : Int) (j : Nat) (hj : j < (lgAt log k c).length) : ∃ e, log[(lgAt log k c)[j]]? = some e ∧ e.o.cl = c ∧ e.o.sq = (j : Int) + 1 := by
  induction k with
  | zero => simp [lgAt] at hj
  | succ k ih =>
    have ih := ih (fun i e hi => h i e (by omega))
    cases hk : log[k]? with
    | none =>
      have e1 : lgAt log (k + 1) c = lgAt log k c := by simp [lgAt, hk]
      simp only [e1] at hj ⊢
      exact ih hj
    | some e =>
      by_cases hc : e.o.cl = c
      · have e1 : lgAt log (k + 1) c = lgAt log k c ++ [k] := by simp [lgAt, hk, hc]
        simp only [e1] at hj ⊢
        rw [List.length_append, List.length_singleton] at hj
        by_cases hl : j < (lgAt log k c).length
        · rw [List.getElem_append_left hl]
          exact ih hl
        · have hjl : j = (lgAt log k c).length := by omega
          subst hjl
          rw [List.getElem_append_right (Nat.le_refl _)]
          simp only [Nat.sub_self, List.getElem_singleton]
          have := (h k e (by omega) hk).2.2.1
          rw [hc] at this
          exact ⟨e, hk, hc, this⟩
      · have e1 : lgAt log (k + 1) c = lgAt log k c := by simp [lgAt, hk, hc]
        simp only [e1] at hj ⊢
        exact ih hj

/-- How many of the first m edits are the client's (the document's ownAmong). -/
def ownN (m : Nat) (c : Int) : Nat := ((lgAt log log.length c).filter (fun j => decide (j < m))).length
theorem count_lt : ∀ {l : List Nat} (hs : l.Pairwise (· < ·)) (m n : Nat), n < (l.filter (fun j => decide (j < m))).length ↔ ∃ h : n < l.length, l[n] < m
  | [], _, m, n => by simp
  | a :: l, hs, m, n => by
    rw [List.pairwise_cons] at hs
    by_cases ha : a < m
    · rw [List.filter_cons_of_pos (by simpa using ha)]
      cases n with
      | zero => simp [ha]
      | succ n =>
        simp only [List.length_cons, Nat.add_lt_add_iff_right, List.getElem_cons_succ]
        rw [count_lt hs.2 m n]
    · have : (a :: l).filter (fun j => decide (j < m)) = [] := by
        rw [List.filter_eq_nil_iff]
        intro x hx
        rcases List.mem_cons.1 hx with rfl | hx
        · simpa using ha
        · have := hs.1 x hx
          simp
          omega
      rw [this]
      simp only [List.length_nil, Nat.not_lt_zero, false_iff, not_exists]
      intro h hh
      cases n with
      | zero => exact ha hh
      | succ n =>
        have hn : n < l.length := by simpa using h
        have := hs.1 l[n] (List.getElem_mem hn)
        simp only [List.getElem_cons_succ] at hh
        omega
/-- hasUnmade of the program: more than made of the client's edits are among the first hav. -/
theorem unmade_iff (c : Int) (made hav : Nat) : (∃ h : made < (lgAt log log.length c).length, (lgAt log log.length c)[made] < hav) ↔ ¬ (ownN (log := log) hav c ≤ made) := by
  rw [Nat.not_le]
  exact (count_lt (lgAt_sorted _ _) hav made).symm

/-- isAsLogged of the program is the document's loop. -/
theorem logged_iff (h : GoodL chg C log log.length) (c : Int) (q : Nat) (x : Ed) :
    (∀ hq : q < (lgAt log log.length c).length, log[(lgAt log log.length c)[q]]? = some x) ↔ ∀ (k : Nat) (e : Ed), log[k]? = some e → e.o.cl = c → e.o.sq = (q : Int) + 1 → e = x := by
  constructor
  · intro hx k e hk hc hs
    have hm : k ∈ lgAt log log.length c := mem_lgAt (List.getElem?_eq_some_iff.1 hk).1 hk hc
    obtain ⟨j, hj, rfl⟩ := List.getElem_of_mem hm
    obtain ⟨e', h1, -, h3⟩ := lgAt_seq h c j hj
    rw [hk] at h1
    injection h1 with h1
    subst h1
    have : j = q := by omega
    subst this
    have := hx hj
    rw [hk] at this
    injection this
  · intro hx hq
    obtain ⟨e, h1, h2, h3⟩ := lgAt_seq h c q hq
    rw [h1, hx _ e h1 h2 h3]
end

end Go.Proofs.YtfhghijefjhehaaGreatDoor

/-! Hb -/
namespace Go.Proofs.YtfhghijefjhehaaGreatDoor
set_option linter.unusedVariables false

def zo : OpE := ⟨0, 0, 0, 0, 0⟩
def zev : Ev := ⟨0, 0, 0, 0, zo, 0⟩

section
variable (evs : List Ev)
/-- The numbers of a site's events among the first i. -/
def shAt : Nat → Int → List Nat
  | 0, _ => []
  | k + 1, c => shAt k c ++ (match evs[k]? with | some e => if e.site = c then [k] else [] | none => [])
/-- The event before (of the same site). -/
def pv : Nat → Int → Ev
  | 0, _ => zev
  | k + 1, c => match evs[k]? with | some e => if e.site = c then e else pv k c | none => pv k c
/-- How many edits a site has made. -/
noncomputable def dn : Nat → Int → Nat
  | 0, _ => 0
  | k + 1, c => open Classical in match evs[k]? with | some e => if e.site = c ∧ e.o ≠ zo then dn k c + 1 else dn k c | none => dn k c

/-- The program's event(last(site)). -/
theorem pv_last (k : Nat) (c : Int) : pv evs k c = match (shAt evs k c).getLast? with | some j => (evs[j]?).getD zev | none => zev := by
  induction k with
  | zero => rfl
  | succ k ih =>
    cases h : evs[k]? with
    | none => simp only [shAt, pv, h, List.append_nil]; exact ih
    | some e =>
      by_cases hc : e.site = c
      · simp [shAt, pv, h, hc]
      · simp only [shAt, pv, h, if_neg hc, List.append_nil]; exact ih

/-- What is known of an event that can be. -/
def FactE (log : List Ed) (j : Nat) (e : Ev) : Prop :=
  (e.site = 0 → e.o = zo) ∧ (e.site ≠ 0 → e.o = zo → e.made = (pv evs j e.site).made) ∧
  (e.site ≠ 0 → e.o ≠ zo → e.o.cl = e.site ∧ e.o.sq = e.made ∧ e.made = (pv evs j e.site).made + 1 ∧ ∀ (k : Nat) (x : Ed), log[k]? = some x → x.o.cl = e.site → x.o.sq = e.made → x = ⟨e.hav, e.o⟩)
variable {evs} {log : List Ed}

theorem made_dn {i : Nat} (h : ∀ j e, j < i → evs[j]? = some e → FactE evs log j e) {c : Int} (hc : c ≠ 0) : (pv evs i c).made = (dn evs i c : Int) := by
  induction i with
  | zero => rfl
  | succ i ih =>
    have ih := ih (fun j e hj => h j e (by omega))
    cases hi : evs[i]? with
    | none => simp only [pv, dn, hi]; exact ih
    | some e =>
      have hf := h i e (by omega) hi
      by_cases hs : e.site = c
      · by_cases ho : e.o = zo
        · simp only [pv, dn, hi, if_pos hs, if_neg (fun h : e.site = c ∧ e.o ≠ zo => h.2 ho)]
          rw [hf.2.1 (by rw [hs]; exact hc) ho, hs]
          exact ih
        · simp only [pv, dn, hi, if_pos hs, if_pos (And.intro hs ho)]
          have := (hf.2.2 (by rw [hs]; exact hc) ho).2.2.1
          rw [hs] at this
          omega
      · simp only [pv, dn, hi, if_neg hs, if_neg (fun h : e.site = c ∧ e.o ≠ zo => hs h.1)]
        exact ih

theorem dn_mono {i j : Nat} (hij : i ≤ j) (c : Int) : dn evs i c ≤ dn evs j c := by
  induction j with
  | zero =>
    obtain rfl : i = 0 := by omega
    exact Nat.le_refl _
  | succ j ih =>
    by_cases e : i = j + 1
    · subst e
      exact Nat.le_refl _
    · refine Nat.le_trans (ih (by omega)) ?_
      simp only [dn]
      split
      · split <;> omega
      · exact Nat.le_refl _

theorem ex_dn {i : Nat} (h : ∀ j e, j < i → evs[j]? = some e → FactE evs log j e) {c : Int} (hc : c ≠ 0) {q : Nat} (h1 : 1 ≤ q) (h2 : q ≤ dn evs i c) : ∃ j e, j < i ∧ evs[j]? = some e ∧ e.site = c ∧ e.o ≠ zo ∧ e.made = (q : Int) := by
  induction i with
  | zero => simp [dn] at h2; omega
  | succ i ih =>
    have h' : ∀ j e, j < i → evs[j]? = some e → FactE evs log j e := fun j e hj => h j e (by omega)
    by_cases hq : q ≤ dn evs i c
    · obtain ⟨j, e, a, b⟩ := ih h' hq
      exact ⟨j, e, by omega, b⟩
    · cases hi : evs[i]? with
      | none => simp only [dn, hi] at h2; omega
      | some e =>
        by_cases hs : e.site = c ∧ e.o ≠ zo
        · refine ⟨i, e, by omega, hi, hs.1, hs.2, ?_⟩
          have hf := (h i e (by omega) hi).2.2 (by rw [hs.1]; exact hc) hs.2
          have hm := made_dn h' hc
          simp only [dn, hi, if_pos hs] at h2
          have := hf.2.2.1
          rw [hs.1] at this
          omega
        · simp only [dn, hi, if_neg hs] at h2
          omega

/-- The program's last loop (Seq is not above the edits made) is the document's makes. -/
theorem makes_iff (h : ∀ j e, j < evs.length → evs[j]? = some e → FactE evs log j e) {k : Nat} {x : Ed} (hk : log[k]? = some x) (hx : x.o ≠ zo) (hcl : x.o.cl ≠ 0) (hsq : 1 ≤ x.o.sq) :
    (∃ (j : Nat) (e : Ev), evs[j]? = some e ∧ e.o ≠ zo ∧ e.o = x.o) ↔ x.o.sq ≤ (dn evs evs.length x.o.cl : Int) := by
  constructor
  · rintro ⟨j, e, hj, ho, he⟩
    have hjl := (List.getElem?_eq_some_iff.1 hj).1
    have hf := h j e hjl hj
    have hs : e.site ≠ 0 := fun hs => ho (hf.1 hs)
    obtain ⟨a1, a2, a3, -⟩ := hf.2.2 hs ho
    have hm := made_dn (i := j) (fun j' e' hj' => h j' e' (by omega)) hs
    have hd : dn evs (j + 1) e.site = dn evs j e.site + 1 := by simp only [dn, hj, if_pos (And.intro rfl ho)]
    have := dn_mono (evs := evs) (show j + 1 ≤ evs.length by omega) e.site
    rw [he] at a1 a2
    rw [a1]
    omega
  · intro hle
    obtain ⟨q, hq⟩ : ∃ q : Nat, x.o.sq = (q : Int) := ⟨x.o.sq.toNat, by omega⟩
    obtain ⟨j, e, hj, hje, hs, ho, hm⟩ := ex_dn h hcl (q := q) (by omega) (by omega)
    refine ⟨j, e, hje, ho, ?_⟩
    obtain ⟨-, -, -, a4⟩ := (h j e hj hje).2.2 (by rw [hs]; exact hcl) ho
    have := a4 k x hk hs.symm (by omega)
    rw [this]
end

end Go.Proofs.YtfhghijefjhehaaGreatDoor

/-! Hc -/
namespace Go.Proofs.YtfhghijefjhehaaGreatDoor
set_option linter.unusedVariables false

section
variable (chg : OpE → Prop) (fit : Nat → OpE → Prop) (C : Int) (log : List Ed)

/-- hasUnmade, isAsLogged of the program. -/
def unm (c made hav : Int) : Prop := ∃ (q : Nat) (h : q < (lgAt log log.length c).length), (q : Int) = made ∧ (((lgAt log log.length c)[q] : Nat) : Int) < hav
def asL (x : Ed) : Prop := ((lgAt log log.length x.o.cl).length : Int) < x.o.sq ∨ ∃ (q : Nat) (h : q < (lgAt log log.length x.o.cl).length), (q : Int) + 1 = x.o.sq ∧ log[(lgAt log log.length x.o.cl)[q]]? = some x

/-- The program: canFollow and canShow (st: the step of the event ahead; p: the site's event before). -/
def canS (st : Int) (p e : Ev) : Prop :=
  (0 ≤ e.site ∧ e.site ≤ C ∧ st ≤ e.step ∧ e.len ≤ 4096) ∧ (p.hav ≤ e.hav ∧ e.hav ≤ log.length) ∧
  ((e.site = 0 ∧ e.made = 0 ∧ e.o = zo) ∨ (e.site ≠ 0 ∧ e.o ≠ zo ∧ (e.o.cl = e.site ∧ e.o.sq = e.made ∧ e.made = p.made + 1 ∧ e.hav = p.hav) ∧ chg e.o ∧ fit p.len e.o ∧ asL log ⟨e.hav, e.o⟩) ∨ (e.site ≠ 0 ∧ e.o = zo ∧ e.made = p.made ∧ ¬ unm log e.site e.made e.hav))
/-- The document: can. -/
def canR (st : Int) (p e : Ev) : Prop :=
  (0 ≤ e.site ∧ e.site ≤ C ∧ st ≤ e.step ∧ e.len ≤ 4096 ∧ p.hav ≤ e.hav ∧ e.hav ≤ log.length) ∧
  ((e.site = 0 ∧ e.made = 0 ∧ e.o = zo) ∨ (e.site ≠ 0 ∧ e.o = zo ∧ e.made = p.made ∧ ((ownN (log := log) e.hav.toNat e.site : Nat) : Int) ≤ e.made) ∨
   (e.site ≠ 0 ∧ e.o ≠ zo ∧ chg e.o ∧ e.o.cl = e.site ∧ e.o.sq = e.made ∧ e.made = p.made + 1 ∧ e.hav = p.hav ∧ fit p.len e.o ∧ ∀ (k : Nat) (x : Ed), log[k]? = some x → x.o.cl = e.site → x.o.sq = e.made → x = ⟨e.hav, e.o⟩))

variable {chg fit C log}
theorem unm_iff (c made hav : Int) (hm : 0 ≤ made) (hh : 0 ≤ hav) : ¬ unm log c made hav ↔ ((ownN (log := log) hav.toNat c : Nat) : Int) ≤ made := by
  obtain ⟨m, rfl⟩ : ∃ m : Nat, made = (m : Int) := ⟨made.toNat, by omega⟩
  obtain ⟨n, rfl⟩ : ∃ n : Nat, hav = (n : Int) := ⟨hav.toNat, by omega⟩
  have h := unmade_iff (log := log) c m n
  have e : unm log c (m : Int) (n : Int) ↔ ∃ h : m < (lgAt log log.length c).length, (lgAt log log.length c)[m] < n := by
    unfold unm
    constructor
    · rintro ⟨q, hq, e1, e2⟩
      have : q = m := by omega
      subst this
      exact ⟨hq, by omega⟩
    · rintro ⟨hq, e2⟩
      exact ⟨m, hq, rfl, by omega⟩
  rw [e, h, Decidable.not_not, Int.toNat_natCast]
  omega
theorem asL_iff (h : GoodL chg C log log.length) (x : Ed) (hs : 1 ≤ x.o.sq) : asL log x ↔ ∀ (k : Nat) (y : Ed), log[k]? = some y → y.o.cl = x.o.cl → y.o.sq = x.o.sq → y = x := by
  obtain ⟨q, hq⟩ : ∃ q : Nat, x.o.sq = (q : Int) + 1 := ⟨(x.o.sq - 1).toNat, by omega⟩
  have := logged_iff h x.o.cl q x
  rw [hq, ← this]
  unfold asL
  constructor
  · rintro (a | ⟨q', h', e1, e2⟩) hl
    · omega
    · have : q' = q := by omega
      subst this
      exact e2
  · intro hx
    by_cases hl : q < (lgAt log log.length x.o.cl).length
    · exact .inr ⟨q, hl, hq.symm, hx hl⟩
    · exact .inl (by omega)

/-- Both ask the same. -/
theorem canS_iff (hg : GoodL chg C log log.length) (hch : ∀ o, chg o → 1 ≤ o.sq) {st : Int} {p e : Ev} (hp : 0 ≤ p.hav) (hm : 0 ≤ p.made) : canS chg fit C log st p e ↔ canR chg fit C log st p e := by
  unfold canS canR
  constructor
  · rintro ⟨⟨a1, a2, a3, a4⟩, ⟨a5, a6⟩, h⟩
    refine ⟨⟨a1, a2, a3, a4, a5, a6⟩, ?_⟩
    rcases h with h | ⟨h1, h2, ⟨h3, h4, h5, h6⟩, h7, h8, h9⟩ | ⟨h1, h2, h3, h4⟩
    · exact .inl h
    · refine .inr (.inr ⟨h1, h2, h7, h3, h4, h5, h6, h8, ?_⟩)
      have := (asL_iff hg ⟨e.hav, e.o⟩ (hch _ h7)).1 h9
      intro k x hk hc hs
      exact this k x hk (by rw [hc]; exact h3.symm) (by rw [hs]; exact h4.symm)
    · exact .inr (.inl ⟨h1, h2, h3, (unm_iff _ _ _ (by omega) (by omega)).1 h4⟩)
  · rintro ⟨⟨a1, a2, a3, a4, a5, a6⟩, h⟩
    refine ⟨⟨a1, a2, a3, a4⟩, ⟨a5, a6⟩, ?_⟩
    rcases h with h | ⟨h1, h2, h3, h4⟩ | ⟨h1, h2, h7, h3, h4, h5, h6, h8, h9⟩
    · exact .inl h
    · exact .inr (.inr ⟨h1, h2, h3, (unm_iff _ _ _ (by omega) (by omega)).2 h4⟩)
    · refine .inr (.inl ⟨h1, h2, ⟨h3, h4, h5, h6⟩, h7, h8, ?_⟩)
      refine (asL_iff hg ⟨e.hav, e.o⟩ (hch _ h7)).2 (fun k x hk hc hs => ?_)
      exact h9 k x hk (hc.trans h3) (hs.trans h4)

/-- What can be is known as the last loop wants it. -/
theorem canR.fact {evs : List Ev} {j : Nat} {st : Int} {e : Ev} (h : canR chg fit C log st (pv evs j e.site) e) : FactE evs log j e := by
  obtain ⟨-, h⟩ := h
  rcases h with ⟨h1, h2, h3⟩ | ⟨h1, h2, h3, h4⟩ | ⟨h1, h2, h7, h3, h4, h5, h6, h8, h9⟩
  · exact ⟨fun _ => h3, fun a => absurd h1 a, fun a => absurd h1 a⟩
  · exact ⟨fun a => absurd a h1, fun _ _ => h3, fun _ a => absurd h2 a⟩
  · exact ⟨fun a => absurd a h1, fun _ a => absurd a h2, fun _ _ => ⟨h3, h4, h5, h9⟩⟩
theorem canR.nonneg {st : Int} {p e : Ev} (h : canR chg fit C log st p e) (hp : 0 ≤ p.hav) (hm : 0 ≤ p.made) : 0 ≤ e.hav ∧ 0 ≤ e.made := by
  obtain ⟨⟨-, -, -, -, a5, -⟩, h⟩ := h
  rcases h with ⟨h1, h2, h3⟩ | ⟨h1, h2, h3, h4⟩ | ⟨h1, h2, h7, h3, h4, h5, h6, h8, h9⟩ <;> exact ⟨by omega, by omega⟩
end

end Go.Proofs.YtfhghijefjhehaaGreatDoor
