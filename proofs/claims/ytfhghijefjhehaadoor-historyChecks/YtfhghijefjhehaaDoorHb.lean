/-
  HistoryChecks, without memory: the events.
-/
import Derived.Test.YtfhghijefjhehaaDoorHa
namespace Go.Proofs.YtfhghijefjhehaaDoor
set_option linter.unusedVariables false

def zo : OpE := ⟨0, 0, 0, 0, 0⟩
def zev : Ev := ⟨0, 0, 0, 0, zo, 0⟩

section
variable (evs : List Ev)
/-- The numbers of a site's events among the first i. -/
def shAt : Nat → Int → List Nat
  | 0, _ => []
  | k + 1, c => shAt k c ++ (match evs[k]? with | some e => if e.site = c then [k] else [] | none => [])
/-- The event before (of the same site). -/
def pv : Nat → Int → Ev
  | 0, _ => zev
  | k + 1, c => match evs[k]? with | some e => if e.site = c then e else pv k c | none => pv k c
/-- How many edits a site has made. -/
noncomputable def dn : Nat → Int → Nat
  | 0, _ => 0
  | k + 1, c => open Classical in match evs[k]? with | some e => if e.site = c ∧ e.o ≠ zo then dn k c + 1 else dn k c | none => dn k c

/-- The program's event(last(site)). -/
theorem pv_last (k : Nat) (c : Int) : pv evs k c = match (shAt evs k c).getLast? with | some j => (evs[j]?).getD zev | none => zev := by
  induction k with
  | zero => rfl
  | succ k ih =>
    cases h : evs[k]? with
    | none => simp only [shAt, pv, h, List.append_nil]; exact ih
    | some e =>
      by_cases hc : e.site = c
      · simp [shAt, pv, h, hc]
      · simp only [shAt, pv, h, if_neg hc, List.append_nil]; exact ih

/-- What is known of an event that can be. -/
def FactE (log : List Ed) (j : Nat) (e : Ev) : Prop :=
  (e.site = 0 → e.o = zo) ∧ (e.site ≠ 0 → e.o = zo → e.made = (pv evs j e.site).made) ∧
  (e.site ≠ 0 → e.o ≠ zo → e.o.cl = e.site ∧ e.o.sq = e.made ∧ e.made = (pv evs j e.site).made + 1 ∧ ∀ (k : Nat) (x : Ed), log[k]? = some x → x.o.cl = e.site → x.o.sq = e.made → x = ⟨e.hav, e.o⟩)
variable {evs} {log : List Ed}

theorem made_dn {i : Nat} (h : ∀ j e, j < i → evs[j]? = some e → FactE evs log j e) {c : Int} (hc : c ≠ 0) : (pv evs i c).made = (dn evs i c : Int) := by
  induction i with
  | zero => rfl
  | succ i ih =>
    have ih := ih (fun j e hj => h j e (by omega))
    cases hi : evs[i]? with
    | none => simp only [pv, dn, hi]; exact ih
    | some e =>
      have hf := h i e (by omega) hi
      by_cases hs : e.site = c
      · by_cases ho : e.o = zo
        · simp only [pv, dn, hi, if_pos hs, if_neg (fun h : e.site = c ∧ e.o ≠ zo => h.2 ho)]
          rw [hf.2.1 (by rw [hs]; exact hc) ho, hs]
          exact ih
        · simp only [pv, dn, hi, if_pos hs, if_pos (And.intro hs ho)]
          have := (hf.2.2 (by rw [hs]; exact hc) ho).2.2.1
          rw [hs] at this
          omega
      · simp only [pv, dn, hi, if_neg hs, if_neg (fun h : e.site = c ∧ e.o ≠ zo => hs h.1)]
        exact ih

theorem dn_mono {i j : Nat} (hij : i ≤ j) (c : Int) : dn evs i c ≤ dn evs j c := by
  induction j with
  | zero =>
    obtain rfl : i = 0 := by omega
    exact Nat.le_refl _
  | succ j ih =>
    by_cases e : i = j + 1
    · subst e
      exact Nat.le_refl _
    · refine Nat.le_trans (ih (by omega)) ?_
      simp only [dn]
      split
      · split <;> omega
      · exact Nat.le_refl _

theorem ex_dn {i : Nat} (h : ∀ j e, j < i → evs[j]? = some e → FactE evs log j e) {c : Int} (hc : c ≠ 0) {q : Nat} (h1 : 1 ≤ q) (h2 : q ≤ dn evs i c) : ∃ j e, j < i ∧ evs[j]? = some e ∧ e.site = c ∧ e.o ≠ zo ∧ e.made = (q : Int) := by
  induction i with
  | zero => simp [dn] at h2; omega
  | succ i ih =>
    have h' : ∀ j e, j < i → evs[j]? = some e → FactE evs log j e := fun j e hj => h j e (by omega)
    by_cases hq : q ≤ dn evs i c
    · obtain ⟨j, e, a, b⟩ := ih h' hq
      exact ⟨j, e, by omega, b⟩
    · cases hi : evs[i]? with
      | none => simp only [dn, hi] at h2; omega
      | some e =>
        by_cases hs : e.site = c ∧ e.o ≠ zo
        · refine ⟨i, e, by omega, hi, hs.1, hs.2, ?_⟩
          have hf := (h i e (by omega) hi).2.2 (by rw [hs.1]; exact hc) hs.2
          have hm := made_dn h' hc
          simp only [dn, hi, if_pos hs] at h2
          have := hf.2.2.1
          rw [hs.1] at this
          omega
        · simp only [dn, hi, if_neg hs] at h2
          omega

/-- The program's last loop (Seq is not above the edits made) is the document's makes. -/
theorem makes_iff (h : ∀ j e, j < evs.length → evs[j]? = some e → FactE evs log j e) {k : Nat} {x : Ed} (hk : log[k]? = some x) (hx : x.o ≠ zo) (hcl : x.o.cl ≠ 0) (hsq : 1 ≤ x.o.sq) :
    (∃ (j : Nat) (e : Ev), evs[j]? = some e ∧ e.o ≠ zo ∧ e.o = x.o) ↔ x.o.sq ≤ (dn evs evs.length x.o.cl : Int) := by
  constructor
  · rintro ⟨j, e, hj, ho, he⟩
    have hjl := (List.getElem?_eq_some_iff.1 hj).1
    have hf := h j e hjl hj
    have hs : e.site ≠ 0 := fun hs => ho (hf.1 hs)
    obtain ⟨a1, a2, a3, -⟩ := hf.2.2 hs ho
    have hm := made_dn (i := j) (fun j' e' hj' => h j' e' (by omega)) hs
    have hd : dn evs (j + 1) e.site = dn evs j e.site + 1 := by simp only [dn, hj, if_pos (And.intro rfl ho)]
    have := dn_mono (evs := evs) (show j + 1 ≤ evs.length by omega) e.site
    rw [he] at a1 a2
    rw [a1]
    omega
  · intro hle
    obtain ⟨q, hq⟩ : ∃ q : Nat, x.o.sq = (q : Int) := ⟨x.o.sq.toNat, by omega⟩
    obtain ⟨j, e, hj, hje, hs, ho, hm⟩ := ex_dn h hcl (q := q) (by omega) (by omega)
    refine ⟨j, e, hje, ho, ?_⟩
    obtain ⟨-, -, -, a4⟩ := (h j e hj hje).2.2 (by rw [hs]; exact hcl) ho
    have := a4 k x hk hs.symm (by omega)
    rw [this]
end

end Go.Proofs.YtfhghijefjhehaaDoor
