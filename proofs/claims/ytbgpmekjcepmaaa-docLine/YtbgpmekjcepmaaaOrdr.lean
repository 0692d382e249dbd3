/-
  Order that is kept: without memory.
-/
import Derived.Test.YtbgpmekjcepmaaaFj
import Derived.Test.YtbgpmekjcepmaaaMade
namespace Go.Proofs.Ytbgpmekjcepmaaa
open Go.RowKit
set_option linter.unusedVariables false

/-- The elements that both have stand in the same order in both; all of b are of unlike edits. -/
def Ord (a b : List El) : Prop := (b.map (·.2)).Nodup ∧ (∀ x ∈ a, ∀ y ∈ b, x.2 = y.2 → x = y) ∧ (a.filter (fun x => decide (x ∈ b))).Sublist b

theorem Ord.self {a : List El} (h : (a.map (·.2)).Nodup) : Ord a a := by
  refine ⟨h, ?_, List.filter_sublist⟩
  intro x hx y hy e
  induction a with
  | nil => cases hx
  | cons z zs ih =>
    rw [List.map_cons, List.nodup_cons] at h
    rcases List.mem_cons.1 hx with rfl | hx' <;> rcases List.mem_cons.1 hy with rfl | hy'
    · rfl
    · exact absurd (List.mem_map.2 ⟨y, hy', e.symm⟩) h.1
    · exact absurd (List.mem_map.2 ⟨x, hx', e⟩) h.1
    · exact ih h.2 hx' hy'

/-- An element of a new edit is put in. -/
theorem Ord.ins {a b : List El} (h : Ord a b) (p : Nat) (x : El) (ha : ∀ y ∈ a, y.2 ≠ x.2) (hb : ∀ y ∈ b, y.2 ≠ x.2) : Ord a (b.take p ++ x :: b.drop p) := by
  obtain ⟨h1, h2, h3⟩ := h
  have hmem : ∀ y, y ∈ b.take p ++ x :: b.drop p ↔ y = x ∨ y ∈ b := by
    intro y
    have : y ∈ b ↔ y ∈ b.take p ∨ y ∈ b.drop p := by rw [← List.mem_append, List.take_append_drop]
    rw [List.mem_append, List.mem_cons, this]
    constructor
    · rintro (h | h | h)
      · exact .inr (.inl h)
      · exact .inl h
      · exact .inr (.inr h)
    · rintro (h | h | h)
      · exact .inr (.inl h)
      · exact .inl h
      · exact .inr (.inr h)
  refine ⟨?_, ?_, ?_⟩
  · rw [List.map_append, List.map_cons, List.nodup_append]
    have hb1 : (b.map (·.2)) = (b.take p).map (·.2) ++ (b.drop p).map (·.2) := by rw [← List.map_append, List.take_append_drop]
    rw [hb1, List.nodup_append] at h1
    refine ⟨h1.1, ?_, ?_⟩
    · rw [List.nodup_cons]
      refine ⟨?_, h1.2.1⟩
      intro hm
      obtain ⟨y, hy, e⟩ := List.mem_map.1 hm
      exact hb y (List.mem_of_mem_drop hy) e
    · intro u hu v hv
      rcases List.mem_cons.1 hv with rfl | hv'
      · obtain ⟨y, hy, rfl⟩ := List.mem_map.1 hu
        exact hb y (List.mem_of_mem_take hy)
      · exact h1.2.2 u hu v hv'
  · intro y hy z hz e
    rcases (hmem z).1 hz with rfl | hz'
    · exact absurd e (ha y hy)
    · exact h2 y hy z hz' e
  · have e1 : a.filter (fun y => decide (y ∈ b.take p ++ x :: b.drop p)) = a.filter (fun y => decide (y ∈ b)) := by
      apply List.filter_congr
      intro y hy
      have : y ≠ x := fun e => ha y hy (by rw [e])
      rw [decide_eq_decide, hmem]
      constructor
      · rintro (h | h)
        · exact absurd h this
        · exact h
      · exact .inr
    rw [e1]
    refine h3.trans ?_
    have : (b.take p ++ b.drop p).Sublist (b.take p ++ x :: b.drop p) := (List.Sublist.refl _).append (List.sublist_cons_self x _)
    rwa [List.take_append_drop] at this

/-- An element is taken out. -/
theorem Ord.del {a b : List El} (h : Ord a b) (p : Nat) (hp : p < b.length) : Ord a (b.take p ++ b.drop (p + 1)) := by
  obtain ⟨h1, h2, h3⟩ := h
  have hsub : (b.take p ++ b.drop (p + 1)).Sublist b := by
    have : (b.take p ++ b.drop (p + 1)).Sublist (b.take p ++ b.drop p) := (List.Sublist.refl _).append (by rw [List.drop_eq_getElem_cons hp]; exact List.sublist_cons_self _ _)
    rwa [List.take_append_drop] at this
  have hnd : b.Nodup := List.Pairwise.of_map (fun x : El => x.2) (fun a b h e => h (by rw [e])) h1
  have hb' : b = b.take p ++ b[p] :: b.drop (p + 1) := by rw [← List.drop_eq_getElem_cons hp, List.take_append_drop]
  have hmem : ∀ y, y ∈ b.take p ++ b.drop (p + 1) ↔ y ∈ b ∧ y ≠ b[p] := by
    intro y
    have hnd2 := hnd
    rw [hb', List.nodup_append, List.nodup_cons] at hnd2
    obtain ⟨n1, ⟨n2, n3⟩, n4⟩ := hnd2
    constructor
    · intro hy
      refine ⟨hsub.subset hy, ?_⟩
      rintro rfl
      rcases List.mem_append.1 hy with hy | hy
      · exact n4 _ hy _ (List.mem_cons_self) rfl
      · exact n2 hy
    · rintro ⟨hy, hne⟩
      rw [hb'] at hy
      rcases List.mem_append.1 hy with hy | hy
      · exact List.mem_append.2 (.inl hy)
      · rcases List.mem_cons.1 hy with hy | hy
        · exact absurd hy hne
        · exact List.mem_append.2 (.inr hy)
  refine ⟨h1.sublist (hsub.map _), fun y hy z hz e => h2 y hy z (hsub.subset hz) e, ?_⟩
  have e1 : a.filter (fun y => decide (y ∈ b.take p ++ b.drop (p + 1))) = (a.filter (fun y => decide (y ∈ b))).filter (fun y => decide (y ≠ b[p])) := by
    rw [List.filter_filter]
    apply List.filter_congr
    intro y hy
    rw [← Bool.decide_and, decide_eq_decide, hmem]
    exact And.comm
  have e2 : b.filter (fun y => decide (y ≠ b[p])) = b.take p ++ b.drop (p + 1) := by
    have n := hnd
    rw [hb', List.nodup_append, List.nodup_cons] at n
    obtain ⟨n1, ⟨n2, n3⟩, n4⟩ := n
    generalize hq : b[p] = q at *
    have f1 : (b.take p).filter (fun y => decide (y ≠ q)) = b.take p := List.filter_eq_self.2 (fun y hy => decide_eq_true (fun e => n4 y hy q List.mem_cons_self e))
    have f2 : (b.drop (p + 1)).filter (fun y => decide (y ≠ q)) = b.drop (p + 1) := List.filter_eq_self.2 (fun y hy => decide_eq_true (fun e => n2 (e ▸ hy)))
    conv => lhs; rw [hb']
    rw [List.filter_append, List.filter_cons, f1, f2]
    simp
  rw [e1, ← e2]
  exact h3.filter _

theorem sub_at {x : El} {l b : List El} (h : (x :: l).Sublist b) : ∃ k : Nat, b[k]? = some x ∧ l.Sublist (b.drop (k + 1)) := by
  induction b with
  | nil => cases h
  | cons y b ih =>
    cases h with
    | cons _ h' =>
      obtain ⟨k, h1, h2⟩ := ih h'
      exact ⟨k + 1, by simpa using h1, by simpa using h2⟩
    | cons_cons _ h' => exact ⟨0, rfl, by simpa using h'⟩

theorem findP_none {cl sq : Int} : ∀ {ys : List El} {k : Nat}, (∀ y ∈ ys, ¬ (y.2.1 = cl ∧ y.2.2 = sq)) → findP cl sq ys k = -1
  | [], _, _ => rfl
  | y :: ys, k, h => by
    unfold findP
    rw [if_neg (h y List.mem_cons_self)]
    exact findP_none (fun z hz => h z (List.mem_cons_of_mem _ hz))

theorem findP_some {cl sq : Int} : ∀ {ys : List El} {k j : Nat} {y : El}, (ys.map (·.2)).Nodup → ys[j]? = some y → y.2 = (cl, sq) → findP cl sq ys k = ((k + j : Nat) : Int)
  | [], _, _, _, _, h, _ => by simp at h
  | z :: ys, k, 0, y, _, h, e => by
    simp at h
    subst h
    unfold findP
    rw [if_pos (by rw [e]; exact ⟨rfl, rfl⟩)]
    rfl
  | z :: ys, k, j + 1, y, hn, h, e => by
    rw [List.map_cons, List.nodup_cons] at hn
    have hy : ys[j]? = some y := by simpa using h
    have hmem : y ∈ ys := List.mem_of_getElem? hy
    unfold findP
    rw [if_neg, findP_some hn.2 hy e]
    · congr 1; omega
    · rintro ⟨e1, e2⟩
      exact hn.1 (List.mem_map.2 ⟨y, hmem, by rw [e]; exact (Prod.ext e1 e2).symm⟩)

/-- What holds in the loop of ordered: last is m - 1. -/
def ORel (xs ys : List El) (i m : Nat) : Prop := ((xs.drop i).filter (fun x => decide (x ∈ ys))).Sublist (ys.drop m)

/-- One element more: it is not there, or it is behind all before. -/
theorem ORel.step {xs ys : List El} {i m : Nat} (hO : Ord xs ys) (h : ORel xs ys i m) (hi : i < xs.length) :
    (findP xs[i].2.1 xs[i].2.2 ys 0 = -1 ∧ ORel xs ys (i + 1) m) ∨ (∃ k : Nat, findP xs[i].2.1 xs[i].2.2 ys 0 = (k : Int) ∧ m ≤ k ∧ ys[k]? = some xs[i] ∧ ORel xs ys (i + 1) (k + 1)) := by
  obtain ⟨h1, h2, h3⟩ := hO
  unfold ORel at h
  rw [List.drop_eq_getElem_cons hi, List.filter_cons] at h
  by_cases hm : xs[i] ∈ ys
  · rw [if_pos (decide_eq_true hm)] at h
    obtain ⟨k, hk1, hk2⟩ := sub_at h
    rw [List.getElem?_drop] at hk1
    rw [List.drop_drop] at hk2
    refine .inr ⟨m + k, ?_, by omega, hk1, ?_⟩
    · have := findP_some (k := 0) h1 hk1 (cl := xs[i].2.1) (sq := xs[i].2.2) rfl
      rw [Nat.zero_add] at this
      exact this
    · unfold ORel
      rw [show m + k + 1 = m + (k + 1) by omega]
      exact hk2
  · rw [if_neg (by simpa using hm)] at h
    refine .inl ⟨findP_none (fun y hy e => ?_), h⟩
    have : xs[i] = y := h2 _ (List.getElem_mem hi) y hy (Prod.ext e.1.symm e.2.symm)
    exact hm (this ▸ hy)

/-- A line of texts: each of its own edits, in order with all that follow. -/
def LineI (k : Nat) (TS : List (List El)) (xs : List El) : Prop :=
  TS.Pairwise Ord ∧ (∀ a ∈ TS, Ord a a ∧ Ord a xs ∧ ∀ x ∈ a, x.2.2 ≤ (k : Int)) ∧ (xs.map (·.2)).Nodup ∧ ∀ x ∈ xs, x.2.2 ≤ (k : Int)

theorem LineI.start : LineI 0 [] [] := ⟨List.Pairwise.nil, fun a h => (by cases h), List.nodup_nil, fun x h => (by cases h)⟩

theorem LineI.step {k nv : Nat} {TS : List (List El)} {xs : List El} {o : OpE} (h : LineI k TS xs) (hm : MadeOp nv k o) (hx : xs.length = nv) : LineI (k + 1) (TS ++ [applyP xs o]) (applyP xs o) := by
  obtain ⟨h1, h2, h3, h4⟩ := h
  have fresh : ∀ y : El, y.2.2 ≤ (k : Int) → y.2 ≠ (o.cl, o.sq) := by
    intro y hy e
    have := hm.2.2
    have e2 : y.2.2 = o.sq := by rw [e]
    omega
  have ostep : ∀ a, Ord a xs → (∀ x ∈ a, x.2.2 ≤ (k : Int)) → Ord a (applyP xs o) := by
    intro a ha hb
    obtain ⟨hq, hcl, hsq⟩ := hm
    rcases hq with ⟨hk, ⟨p, hp1, hp2⟩, _⟩ | ⟨hk, ⟨p, hp1, hp2⟩, _⟩
    · have e : applyP xs o = xs.take p ++ xs.drop (p + 1) := by unfold applyP; rw [if_neg (by omega), if_pos hk, hp1]; rfl
      rw [e]
      exact ha.del p (by omega)
    · have e : applyP xs o = xs.take p ++ (o.ch, o.cl, o.sq) :: xs.drop p := by unfold applyP; rw [if_pos hk, hp1]; rfl
      rw [e]
      exact ha.ins p _ (fun y hy => fresh y (hb y hy)) (fun y hy => fresh y (h4 y hy))
  have hself : Ord xs (applyP xs o) := ostep xs (Ord.self h3) h4
  have hnd : ((applyP xs o).map (·.2)).Nodup := hself.1
  have hle : ∀ x ∈ applyP xs o, x.2.2 ≤ ((k + 1 : Nat) : Int) := by
    intro x hx'
    obtain ⟨hq, hcl, hsq⟩ := hm
    rcases hq with ⟨hk, ⟨p, hp1, hp2⟩, _⟩ | ⟨hk, ⟨p, hp1, hp2⟩, _⟩
    · have e : applyP xs o = xs.take p ++ xs.drop (p + 1) := by unfold applyP; rw [if_neg (by omega), if_pos hk, hp1]; rfl
      rw [e] at hx'
      rcases List.mem_append.1 hx' with hx' | hx'
      · have := h4 x (List.mem_of_mem_take hx'); omega
      · have := h4 x (List.mem_of_mem_drop hx'); omega
    · have e : applyP xs o = xs.take p ++ (o.ch, o.cl, o.sq) :: xs.drop p := by unfold applyP; rw [if_pos hk, hp1]; rfl
      rw [e] at hx'
      rcases List.mem_append.1 hx' with hx' | hx'
      · have := h4 x (List.mem_of_mem_take hx'); omega
      · rcases List.mem_cons.1 hx' with rfl | hx'
        · simp only; omega
        · have := h4 x (List.mem_of_mem_drop hx'); omega
  refine ⟨?_, ?_, hnd, hle⟩
  · rw [List.pairwise_append]
    refine ⟨h1, List.pairwise_singleton _ _, ?_⟩
    intro a ha b hb
    obtain rfl := List.mem_singleton.1 hb
    exact ostep a (h2 a ha).2.1 (h2 a ha).2.2
  · intro a ha
    rcases List.mem_append.1 ha with ha | ha
    · refine ⟨(h2 a ha).1, ostep a (h2 a ha).2.1 (h2 a ha).2.2, fun x hx' => ?_⟩
      have := (h2 a ha).2.2 x hx'
      omega
    · obtain rfl := List.mem_singleton.1 ha
      exact ⟨Ord.self hnd, Ord.self hnd, hle⟩

theorem LineI.pair {k : Nat} {TS : List (List El)} {xs : List El} (h : LineI k TS xs) (i j : Nat) (hij : i ≤ j) (hi : i < TS.length) (hj : j < TS.length) : Ord TS[i] TS[j] := by
  by_cases e : i = j
  · subst e
    exact (h.2.1 _ (List.getElem_mem hi)).1
  · exact List.pairwise_iff_getElem.1 h.1 i j hi hj (by omega)

end Go.Proofs.Ytbgpmekjcepmaaa
