/-
  A Nop does nothing to others.
-/
import Derived.Test.YtmkgkgdngjmcmaaDoorUa
namespace Go.Proofs.YtmkgkgdngjmcmaaDoor
open Go.RowKit
set_option linter.unusedVariables false

def act (l : List OpE) : List OpE := l.filter fun o => decide (o.kind ≠ 0)

/-- Of l what stands where M has no Nop. -/
def sel : List OpE → List OpE → List OpE
  | m :: M, x :: l => if m.kind = 0 then sel M l else x :: sel M l
  | _, _ => []

/-- Where M has a Nop, l has it too. -/
def NK : List OpE → List OpE → Prop
  | [], [] => True
  | m :: M, x :: l => (m.kind = 0 → x = m) ∧ NK M l
  | _, _ => False

theorem NK_self (l : List OpE) : NK l l := by
  induction l with
  | nil => trivial
  | cons x l ih => exact ⟨fun _ => rfl, ih⟩

theorem sel_self (l : List OpE) : sel l l = act l := by
  induction l with
  | nil => rfl
  | cons x l ih =>
    by_cases h : x.kind = 0
    · simp [sel, act, h, ih]
    · simp [sel, act, h, ih]

theorem shiftP_nop_l {a b : OpE} {f : Bool} (h : a.kind = 0) : shiftP a b f = a := by
  unfold shiftP
  rw [if_pos (by omega)]
theorem shiftP_nop_r {a b : OpE} {f : Bool} (h : b.kind = 0) : shiftP a b f = a := by
  unfold shiftP
  rw [if_pos (by omega)]

theorem through_nop {b : OpE} (h : b.kind = 0) (f : Bool) : ∀ X, throughP b X f = (b, X)
  | [] => rfl
  | x :: X => by
    simp only [throughP, shiftP_nop_l h, shiftP_nop_r h, through_nop h f X]

theorem through_sel (f : Bool) : ∀ (M X : List OpE) (b : OpE), NK M X → (throughP b X f).1 = (throughP b (sel M X) f).1 ∧ sel M (throughP b X f).2 = (throughP b (sel M X) f).2 ∧ NK M (throughP b X f).2
  | [], [], b, _ => ⟨rfl, rfl, trivial⟩
  | m :: M, x :: X, b, h => by
    by_cases hm : m.kind = 0
    · have hx := h.1 hm
      have hk : x.kind = 0 := by rw [hx]; exact hm
      obtain ⟨h1, h2, h3⟩ := through_sel f M X b h.2
      simp only [throughP, shiftP_nop_r hk, shiftP_nop_l hk, sel, if_pos hm]
      exact ⟨h1, h2, fun _ => hx, h3⟩
    · obtain ⟨h1, h2, h3⟩ := through_sel f M X (shiftP b x (!f)) h.2
      simp only [throughP, sel, if_neg hm]
      exact ⟨h1, by rw [h2], fun h => absurd h hm, h3⟩
  | [], _ :: _, _, h => h.elim
  | _ :: _, [], _, h => h.elim

theorem weave_sel (M : List OpE) : ∀ (bs X : List OpE), NK M X → sel M (weaveP X bs).1 = (weaveP (sel M X) (act bs)).1 ∧ NK M (weaveP X bs).1 ∧ sel bs (weaveP X bs).2 = (weaveP (sel M X) (act bs)).2 ∧ NK bs (weaveP X bs).2
  | [], X, h => ⟨rfl, h, rfl, trivial⟩
  | b :: bs, X, h => by
    by_cases hb : b.kind = 0
    · obtain ⟨h1, h2, h3, h4⟩ := weave_sel M bs X h
      have e : act (b :: bs) = act bs := by simp [act, hb]
      simp only [weaveP, through_nop hb, e, sel, if_pos hb]
      exact ⟨h1, h2, h3, fun _ => rfl, h4⟩
    · obtain ⟨t1, t2, t3⟩ := through_sel true M X b h
      obtain ⟨h1, h2, h3, h4⟩ := weave_sel M bs (throughP b X true).2 t3
      have e : act (b :: bs) = b :: act bs := by simp [act, hb]
      simp only [weaveP, e, sel, if_neg hb]
      rw [t2] at h1 h3
      exact ⟨h1, h2, by rw [t1, h3], fun h => absurd h hb, h4⟩

theorem NK_at : ∀ {M X : List OpE}, NK M X → M.length = X.length ∧ ∀ i (h1 : i < M.length) (h2 : i < X.length), M[i].kind = 0 → X[i] = M[i]
  | [], [], _ => ⟨rfl, fun i h1 => by simp at h1⟩
  | m :: M, x :: X, h => by
    obtain ⟨h1, h2⟩ := NK_at h.2
    refine ⟨by simp [h1], fun i i1 i2 => ?_⟩
    cases i with
    | zero => exact h.1
    | succ i => exact h2 i (by simpa using i1) (by simpa using i2)
  | [], _ :: _, h => h.elim
  | _ :: _, [], h => h.elim

theorem sel_take : ∀ (M X : List OpE) (i : Nat) (h1 : i < M.length) (h2 : i < X.length), sel (M.take (i + 1)) (X.take (i + 1)) = sel (M.take i) (X.take i) ++ (if M[i].kind = 0 then [] else [X[i]])
  | m :: M, x :: X, 0, _, _ => by
    simp [sel]
  | m :: M, x :: X, i + 1, h1, h2 => by
    have := sel_take M X i (by simpa using h1) (by simpa using h2)
    simp only [List.take_succ_cons, sel, List.getElem_cons_succ]
    split
    · exact this
    · rw [this]; rfl
  | [], _, i, h1, _ => by simp at h1
  | _ :: _, [], i, _, h2 => by simp at h2

theorem act_take (l : List OpE) (i : Nat) (h : i < l.length) : act (l.take (i + 1)) = act (l.take i) ++ (if l[i].kind = 0 then [] else [l[i]]) := by
  unfold act
  rw [List.take_succ_eq_append_getElem h, List.filter_append]
  congr 1
  by_cases hk : l[i].kind = 0
  · simp [hk]
  · simp [hk]

theorem sel_len : ∀ (M X : List OpE), (sel M X).length ≤ X.length
  | m :: M, x :: X => by
    have := sel_len M X
    simp only [sel]
    split <;> simp <;> omega
  | [], _ => by simp [sel]
  | _ :: _, [] => by simp [sel]

end Go.Proofs.YtmkgkgdngjmcmaaDoor
