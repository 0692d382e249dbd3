/-
  Texts put together: We Bp Bq.
-/
import Derived.Test.YtilidolbplglcaaGreatDoorWd
import Derived.Test.YtilidolbplglcaaGreatDoorMUb
/-! We -/
namespace Go.Proofs.YtilidolbplglcaaGreatDoor
open Go.RowKit
set_option linter.unusedVariables false

theorem rshift_any (a b : OpE) (f : Bool) (w : World) : Calls Tryz.prog 55 #[a.val, b.val, .bool f] w fun e w' =>
    e = .returned (shiftP a b f).val ∧ Below w.heap.size w w' := by
  obtain ⟨k, p, c, q, s⟩ := a
  obtain ⟨k', p', c', q', s'⟩ := b
  rcases rowP_cases k with rfl | rfl | hk
  · rcases rowP_cases k' with rfl | rfl | hk'
    · cases hA : aheadP 1 p' 1 p f
      · rw [show shiftP ⟨1, p, c, q, s⟩ ⟨1, p', c', q', s'⟩ f = ⟨1, p, c, q, s⟩ from by
          unfold aheadP at hA; unfold shiftP; simp at hA ⊢; split at hA <;> simp_all <;> omega]
        exact rs_11f _ _ _ _ _ _ _ _ _ w hA
      · rw [show shiftP ⟨1, p, c, q, s⟩ ⟨1, p', c', q', s'⟩ f = ⟨1, wrap64 (p + 1), c, q, s⟩ from by
          unfold aheadP at hA; unfold shiftP; simp at hA ⊢; split at hA <;> simp_all <;> omega]
        exact rs_11t _ _ _ _ _ _ _ _ _ w hA
    · cases hA : aheadP 2 p' 1 p f
      · rw [show shiftP ⟨1, p, c, q, s⟩ ⟨2, p', c', q', s'⟩ f = ⟨1, p, c, q, s⟩ from by
          unfold aheadP at hA; unfold shiftP; simp at hA ⊢; omega]
        exact rs_12f _ _ _ _ _ _ _ _ _ w hA
      · rw [show shiftP ⟨1, p, c, q, s⟩ ⟨2, p', c', q', s'⟩ f = ⟨1, wrap64 (p - 1), c, q, s⟩ from by
          unfold aheadP at hA; unfold shiftP; simp at hA ⊢; omega]
        exact rs_12t _ _ _ _ _ _ _ _ _ w hA
    · rw [shiftP_none (by have := rowP_zero hk'; simp only; omega)]
      exact rs_1n k' _ _ _ _ _ _ _ _ _ w hk'
  · rcases rowP_cases k' with rfl | rfl | hk'
    · cases hA : aheadP 1 p' 2 p f
      · rw [show shiftP ⟨2, p, c, q, s⟩ ⟨1, p', c', q', s'⟩ f = ⟨2, p, c, q, s⟩ from by
          unfold aheadP at hA; unfold shiftP; simp at hA ⊢; omega]
        exact rs_21f _ _ _ _ _ _ _ _ _ w hA
      · rw [show shiftP ⟨2, p, c, q, s⟩ ⟨1, p', c', q', s'⟩ f = ⟨2, wrap64 (p + 1), c, q, s⟩ from by
          unfold aheadP at hA; unfold shiftP; simp at hA ⊢; omega]
        exact rs_21t _ _ _ _ _ _ _ _ _ w hA
    · by_cases he : p = p'
      · subst he
        rw [show shiftP ⟨2, p, c, q, s⟩ ⟨2, p, c', q', s'⟩ f = ⟨0, 0, 0, q, s⟩ from by simp [shiftP]]
        exact rs_22e _ _ _ _ _ _ _ _ w
      · have he' : ¬ p' = p := fun h => he h.symm
        cases hA : aheadP 2 p' 2 p f
        · rw [show shiftP ⟨2, p, c, q, s⟩ ⟨2, p', c', q', s'⟩ f = ⟨2, p, c, q, s⟩ from by
            unfold aheadP at hA; unfold shiftP; simp [he, he'] at hA ⊢; omega]
          exact rs_22f _ _ _ _ _ _ _ _ _ w (by simpa using he) hA
        · rw [show shiftP ⟨2, p, c, q, s⟩ ⟨2, p', c', q', s'⟩ f = ⟨2, wrap64 (p - 1), c, q, s⟩ from by
            unfold aheadP at hA; unfold shiftP; simp [he, he'] at hA ⊢; omega]
          exact rs_22t _ _ _ _ _ _ _ _ _ w (by simpa using he) hA
    · rw [shiftP_none (by have := rowP_zero hk'; simp only; omega)]
      exact rs_2n k' _ _ _ _ _ _ _ _ _ w hk'
  · rw [shiftP_none (by have := rowP_zero hk; simp only; omega)]
    exact rs_n k _ _ _ _ _ _ _ _ _ _ w hk

end Go.Proofs.YtilidolbplglcaaGreatDoor

/-! Bp -/
namespace Go.Proofs.YtilidolbplglcaaGreatDoor
open Go.RowKit
set_option linter.unusedVariables false

/-- A record, as one client sees it: an edit of its own, or the done form of another's. -/
inductive Ev where
  | own (p : Pc)
  | oth (r : OpE)

/-- The client's queue behind these records, R of them ahead. -/
def srvQ : Nat → List (Int × OpE) → List Ev → List (Int × OpE)
  | _, q, [] => q
  | R, q, .own p :: l => srvQ (R + 1) (thrQ p.o (dropQ q p.t) true).2 l
  | R, q, .oth r :: l => srvQ (R + 1) (q ++ [((R : Int) + 1, r)]) l

/-- The edits that are made at k records: what is left to be made, the forms. -/
def mkF : Int → List Pc → List OpE → List Pc × List OpE
  | _, [], F => ([], F)
  | k, p :: O, F => if p.t = k then mkF k O (F ++ [p.o]) else (p :: O, F)
/-- The client's life: what it has made of its edits. -/
def lifeF : Nat → List Pc → List OpE → List Ev → List OpE
  | k, O, F, [] => (mkF k O F).2
  | k, O, F, .own _ :: l => lifeF (k + 1) (mkF k O F).1 ((mkF k O F).2.drop 1) l
  | k, O, F, .oth r :: l => lifeF (k + 1) (mkF k O F).1 (throughP r (mkF k O F).2 false).2 l

def owns : List Ev → List Pc
  | [] => []
  | .own p :: l => p :: owns l
  | .oth _ :: l => owns l
/-- An edit of one's own has a tag that is no later than its record. -/
def TagOk : Nat → List Ev → Prop
  | _, [] => True
  | k, .own p :: l => p.t ≤ k ∧ TagOk (k + 1) l
  | k, .oth _ :: l => TagOk (k + 1) l

theorem mkF_par {q : List (Int × OpE)} {k : Int} (hq : ∀ x ∈ q, x.1 ≤ k) : ∀ (O W : List Pc) (F : List OpE), Par true q W F → (∀ p ∈ O, k ≤ p.t) → (O.map (·.t)).Pairwise (· ≤ ·) → (∀ p ∈ W, p.t ≤ k) →
    ∃ M, O = M ++ (mkF k O F).1 ∧ Par true q (W ++ M) (mkF k O F).2 ∧ (∀ p ∈ W ++ M, p.t ≤ k) ∧ (∀ p ∈ (mkF k O F).1, k < p.t) ∧ ((mkF k O F).1.map (·.t)).Pairwise (· ≤ ·) := by
  intro O
  induction O with
  | nil => intro W F h _ _ hW; exact ⟨[], rfl, by simpa [mkF] using h, by simpa using hW, by simp [mkF], by simp [mkF]⟩
  | cons p O ih =>
    intro W F h hO hs hW
    rw [List.map_cons, List.pairwise_cons] at hs
    by_cases e : p.t = k
    · obtain ⟨M, h1, h2, h3, h4, h5⟩ := ih (W ++ [p]) (F ++ [p.o]) (Par.snoc W q F p (fun x hx => by rw [e]; exact hq x hx) h) (fun x hx => hO x (by simp [hx])) hs.2 (fun x hx => by
        rcases List.mem_append.1 hx with hx | hx
        · exact hW x hx
        · simp at hx; subst hx; omega)
      have em : mkF k (p :: O) F = mkF k O (F ++ [p.o]) := by rw [mkF, if_pos e]
      rw [em]
      refine ⟨p :: M, by rw [List.cons_append, ← h1], by simpa using h2, by simpa using h3, h4, h5⟩
    · have em : mkF k (p :: O) F = (p :: O, F) := by rw [mkF, if_neg e]
      have hp := hO p (by simp)
      rw [em]
      refine ⟨[], rfl, by simpa using h, by simpa using hW, fun x hx => ?_, by simpa using hs⟩
      rcases List.mem_cons.1 hx with rfl | hx
      · omega
      · have := hs.1 x.t (List.mem_map_of_mem hx)
        omega

/-- The form that the client has made of its next edit, is what the queue makes of it. -/
theorem life_queue (e : Pc) (l : List Ev) : ∀ (k : Nat) (q : List (Int × OpE)) (W O : List Pc) (F : List OpE), Par true q W F → (∀ x ∈ q, x.1 ≤ k) → (∀ p ∈ W, p.t ≤ k) → (∀ p ∈ O, (k : Int) ≤ p.t) → (O.map (·.t)).Pairwise (· ≤ ·) →
    W ++ O = owns l ++ [e] → TagOk k l → e.t ≤ k + l.length → lifeF k O F l = [(thrQ e.o (dropQ (srvQ k q l) e.t) true).1] := by
  induction l with
  | nil =>
    intro k q W O F h hq hW hO hs hown _ he
    obtain ⟨M, h1, h2, h3, h4, -⟩ := mkF_par (k := (k : Int)) hq O W F h hO hs hW
    simp only [lifeF, srvQ, owns, List.nil_append, List.length_nil] at *
    have hnil : (mkF k O F).1 = [] := by
      rcases List.eq_nil_or_concat (mkF k O F).1 with h0 | ⟨A, x, h0⟩
      · exact h0
      · exfalso
        have hx := h4 x (by rw [h0]; simp)
        have h5 : W ++ (M ++ (A ++ [x])) = [e] := by rw [← hown]; conv => rhs; rw [h1, h0]; simp
        have : x = e := by
          have := congrArg List.getLast? h5
          simpa using this
        subst this
        omega
    rw [hnil, List.append_nil] at h1
    rw [← h1, hown] at h2
    cases hB : (mkF k O F).2 with
    | nil => rw [hB] at h2; exact h2.elim
    | cons b B =>
      rw [hB] at h2
      obtain ⟨h6, h7⟩ := h2
      rw [Par.nil h7, ← h6]
  | cons ev l ih =>
    intro k q W O F h hq hW hO hs hown htag he
    obtain ⟨M, h1, h2, h3, h4, h5⟩ := mkF_par (k := (k : Int)) hq O W F h hO hs hW
    have hown' : (W ++ M) ++ (mkF k O F).1 = owns (ev :: l) ++ [e] := by rw [← hown, List.append_assoc, ← h1]
    cases ev with
    | own p =>
      simp only [lifeF, srvQ, owns, TagOk, List.cons_append, List.length_cons] at *
      cases hWM : W ++ M with
      | nil =>
        exfalso
        rw [hWM, List.nil_append] at hown'
        have := h4 p (by rw [hown']; simp)
        have := htag.1
        omega
      | cons x W' =>
        rw [hWM, List.cons_append] at hown'
        injection hown' with hx hr
        subst hx
        rw [hWM] at h2 h3
        cases hB : (mkF k O F).2 with
        | nil => rw [hB] at h2; exact h2.elim
        | cons b B =>
          rw [hB] at h2
          simp only [List.drop_succ_cons, List.drop_zero]
          refine ih (k + 1) _ W' _ B h2.2 (fun y hy => ?_) (fun y hy => ?_) (fun y hy => ?_) h5 hr htag.2 (by omega)
          · have := thrQ_all (p := fun m => m ≤ (k : Int)) (fun z hz => hq z (dropQ_mem hz)) y hy
            omega
          · have := h3 y (by simp [hy])
            omega
          · have := h4 y hy
            omega
    | oth r =>
      simp only [lifeF, srvQ, owns, TagOk, List.length_cons] at *
      refine ih (k + 1) _ (W ++ M) _ _ (Par.more (W ++ M) q _ ((k : Int) + 1) r (fun y hy => by have := h3 y hy; omega) h2) (fun y hy => ?_) (fun y hy => ?_) (fun y hy => ?_) h5 hown' htag (by omega)
      · rcases List.mem_append.1 hy with hy | hy
        · have := hq y hy
          omega
        · simp at hy
          subst hy
          simp
      · have := h3 y hy
        omega
      · have := h4 y hy
        omega

end Go.Proofs.YtilidolbplglcaaGreatDoor

/-! Bq -/
namespace Go.Proofs.YtilidolbplglcaaGreatDoor
open Go.RowKit
set_option linter.unusedVariables false

/-- By how much an operation makes a text longer. -/
def gr (o : OpE) : Int := if o.kind = 1 then 1 else if o.kind = 2 then -1 else 0
def grL (l : List OpE) : Int := (l.map gr).sum
theorem grL_nil : grL [] = 0 := rfl
theorem grL_cons (o : OpE) (l : List OpE) : grL (o :: l) = gr o + grL l := by simp [grL]
theorem grL_app (l m : List OpE) : grL (l ++ m) = grL l + grL m := by simp [grL]

theorem gr_shift (a b : OpE) (f : Bool) : gr (shiftP a b f) = if a.kind = 2 ∧ b.kind = 2 ∧ a.pos = b.pos then 0 else gr a := by
  unfold shiftP
  by_cases h : (a.kind = 1 ∨ a.kind = 2) ∧ (b.kind = 1 ∨ b.kind = 2)
  · rw [if_neg (fun hn => hn h)]
    by_cases h2 : a.kind = 2 ∧ b.kind = 2 ∧ a.pos = b.pos
    · rw [if_pos h2, if_pos h2]
      rfl
    · rw [if_neg h2, if_neg h2]
      split
      · rfl
      · rfl
  · rw [if_pos h, if_neg (fun h2 => h ⟨.inr h2.1, .inr h2.2.1⟩)]
theorem gr_sq (a b : OpE) (f g : Bool) : gr (shiftP a b f) + gr b = gr (shiftP b a g) + gr a := by
  rw [gr_shift, gr_shift]
  by_cases h : a.kind = 2 ∧ b.kind = 2 ∧ a.pos = b.pos
  · rw [if_pos h, if_pos ⟨h.2.1, h.1, h.2.2.symm⟩]
    simp [gr, h.1, h.2.1]
  · rw [if_neg h, if_neg (fun h2 => h ⟨h2.2.1, h2.1, h2.2.2.symm⟩)]
    omega
theorem gr_through (l : List OpE) : ∀ (op : OpE) (f : Bool), gr (throughP op l f).1 + grL l = gr op + grL (throughP op l f).2 := by
  induction l with
  | nil => intro op f; simp [throughP, grL_nil]
  | cons x l ih =>
    intro op f
    have h1 := ih (shiftP op x (!f)) f
    have h2 := gr_sq op x (!f) f
    simp only [throughP, grL_cons]
    omega

/-- The queue, carried past edits that are pending. -/
def pastQ : List (Int × OpE) → List Pc → List (Int × OpE)
  | q, [] => q
  | q, p :: W => pastQ (thrQ p.o (dropQ q p.t) true).2 W
theorem pastQ_all {P : Int → Prop} (W : List Pc) : ∀ q, (∀ x ∈ q, P x.1) → ∀ x ∈ pastQ q W, P x.1 := by
  induction W with
  | nil => intro q h; exact h
  | cons p W ih => intro q h; exact ih _ (thrQ_all (fun z hz => h z (dropQ_mem hz)))
theorem pastQ_more (W : List Pc) : ∀ (q : List (Int × OpE)) (F : List OpE) (m : Int) (r : OpE), Par true q W F → (∀ p ∈ W, p.t < m) → pastQ (q ++ [(m, r)]) W = pastQ q W ++ [(m, (throughP r F false).1)] := by
  induction W with
  | nil =>
    intro q F m r h _
    rw [Par.nil h]
    rfl
  | cons p W ih =>
    intro q F m r h hW
    cases F with
    | nil => exact h.elim
    | cons b F =>
      have hp := hW p (by simp)
      simp only [pastQ, throughP]
      rw [dropQ_app (by simp; exact hp), thrQ_app, h.1]
      simp only [thrQ]
      exact ih _ F m _ h.2 (fun y hy => hW y (by simp [hy]))

theorem Par.split (W : List Pc) (e : Pc) : ∀ (q : List (Int × OpE)) (F : List OpE), Par true q (W ++ [e]) F → ∃ F1 b, F = F1 ++ [b] ∧ Par true q W F1 := by
  induction W with
  | nil =>
    intro q F h
    cases F with
    | nil => exact h.elim
    | cons b F =>
      obtain ⟨-, h2⟩ := h
      exact ⟨[], b, by rw [Par.nil h2]; rfl, trivial⟩
  | cons p W ih =>
    intro q F h
    cases F with
    | nil => exact h.elim
    | cons b F =>
      obtain ⟨F1, c, rfl, h3⟩ := ih _ F h.2
      exact ⟨b :: F1, c, rfl, h.1, h3⟩

/-- The text's length behind these records, N ahead of them. -/
def srvN : Nat → List (Int × OpE) → Int → List Ev → Int
  | _, _, N, [] => N
  | R, q, N, .own p :: l => srvN (R + 1) (thrQ p.o (dropQ q p.t) true).2 (N + gr (thrQ p.o (dropQ q p.t) true).1) l
  | R, q, N, .oth r :: l => srvN (R + 1) (q ++ [((R : Int) + 1, r)]) (N + gr r) l

/-- Behind the making of the last edit: the length of the text it was made at, out of the queue. -/
theorem len_queue (e : Pc) (n : Int) (l : List Ev) : ∀ (k : Nat) (q : List (Int × OpE)) (W : List Pc) (F : List OpE) (N : Int), Par true q W F → (∀ p ∈ W, p.t ≤ k) → e.t ≤ k → W = owns l →
    N + grL F = n + grL ((dropQ (pastQ q W) e.t).map (·.2)) → srvN k q N l = n + grL ((dropQ (srvQ k q l) e.t).map (·.2)) := by
  induction l with
  | nil =>
    intro k q W F N h hW he hown hn
    simp only [owns] at hown
    subst hown
    rw [Par.nil h, grL_nil] at hn
    simp only [srvN, srvQ, pastQ] at *
    omega
  | cons ev l ih =>
    intro k q W F N h hW he hown hn
    cases ev with
    | own p =>
      simp only [owns] at hown
      subst hown
      cases F with
      | nil => exact h.elim
      | cons b F =>
        obtain ⟨h1, h2⟩ := h
        simp only [srvN, srvQ]
        rw [h1]
        refine ih (k + 1) _ (owns l) F _ h2 (fun y hy => by have := hW y (by simp [hy]); omega) (by omega) rfl ?_
        rw [grL_cons] at hn
        simp only [pastQ] at hn
        omega
    | oth r =>
      simp only [owns] at hown
      subst hown
      simp only [srvN, srvQ]
      refine ih (k + 1) _ (owns l) _ _ (Par.more (owns l) q F ((k : Int) + 1) r (fun y hy => by have := hW y hy; omega) h) (fun y hy => by have := hW y hy; omega) (by omega) rfl ?_
      rw [pastQ_more (owns l) q F ((k : Int) + 1) r h (fun y hy => by have := hW y hy; omega), dropQ_app (by simp; omega), List.map_append, grL_app]
      simp only [List.map_cons, List.map_nil, grL_cons, grL_nil, Bool.not_true]
      have := gr_through F r false
      omega

end Go.Proofs.YtilidolbplglcaaGreatDoor
