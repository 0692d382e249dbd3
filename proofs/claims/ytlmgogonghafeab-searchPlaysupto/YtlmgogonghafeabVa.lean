/-
  Operations: which are valid, which fit: the program and the document.
-/
import Derived.Test.YtlmgogonghafeabMA
import Derived.WalkKit
import Derived.WalkSpells
import Derived.WalkLawsBesides
namespace Go.Proofs.Ytlmgogonghafeab
open Go.RowKit
set_option linter.unusedVariables false



structure OpE where
  kind : Int
  pos : Int
  ch : Int
  cl : Int
  sq : Int

def OpE.val (o : OpE) : Value := .agg #[.int .i64 o.kind, .int .i64 o.pos, .int .u8 o.ch, .int .i64 o.cl, .int .i64 o.sq]

def inR (x l m : Int) : Bool := decide (l ≤ x ∧ x ≤ m)
def holdP (k c : Int) : Bool := if k = 1 then inR c 32 126 else decide (c = 0)
def pointP (k p : Int) : Bool := if k = 0 then decide (p = 0) else inR p 0 4095

/-- The error of an operation, 0 where it can be one. -/
def validP (o : OpE) : Int :=
  if o.kind ≠ 0 ∧ o.kind ≠ 1 ∧ o.kind ≠ 2 then 40
  else if (inR o.cl 1 64 && inR o.sq 1 64) = false then 41
  else if holdP o.kind o.ch = false then 42
  else if pointP o.kind o.pos = false then 43
  else 0

/-- The error of an operation at a text of n characters. -/
def fitsP (n : Int) (o : OpE) : Int :=
  if validP o ≠ 0 then validP o
  else if inR n 0 4096 = false ∨ (o.kind = 1 ∧ n = 4096) then 44
  else if (o.kind = 1 ∧ n < o.pos) ∨ (o.kind = 2 ∧ n ≤ o.pos) then 43
  else 0

theorem within_any (x l m : Int) (w : World) : Calls Try.prog 46 #[.int .i64 x, .int .i64 l, .int .i64 m] w fun e w' => e = .returned (.bool (inR x l m)) ∧ w = w' := by
  by_cases h1 : l ≤ x
  · by_cases h2 : x ≤ m
    · rw [show inR x l m = true from by simp [inR, h1, h2]]
      go_enter Try.func46, Try.ntmps46
      go_wp2
      go_ret
      exact ⟨rfl, rfl⟩
    · rw [show inR x l m = false from by simp [inR, h1]; omega]
      go_enter Try.func46, Try.ntmps46
      go_wp2
      go_ret
      exact ⟨rfl, rfl⟩
  · rw [show inR x l m = false from by simp [inR]; omega]
    go_enter Try.func46, Try.ntmps46
    go_wp2
    go_ret
    exact ⟨rfl, rfl⟩

theorem mayHold_any (k c : Int) (w : World) (h0 : 0 ≤ c) (h1 : c ≤ 255) : Calls Try.prog 63 #[.int .i64 k, .int .u8 c] w fun e w' => e = .returned (.bool (holdP k c)) ∧ w = w' := by
  by_cases hk : k = 1
  · subst hk
    rw [show holdP 1 c = inR c 32 126 from by simp [holdP]]
    have hw : IntKind.i64.wrap c = c := by rw [IntKind.wrap_i64]; omega
    go_enter Try.func63, Try.ntmps63
    go_wp2_with fail
    first
      | refine (within_any c 32 126 _).mono ?_
      | (rw [hw]; refine (within_any c 32 126 _).mono ?_)
    rintro e w1 ⟨rfl, rfl⟩
    go_wp2
    go_ret
    exact ⟨rfl, rfl⟩
  · by_cases hc : c = 0
    · rw [show holdP k c = true from by simp [holdP, hk, hc]]
      go_enter Try.func63, Try.ntmps63
      go_wp2
      go_ret
      exact ⟨rfl, rfl⟩
    · rw [show holdP k c = (c == 0) from by simp [holdP, hk, hc]]
      go_enter Try.func63, Try.ntmps63
      go_wp2
      go_ret
      exact ⟨rfl, rfl⟩

theorem mayPoint_any (k p : Int) (w : World) : Calls Try.prog 64 #[.int .i64 k, .int .i64 p] w fun e w' => e = .returned (.bool (pointP k p)) ∧ w = w' := by
  by_cases hk : k = 0
  · by_cases hc : p = 0
    · rw [show pointP k p = true from by simp [pointP, hk, hc]]
      go_enter Try.func64, Try.ntmps64
      go_wp2
      go_ret
      exact ⟨rfl, rfl⟩
    · rw [show pointP k p = (p == 0) from by simp [pointP, hk, hc]]
      go_enter Try.func64, Try.ntmps64
      go_wp2
      go_ret
      exact ⟨rfl, rfl⟩
  · rw [show pointP k p = inR p 0 4095 from by simp [pointP, hk]]
    go_enter Try.func64, Try.ntmps64
    go_wp2_with fail
    refine (within_any p 0 4095 _).mono ?_
    rintro e w1 ⟨rfl, rfl⟩
    go_wp2
    go_ret
    exact ⟨rfl, rfl⟩

set_option maxHeartbeats 1000000 in
theorem valid_of (k p c l s r : Int) (w : World) (h0 : 0 ≤ c) (h1 : c ≤ 255) (hr : r = validP ⟨k, p, c, l, s⟩) (hk : k = 0 ∨ k = 1 ∨ k = 2) :
    Calls Try.prog 45 #[.agg #[.int .i64 k, .int .i64 p, .int .u8 c, .int .i64 l, .int .i64 s]] w fun e w' => e = .returned (.int .i64 r) ∧ Below w.heap.size w w' := by
  have hK : ¬ (k ≠ 0 ∧ k ≠ 1 ∧ k ≠ 2) := by omega
  simp only [validP, if_neg hK] at hr
  clear hK
  have H0 := hd h0
  have H1 := hd h1
  clear h0 h1
  cases hb1 : inR l 1 64
  · rw [hb1] at hr
    simp at hr
    rcases hk with hk | hk | hk <;> subst hk <;> subst hr <;>
    · go_enter Try.func45, Try.ntmps45
      go_wp2_with fail
      refine (within_any _ 1 64 _).mono ?_
      rintro e w1 ⟨rfl, rfl⟩
      rw [hb1]
      go_wp2
      go_ret
      exact ⟨rfl, (Below.refl _ _).alloc (Nat.le_refl _) _⟩
  · cases hb2 : inR s 1 64
    · rw [hb1, hb2] at hr
      simp at hr
      rcases hk with hk | hk | hk <;> subst hk <;> subst hr <;>
      · go_enter Try.func45, Try.ntmps45
        go_wp2_with fail
        refine (within_any _ 1 64 _).mono ?_
        rintro e w1 ⟨rfl, rfl⟩
        rw [hb1]
        go_wp2_with fail
        refine (within_any _ 1 64 _).mono ?_
        rintro e w1 ⟨rfl, rfl⟩
        rw [hb2]
        go_wp2
        go_ret
        exact ⟨rfl, (Below.refl _ _).alloc (Nat.le_refl _) _⟩
    · cases hb3 : holdP k c
      · rw [hb1, hb2, hb3] at hr
        simp at hr
        rcases hk with hk | hk | hk <;> subst hk <;> subst hr <;>
        · go_enter Try.func45, Try.ntmps45
          go_wp2_with fail
          refine (within_any _ 1 64 _).mono ?_
          rintro e w1 ⟨rfl, rfl⟩
          rw [hb1]
          go_wp2_with fail
          refine (within_any _ 1 64 _).mono ?_
          rintro e w1 ⟨rfl, rfl⟩
          rw [hb2]
          go_wp2_with fail
          refine (mayHold_any _ _ _ H0.out H1.out).mono ?_
          rintro e w1 ⟨rfl, rfl⟩
          rw [hb3]
          go_wp2
          go_ret
          exact ⟨rfl, (Below.refl _ _).alloc (Nat.le_refl _) _⟩
      · cases hb4 : pointP k p
        · rw [hb1, hb2, hb3, hb4] at hr
          simp at hr
          rcases hk with hk | hk | hk <;> subst hk <;> subst hr <;>
          · go_enter Try.func45, Try.ntmps45
            go_wp2_with fail
            refine (within_any _ 1 64 _).mono ?_
            rintro e w1 ⟨rfl, rfl⟩
            rw [hb1]
            go_wp2_with fail
            refine (within_any _ 1 64 _).mono ?_
            rintro e w1 ⟨rfl, rfl⟩
            rw [hb2]
            go_wp2_with fail
            refine (mayHold_any _ _ _ H0.out H1.out).mono ?_
            rintro e w1 ⟨rfl, rfl⟩
            rw [hb3]
            go_wp2_with fail
            refine (mayPoint_any _ _ _).mono ?_
            rintro e w1 ⟨rfl, rfl⟩
            rw [hb4]
            go_wp2
            go_ret
            exact ⟨rfl, (Below.refl _ _).alloc (Nat.le_refl _) _⟩
        · rw [hb1, hb2, hb3, hb4] at hr
          simp at hr
          rcases hk with hk | hk | hk <;> subst hk <;> subst hr <;>
          · go_enter Try.func45, Try.ntmps45
            go_wp2_with fail
            refine (within_any _ 1 64 _).mono ?_
            rintro e w1 ⟨rfl, rfl⟩
            rw [hb1]
            go_wp2_with fail
            refine (within_any _ 1 64 _).mono ?_
            rintro e w1 ⟨rfl, rfl⟩
            rw [hb2]
            go_wp2_with fail
            refine (mayHold_any _ _ _ H0.out H1.out).mono ?_
            rintro e w1 ⟨rfl, rfl⟩
            rw [hb3]
            go_wp2_with fail
            refine (mayPoint_any _ _ _).mono ?_
            rintro e w1 ⟨rfl, rfl⟩
            rw [hb4]
            go_wp2
            go_ret
            exact ⟨rfl, (Below.refl _ _).alloc (Nat.le_refl _) _⟩

theorem valid_any (k p c l s : Int) (w : World) (h0 : 0 ≤ c) (h1 : c ≤ 255) :
    Calls Try.prog 45 #[.agg #[.int .i64 k, .int .i64 p, .int .u8 c, .int .i64 l, .int .i64 s]] w fun e w' => e = .returned (.int .i64 (validP ⟨k, p, c, l, s⟩)) ∧ Below w.heap.size w w' := by
  by_cases hk : k = 0 ∨ k = 1 ∨ k = 2
  · exact valid_of k p c l s _ w h0 h1 rfl hk
  · have hK : k ≠ 0 ∧ k ≠ 1 ∧ k ≠ 2 := by omega
    rw [show validP ⟨k, p, c, l, s⟩ = 40 from by unfold validP; rw [if_pos hK]]
    obtain ⟨h2, h3, h4⟩ := hK
    have b2 : (k != 0) = true := by simpa using h2
    have b3 : (k != 1) = true := by simpa using h3
    have b4 : (k != 2) = true := by simpa using h4
    clear hk h0 h1 h2 h3 h4
    go_enter Try.func45, Try.ntmps45
    go_wp2
    go_ret
    exact ⟨rfl, (Below.refl _ _).alloc (Nat.le_refl _) _⟩

theorem validP_range (o : OpE) : 0 ≤ validP o ∧ validP o ≤ 43 := by
  unfold validP
  repeat' split
  all_goals omega

/-- An operation that is valid: its kind and its place. -/
theorem validP_zero {o : OpE} (h : validP o = 0) : (o.kind = 0 ∨ o.kind = 1 ∨ o.kind = 2) ∧ 0 ≤ o.pos ∧ o.pos ≤ 4095 ∧ (o.kind = 0 → o.pos = 0) := by
  unfold validP at h
  by_cases h1 : o.kind ≠ 0 ∧ o.kind ≠ 1 ∧ o.kind ≠ 2
  · rw [if_pos h1] at h; omega
  · rw [if_neg h1] at h
    cases h2 : (inR o.cl 1 64 && inR o.sq 1 64)
    · rw [h2] at h; simp at h
    · rw [h2] at h
      cases h3 : holdP o.kind o.ch
      · rw [h3] at h; simp at h
      · rw [h3] at h
        cases h4 : pointP o.kind o.pos
        · rw [h4] at h; simp at h
        · refine ⟨by omega, ?_⟩
          unfold pointP at h4
          split at h4
          · have := of_decide_eq_true h4
            omega
          · have := of_decide_eq_true h4
            omega

/-- An operation that fits. -/
theorem fitsP_zero {n : Int} {o : OpE} (h : fitsP n o = 0) : validP o = 0 ∧ 0 ≤ n ∧ n ≤ 4096 ∧ (o.kind = 0 ∨ (o.kind = 1 ∧ n < 4096 ∧ o.pos ≤ n) ∨ (o.kind = 2 ∧ o.pos < n)) ∧ 0 ≤ o.pos := by
  unfold fitsP at h
  by_cases h1 : validP o = 0
  · rw [if_neg (by omega)] at h
    obtain ⟨hk, hp, hq, _⟩ := validP_zero h1
    split at h
    · omega
    · rename_i h2
      split at h
      · omega
      · rename_i h3
        have h4 : inR n 0 4096 = true := by
          cases hh : inR n 0 4096
          · exact absurd (.inl hh) h2
          · rfl
        have h5 := of_decide_eq_true h4
        refine ⟨h1, h5.1, h5.2, ?_, hp⟩
        rcases hk with hk | hk | hk
        · exact .inl hk
        · exact .inr (.inl ⟨hk, by omega, by omega⟩)
        · exact .inr (.inr ⟨hk, by omega⟩)
  · rw [if_pos h1] at h
    omega

end Go.Proofs.Ytlmgogonghafeab
