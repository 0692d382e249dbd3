/-
  EncodeItem of the document, without memory.
-/
import Derived.Test.YtibnlfdnnlbeeaaDoorZb
import Derived.Test.YtibnlfdnnlbeeaaDoorRw
namespace Go.Proofs.YtibnlfdnnlbeeaaDoor
open Go.RowKit
set_option linter.unusedVariables false

/-- The bytes of the first k fields of a layout. -/
def wrP (M : Nat → Int) (base k : Nat) : List Int := (List.range k).flatMap fun i => fldB M (base + i)
theorem wrP_zero (M : Nat → Int) (base : Nat) : wrP M base 0 = [] := rfl
theorem wrP_succ (M : Nat → Int) (base k : Nat) : wrP M base (k + 1) = wrP M base k ++ fldB M (base + k) := by
  simp [wrP, List.range_succ]
theorem wrP_len (M : Nat → Int) (base k : Nat) : (wrP M base k).length ≤ 2 * k := by
  induction k with
  | zero => simp [wrP]
  | succ k ih =>
    rw [wrP_succ, List.length_append]
    have : (fldB M (base + k)).length ≤ 2 := by
      unfold fldB
      split <;> simp
    omega

/-- The fields in the order of the document. -/
def ordP (i : Nat) : Nat := [1, 8, 9, 10, 11, 12, 13].getD i 0
theorem ordP_num (i : Nat) (h : i < 7) : numAt (ordP i) = i ∧ hasP 16130 (ordP i) = true ∧ 1 ≤ ordP i ∧ ordP i < 14 := by
  have : i = 0 ∨ i = 1 ∨ i = 2 ∨ i = 3 ∨ i = 4 ∨ i = 5 ∨ i = 6 := by omega
  rcases this with rfl | rfl | rfl | rfl | rfl | rfl | rfl <;> decide
theorem ordP_all (f : Nat) (hf : f < 14) (hp : hasP 16130 f = true) : ∃ i, i < 7 ∧ ordP i = f := by
  have : f = 0 ∨ f = 1 ∨ f = 2 ∨ f = 3 ∨ f = 4 ∨ f = 5 ∨ f = 6 ∨ f = 7 ∨ f = 8 ∨ f = 9 ∨ f = 10 ∨ f = 11 ∨ f = 12 ∨ f = 13 := by omega
  rcases this with rfl | rfl | rfl | rfl | rfl | rfl | rfl | rfl | rfl | rfl | rfl | rfl | rfl | rfl
  all_goals first | (exact absurd hp (by decide)) | exact ⟨0, by omega, rfl⟩ | exact ⟨1, by omega, rfl⟩ | exact ⟨2, by omega, rfl⟩ | exact ⟨3, by omega, rfl⟩ | exact ⟨4, by omega, rfl⟩ | exact ⟨5, by omega, rfl⟩ | exact ⟨6, by omega, rfl⟩
theorem ordP_lt (i j : Nat) (hi : i < 7) (hj : j < 7) (h : ordP i < ordP j) : i < j := by
  have a : i = 0 ∨ i = 1 ∨ i = 2 ∨ i = 3 ∨ i = 4 ∨ i = 5 ∨ i = 6 := by omega
  have b : j = 0 ∨ j = 1 ∨ j = 2 ∨ j = 3 ∨ j = 4 ∨ j = 5 ∨ j = 6 := by omega
  rcases a with rfl | rfl | rfl | rfl | rfl | rfl | rfl <;> rcases b with rfl | rfl | rfl | rfl | rfl | rfl | rfl <;> first | omega | exact absurd h (by decide)

theorem MI_eq (x : It) (f : Nat) (h1 : 1 ≤ f) : MI x f = VX x f := by
  have : f ≠ 0 := by omega
  simp [MI, VX, this]

/-- What the document asks of a field. -/
def refOk (nm : Nat) (M : Nat → Int) (f : Nat) : Bool := if hasP nm f then holdsP M f else M f == 0
theorem allows_ref (x : It) (nm i : Nat) (hlt : i < 7) (hn : nm = 2 ∨ nm = 16128) : allowsP nm (VX x) (ordP i) = refOk nm (MI x) (ordP i) := by
  have a : i = 0 ∨ i = 1 ∨ i = 2 ∨ i = 3 ∨ i = 4 ∨ i = 5 ∨ i = 6 := by omega
  obtain ⟨k, ep, tg, ok, ps, ch, cl, sq⟩ := x
  rw [Bool.eq_iff_iff]
  by_cases h0 : ok = 0
  · subst h0
    rcases hn with rfl | rfl <;> rcases a with rfl | rfl | rfl | rfl | rfl | rfl | rfl <;> simp [allowsP, refOk, ordP, hasP, holdsP, fromP, toP, MI, VX, lo, hi] <;> omega
  · by_cases h1 : ok = 1
    · subst h1
      rcases hn with rfl | rfl <;> rcases a with rfl | rfl | rfl | rfl | rfl | rfl | rfl <;> simp [allowsP, refOk, ordP, hasP, holdsP, fromP, toP, MI, VX, lo, hi] <;> omega
    · rcases hn with rfl | rfl <;> rcases a with rfl | rfl | rfl | rfl | rfl | rfl | rfl <;> simp [allowsP, refOk, ordP, hasP, holdsP, fromP, toP, MI, VX, lo, hi, h0, h1] <;> omega

/-- All fields of the order up to k are as they may be. -/
def RokTo (x : It) (k : Nat) : Prop := ∀ i, i < k → refOk (nmP x.kind) (MI x) (ordP i) = true
theorem rok_all (x : It) (hn : nmP x.kind = 2 ∨ nmP x.kind = 16128) (h : RokTo x 7) : okTo (nmP x.kind) (VX x) 14 := fun f hf hp => by
  obtain ⟨i, hi, rfl⟩ := ordP_all f hf hp
  rw [allows_ref x _ i hi hn]
  exact h i hi
theorem rok_upto (x : It) (k : Nat) (hk : k < 7) (hn : nmP x.kind = 2 ∨ nmP x.kind = 16128) (h : RokTo x k) : okTo (nmP x.kind) (VX x) (ordP k) := fun f hf hp => by
  obtain ⟨i, hi, rfl⟩ := ordP_all f (by have := (ordP_num k hk).2.2.2; omega) hp
  rw [allows_ref x _ i hi hn]
  exact h i (ordP_lt i k hi hk hf)

/-- What EncodeItem of the document answers. -/
def ROut (w : World) (x : It) (e : Ending) (w' : World) : Prop := Below w.heap.size w w' ∧
  ((nmP x.kind = 0 ∧ e = .returned (.tuple #[.slice none 0 0, .int .i64 61, .int .i64 0])) ∨
   (nmP x.kind ≠ 0 ∧ okTo (nmP x.kind) (VX x) 14 ∧ ∃ v, e = .returned (.tuple #[v, .int .i64 0, .int .i64 (-1)]) ∧ OwnB w' w.heap.size v (bytesAt (nmP x.kind) (VX x) 14).length (bytesAt (nmP x.kind) (VX x) 14)) ∨
   (nmP x.kind ≠ 0 ∧ ∃ k, k < 14 ∧ okTo (nmP x.kind) (VX x) k ∧ hasP 16130 k = true ∧ allowsP (nmP x.kind) (VX x) k = false ∧ e = .returned (.tuple #[.slice none 0 0, .int .i64 63, .int .i64 ((numAt k : Int) + 1)])))

/-- The bytes of an item (none, if it may not be). -/
noncomputable def encP (x : It) : List Int := by
  classical
  exact if nmP x.kind ≠ 0 ∧ okTo (nmP x.kind) (VX x) 14 then bytesAt (nmP x.kind) (VX x) 14 else []
theorem encP_len (x : It) : (encP x).length ≤ 29 := by
  unfold encP
  split
  · have := bytesAt_len (nmP x.kind) (VX x) 14
    omega
  · simp
theorem encP_good {x : It} (h1 : nmP x.kind ≠ 0) (h2 : okTo (nmP x.kind) (VX x) 14) : encP x = bytesAt (nmP x.kind) (VX x) 14 := by
  unfold encP
  rw [if_pos ⟨h1, h2⟩]
theorem encP_bad {x : It} (h : ¬ (nmP x.kind ≠ 0 ∧ okTo (nmP x.kind) (VX x) 14)) : encP x = [] := by
  unfold encP
  rw [if_neg h]
theorem own_nil (w : World) (base : Nat) : OwnB w base (.slice none 0 0) 0 [] := ⟨rfl, .inl ⟨rfl, rfl⟩⟩

theorem not_all {nm : Nat} {V : Nat → Int} {k : Nat} (hk : k < 14) (hp : hasP 16130 k = true) (ha : allowsP nm V k = false) : ¬ okTo nm V 14 := fun h => by
  have := h k hk hp
  rw [ha] at this
  cases this
theorem first_one {nm : Nat} {V : Nat → Int} {k j : Nat} (h1 : okTo nm V k) (hp1 : hasP 16130 k = true) (ha1 : allowsP nm V k = false) (h2 : okTo nm V j) (hp2 : hasP 16130 j = true) (ha2 : allowsP nm V j = false) : k = j := by
  rcases Nat.lt_trichotomy k j with h | h | h
  · have := h2 k h hp1
    rw [ha1] at this
    cases this
  · exact h
  · have := h1 j h hp2
    rw [ha2] at this
    cases this

/-- The error of an item, as number and place (0, -1: none). -/
def ErrP (x : It) (c p : Int) : Prop :=
  (nmP x.kind = 0 ∧ c = 61 ∧ p = 0) ∨ (nmP x.kind ≠ 0 ∧ okTo (nmP x.kind) (VX x) 14 ∧ c = 0 ∧ p = -1) ∨
  (nmP x.kind ≠ 0 ∧ ∃ k, k < 14 ∧ okTo (nmP x.kind) (VX x) k ∧ hasP 16130 k = true ∧ allowsP (nmP x.kind) (VX x) k = false ∧ c = 63 ∧ p = (numAt k : Int) + 1)

theorem EncO.form2 {w w' : World} {x : It} {e : Ending} (h : EncO w x e w') : ∃ u v c p, e = .returned (.tuple #[u, v]) ∧ OwnB w' w.heap.size u (encP x).length (encP x) ∧ ErrP x c p ∧ ((v = .nilIface ∧ c = 0 ∧ p = -1) ∨ IsF w' v p c) := by
  rcases h.2 with ⟨h1, v, rfl, h2⟩ | ⟨h1, h2, v, rfl, h3⟩ | ⟨h1, k, hk, h2, h3, h4, v, rfl, h5⟩
  · refine ⟨_, v, 61, 0, rfl, ?_, .inl ⟨h1, rfl, rfl⟩, .inr h2⟩
    rw [encP_bad (fun h => h.1 h1)]
    exact own_nil _ _
  · refine ⟨v, _, 0, -1, rfl, ?_, .inr (.inl ⟨h1, h2, rfl, rfl⟩), .inl ⟨rfl, rfl, rfl⟩⟩
    rw [encP_good h1 h2]
    exact h3
  · refine ⟨_, v, 63, _, rfl, ?_, .inr (.inr ⟨h1, k, hk, h2, h3, h4, rfl, rfl⟩), .inr h5⟩
    rw [encP_bad (fun h => not_all hk h3 h4 h.2)]
    exact own_nil _ _
theorem ROut.form2 {w w' : World} {x : It} {e : Ending} (h : ROut w x e w') : ∃ u c p, e = .returned (.tuple #[u, .int .i64 c, .int .i64 p]) ∧ OwnB w' w.heap.size u (encP x).length (encP x) ∧ ErrP x c p := by
  rcases h.2 with ⟨h1, rfl⟩ | ⟨h1, h2, v, rfl, h3⟩ | ⟨h1, k, hk, h2, h3, h4, rfl⟩
  · refine ⟨_, 61, 0, rfl, ?_, .inl ⟨h1, rfl, rfl⟩⟩
    rw [encP_bad (fun h => h.1 h1)]
    exact own_nil _ _
  · refine ⟨v, 0, -1, rfl, ?_, .inr (.inl ⟨h1, h2, rfl, rfl⟩)⟩
    rw [encP_good h1 h2]
    exact h3
  · refine ⟨_, 63, _, rfl, ?_, .inr (.inr ⟨h1, k, hk, h2, h3, h4, rfl, rfl⟩)⟩
    rw [encP_bad (fun h => not_all hk h3 h4 h.2)]
    exact own_nil _ _
theorem ErrP.one {x : It} {c p c' p' : Int} (h : ErrP x c p) (h' : ErrP x c' p') : c = c' ∧ p = p' := by
  rcases h with ⟨a, rfl, rfl⟩ | ⟨a, b, rfl, rfl⟩ | ⟨a, k, k1, k2, k3, k4, rfl, rfl⟩ <;> rcases h' with ⟨a', rfl, rfl⟩ | ⟨a', b', rfl, rfl⟩ | ⟨a', j, j1, j2, j3, j4, rfl, rfl⟩
  · exact ⟨rfl, rfl⟩
  · exact absurd a a'
  · exact absurd a a'
  · exact absurd a' a
  · exact ⟨rfl, rfl⟩
  · exact absurd b (not_all j1 j3 j4)
  · exact absurd a' a
  · exact absurd b' (not_all k1 k3 k4)
  · obtain rfl := first_one k2 k3 k4 j2 j3 j4
    exact ⟨rfl, rfl⟩

theorem bytes_wr (x : It) (nm base len : Nat) (h : KL nm base len) (hk : nmP x.kind = nm) : (x.kind % 256) :: wrP (MI x) base len = bytesAt nm (VX x) 14 := by
  rcases h with ⟨rfl, rfl, rfl⟩ | ⟨rfl, rfl, rfl⟩
  · simp [bytesAt, wrP, List.range_succ, hasP, fldB, VX, MI]
  · simp [bytesAt, wrP, List.range_succ, hasP, fldB, VX, MI]
theorem fld_rng (x : It) (nm base len : Nat) (h : KL nm base len) (ho : okTo nm (VX x) 14) (i : Nat) (hi : i < len) : 0 ≤ MI x (base + i) ∧ MI x (base + i) ≤ 65535 := by
  have h14 : base + i < 14 := by have := h.fld i hi; omega
  have h1 : 1 ≤ base + i := by have := h.fld i hi; omega
  have hh := h.has i hi
  rw [MI_eq x _ h1]
  exact allows_rng nm _ (VX x) h14 (ho _ h14 (has_sub nm _ (by rcases h with ⟨rfl, -, -⟩ | ⟨rfl, -, -⟩ <;> simp) h14 hh))

end Go.Proofs.YtibnlfdnnlbeeaaDoor
