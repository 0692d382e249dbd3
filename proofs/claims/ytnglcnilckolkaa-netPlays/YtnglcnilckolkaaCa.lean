/-
  NetCounts: given, more, asked.
-/
import Derived.Test.YtnglcnilckolkaaLost
namespace Go.Proofs.Ytnglcnilckolkaa
open Go.RowKit
set_option linter.unusedVariables false

theorem given_any (a : Option Addr) (n c : Nat) (xs : List Int) (w : World) (h : IsB w a n c xs) :
    Calls Try.prog 39 #[.slice a n c] w fun e w' => e = .returned (.slice a (min n 3000) c) ∧ w' = w := by
  have hnc : n ≤ c ∧ c ≤ 9223372036854775807 := ⟨h.2.1, h.2.2.1⟩
  clear h
  by_cases h : 3000 < n
  · have i1 : (3000 : Int) < (n : Int) := by omega
    have i2 : (3000 : Int) ≤ (c : Int) := by omega
    have R : Hid (min n 3000 = 3000) := by show _ = _; omega
    have i3 : 3000 ≤ c := by omega
    go_enter Try.func39, Try.ntmps39
    go_wp2
    go_ret
    rw [R.out]
    exact ⟨rfl, rfl⟩
  · have i1 : ¬ (3000 : Int) < (n : Int) := by omega
    have R : Hid (min n 3000 = n) := by show _ = _; omega
    go_enter Try.func39, Try.ntmps39
    go_wp2
    go_ret
    rw [R.out]
    exact ⟨rfl, rfl⟩

/-- One call of a script. -/
structure OpV where
  kind : Int
  which : Bool
  i : Int
  a : Int
  b : Int
  xs : List Int

def isPut (k : Int) : Prop := k = 1 ∨ k = 8 ∨ k = 4
def isOut (k : Int) : Prop := k = 2 ∨ k = 3
instance (k : Int) : Decidable (isPut k) := by unfold isPut; infer_instance
instance (k : Int) : Decidable (isOut k) := by unfold isOut; infer_instance
def moreP (k : Int) : Int := if isPut k then 1 else if isOut k then -1 else 0

theorem more_any (k : Int) (w : World) : Calls Try.prog 26 #[.int .i64 k] w fun e w' => e = .returned (.int .i64 (moreP k)) ∧ w' = w := by
  by_cases h1 : k = 1
  · subst h1
    go_enter Try.func26, Try.ntmps26
    go_wp2
    go_ret
    exact ⟨rfl, rfl⟩
  by_cases h8 : k = 8
  · subst h8
    go_enter Try.func26, Try.ntmps26
    go_wp2
    go_ret
    exact ⟨rfl, rfl⟩
  by_cases h4 : k = 4
  · subst h4
    go_enter Try.func26, Try.ntmps26
    go_wp2
    go_ret
    exact ⟨rfl, rfl⟩
  by_cases h2 : k = 2
  · subst h2
    go_enter Try.func26, Try.ntmps26
    go_wp2
    go_ret
    exact ⟨rfl, rfl⟩
  by_cases h3 : k = 3
  · subst h3
    go_enter Try.func26, Try.ntmps26
    go_wp2
    go_ret
    exact ⟨rfl, rfl⟩
  · have R : Hid (moreP k = 0) := by show _ = _; unfold moreP; rw [if_neg (by unfold isPut; omega), if_neg (by unfold isOut; omega)]
    go_enter Try.func26, Try.ntmps26
    go_wp2
    go_ret
    exact ⟨by rw [R.out]; rfl, rfl⟩

def askE (cl : Int) (G : List DG) (o : OpV) : Int :=
  if o.kind = 1 ∨ o.kind = 8 then sendE cl G.length o.a o.b (o.xs.take 3000).length
  else if isOut o.kind then (if isAt G.length o.i then 0 else 74)
  else if o.kind = 4 then doubleE G.length o.i
  else flipE G o.i o.a o.b
def askG (cl : Int) (G : List DG) (o : OpV) : List DG :=
  if o.kind = 1 ∨ o.kind = 8 then sendG cl G o.a o.b (o.xs.take 3000)
  else if isOut o.kind then (if isAt G.length o.i then without G o.i.toNat else G)
  else if o.kind = 4 then doubleG G o.i
  else flipG G o.i o.a o.b

/-- What a call that was taken does to what is in flight. -/
def Shape (G G' : List DG) (k i : Int) : Prop :=
  (isPut k ∧ ∃ d, G' = G ++ [d]) ∨ (isOut k ∧ ∃ j : Nat, i = j ∧ j < G.length ∧ G' = without G j) ∨ (¬ isPut k ∧ ¬ isOut k ∧ ∃ (j : Nat) (d : DG), i = j ∧ j < G.length ∧ G' = G.set j d)

theorem flipE_at {G : List DG} {i a m : Int} (h : flipE G i a m = 0) : isAt G.length i := by
  unfold flipE at h
  by_cases hi : isAt G.length i
  · exact hi
  · rw [if_neg hi] at h
    exact absurd h (by decide)

theorem ask_ok {cl : Int} {G : List DG} {o : OpV} (h : askE cl G o = 0) : Shape G (askG cl G o) o.kind o.i := by
  unfold askE at h
  unfold askG
  by_cases h1 : o.kind = 1 ∨ o.kind = 8
  · rw [if_pos h1] at h ⊢
    exact .inl ⟨by unfold isPut; omega, _, sendG_yes h⟩
  · rw [if_neg h1] at h ⊢
    by_cases h2 : isOut o.kind
    · rw [if_pos h2] at h ⊢
      by_cases hi : isAt G.length o.i
      · rw [if_pos hi]
        have p1 := hi.1
        have p2 := hi.2
        exact .inr (.inl ⟨h2, o.i.toNat, by omega, by omega, rfl⟩)
      · rw [if_neg hi] at h
        exact absurd h (by decide)
    · rw [if_neg h2] at h ⊢
      by_cases h4 : o.kind = 4
      · rw [if_pos h4] at h ⊢
        exact .inl ⟨by unfold isPut; omega, _, doubleG_yes h⟩
      · rw [if_neg h4] at h ⊢
        have hi := flipE_at h
        have p1 := hi.1
        have p2 := hi.2
        exact .inr (.inr ⟨by unfold isPut; omega, h2, o.i.toNat, _, by omega, by omega, flipG_yes h⟩)

theorem ask_no {cl : Int} {G : List DG} {o : OpV} (h : askE cl G o ≠ 0) : askG cl G o = G := by
  unfold askE at h
  unfold askG
  by_cases h1 : o.kind = 1 ∨ o.kind = 8
  · rw [if_pos h1] at h ⊢
    exact sendG_no h
  · rw [if_neg h1] at h ⊢
    by_cases h2 : isOut o.kind
    · rw [if_pos h2] at h ⊢
      by_cases hi : isAt G.length o.i
      · rw [if_pos hi] at h
        exact absurd rfl h
      · rw [if_neg hi]
    · rw [if_neg h2] at h ⊢
      by_cases h4 : o.kind = 4
      · rw [if_pos h4] at h ⊢
        exact doubleG_no h
      · rw [if_neg h4] at h ⊢
        exact flipG_no h

theorem Shape.len {G G' : List DG} {k i : Int} (h : Shape G G' k i) : (G'.length : Int) = G.length + moreP k := by
  unfold moreP
  rcases h with ⟨hk, d, rfl⟩ | ⟨hk, j, -, hj, rfl⟩ | ⟨hk1, hk2, j, d, -, hj, rfl⟩
  · rw [if_pos hk]
    simp
  · have := without_len hj
    rw [if_neg (by unfold isPut; unfold isOut at hk; omega), if_pos hk]
    omega
  · rw [if_neg hk1, if_neg hk2]
    simp

def opv (o : OpV) (a : Option Addr) (n c : Nat) : Value := .agg #[.int .i64 o.kind, .bool o.which, .int .i64 o.i, .int .i64 o.a, .int .i64 o.b, .slice a n c]

theorem NowB.below {w u w' : World} {x : Nat} {cl : Int} {G : List DG} {B : Nat} {S : Nat → Prop} (h : NowB u w' x cl G B S) (hb : Below w.heap.size w u) : NowB w w' x cl G B S := by
  obtain ⟨S', h1, h2, h3⟩ := h
  have := hb.size
  exact ⟨S', h1, fun k hk => (h2 k hk).imp id (fun h => by omega), (Fr.of_below hb).trans h3⟩
theorem NowB.on {w u w' : World} {x : Nat} {cl : Int} {G : List DG} {B : Nat} {S : Nat → Prop} (h : NowB w u x cl G B S) (hb : Below u.heap.size u w') : NowB w w' x cl G B S := by
  obtain ⟨S', h1, h2, h3⟩ := h
  exact ⟨S', h1.below hb, h2, h3.trans (Fr.of_below hb)⟩
theorem NowB.mono {w w' : World} {x : Nat} {cl : Int} {G : List DG} {B B' : Nat} {S : Nat → Prop} (h : NowB w w' x cl G B S) (hB : B ≤ B') : NowB w w' x cl G B' S := by
  obtain ⟨S', h1, h2, h3⟩ := h
  exact ⟨S', h1.mono hB, h2, h3⟩

end Go.Proofs.Ytnglcnilckolkaa
