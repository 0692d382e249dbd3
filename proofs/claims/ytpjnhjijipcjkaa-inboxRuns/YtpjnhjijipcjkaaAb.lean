/-
  An outbox in memory; Last, Acked, Sent, New, Reset.
-/
import Derived.Test.YtpjnhjijipcjkaaAa
namespace Go.Proofs.Ytpjnhjijipcjkaa
open Go.RowKit
set_option linter.unusedVariables false

/-- An outbox, without memory. -/
structure St where
  W : Nat
  a : Nat
  s : Nat
  L : List Int

structure St.ok (p : St) : Prop where
  w1 : 1 ≤ p.W
  w2 : p.W ≤ 4096
  le : p.a ≤ p.s
  sl : p.s ≤ p.a + p.L.length
  few : p.a + p.L.length ≤ 4096

def St.last (p : St) : Nat := p.a + p.L.length
def pushE (p : St) : Int := if 4096 ≤ p.last then 81 else 0
def pushN (p : St) : Int := if 4096 ≤ p.last then 0 else p.last + 1
def pushS (p : St) (x : Int) : St := if 4096 ≤ p.last then p else { p with L := p.L ++ [x] }
def ackE (p : St) (n : Int) : Int := if n < 0 ∨ (p.s : Int) < n then 82 else 0
def ackS (p : St) (n : Int) : St := if (p.a : Int) < n ∧ n ≤ p.s then { p with a := n.toNat, L := p.L.drop (n.toNat - p.a) } else p
def dueN (p : St) : Nat := min p.W p.L.length
def dueS (p : St) : St := { p with s := max p.s (p.a + dueN p) }
def resetS (p : St) : St := ⟨p.W, 0, 0, []⟩
/-- Things with their numbers, from a + 1 on. -/
def items : Nat → List Int → List (Int × Int)
  | _, [] => []
  | a, x :: xs => ((a : Int) + 1, x) :: items (a + 1) xs
def dueL (p : St) : List (Int × Int) := items p.a (p.L.take (dueN p))
def leftL (p : St) : List (Int × Int) := items p.a p.L

theorem items_len (a : Nat) (L : List Int) : (items a L).length = L.length := by
  induction L generalizing a with
  | nil => rfl
  | cons x xs ih => simp [items, ih]
theorem items_get (a : Nat) (L : List Int) (i : Nat) (h : i < L.length) : (items a L)[i]? = some ((a : Int) + 1 + i, L[i]) := by
  induction L generalizing a i with
  | nil => simp at h
  | cons x xs ih =>
    cases i with
    | zero => simp [items]
    | succ i =>
      simp only [items, List.getElem?_cons_succ, List.getElem_cons_succ]
      rw [ih (a + 1) i (by simpa using h)]
      congr 2
      omega
theorem items_snoc (a : Nat) (L : List Int) (x : Int) : items a (L ++ [x]) = items a L ++ [((a : Int) + 1 + L.length, x)] := by
  induction L generalizing a with
  | nil => simp [items]
  | cons y ys ih =>
    simp only [List.cons_append, items, ih (a + 1), List.length_cons]
    congr 3
    simp
    omega
theorem items_take (a : Nat) (L : List Int) (n : Nat) : (items a L).take n = items a (L.take n) := by
  induction L generalizing a n with
  | nil => simp [items]
  | cons y ys ih =>
    cases n with
    | zero => simp [items]
    | succ n => simp [items, ih]

theorem pushS_ok {p : St} (h : p.ok) (x : Int) : (pushS p x).ok := by
  unfold pushS
  split
  · exact h
  · next hl =>
    have := h.w1; have := h.w2; have := h.le; have := h.sl; have := h.few
    unfold St.last at hl
    exact ⟨h.w1, h.w2, h.le, by simp; omega, by simp; omega⟩
theorem ackS_ok {p : St} (h : p.ok) (n : Int) : (ackS p n).ok := by
  unfold ackS
  split
  · next hl =>
    have := h.w1; have := h.w2; have := h.le; have := h.sl; have := h.few
    obtain ⟨h1, h2⟩ := hl
    exact ⟨h.w1, h.w2, by simp; omega, by simp; omega, by simp; omega⟩
  · exact h
theorem dueS_ok {p : St} (h : p.ok) : (dueS p).ok := by
  have := h.w1; have := h.w2; have := h.le; have := h.sl; have := h.few
  exact ⟨h.w1, h.w2, by simp [dueS]; omega, by simp [dueS, dueN]; omega, by simp [dueS]; omega⟩
theorem resetS_ok {p : St} (h : p.ok) : (resetS p).ok := ⟨h.w1, h.w2, Nat.le_refl _, by simp [resetS], by simp [resetS]⟩
theorem ackS_last {p : St} (h : p.ok) (n : Int) : (ackS p n).last = p.last := by
  unfold ackS
  split
  · next hl =>
    have := h.le; have := h.sl
    obtain ⟨h1, h2⟩ := hl
    simp [St.last]
    omega
  · rfl

def ei (x : Int) : List Value := [.int .i64 x]
def it (p : Int × Int) : List Value := [.int .i64 p.1, .int .i64 p.2]
theorem sz_ei : Sz ei 1 := fun x => ⟨rfl, fun v hv => by simp [ei] at hv; subst hv; rfl⟩
theorem sz_it : Sz it 2 := fun x => ⟨rfl, fun v hv => by simp [it] at hv; rcases hv with rfl | rfl <;> rfl⟩

/-- The outbox at block x, its row at block β. -/
structure BK (w : World) (x : Nat) (p : St) (v : Value) (β : Option Nat) : Prop where
  box : w.heap[x]? = some (.cells #[.int .i64 p.W, .int .i64 p.a, .int .i64 p.s, v] 79 (0, 0))
  row : SF ei 1 w 3 β v p.L
  ok : p.ok

/-- The outbox at block x; its blocks are among S. -/
def BoxAt (w : World) (x : Nat) (p : St) (S : Nat → Prop) : Prop := ∃ v β, BK w x p v β ∧ S x ∧ (∀ g, β = some g → S g) ∧ ∀ k, S k → k < w.heap.size

theorem BK.fr {S : Nat → Prop} {w w' : World} {x : Nat} {p : St} {v : Value} {β : Option Nat} (h : BK w x p v β) (hF : Fr S w w') (hx : ¬ S x) (hS : ∀ g, β = some g → ¬ S g) : BK w' x p v β :=
  ⟨hF.keeps h.box hx, h.row.fr hF hS, h.ok⟩
theorem BK.below {w w' : World} {x : Nat} {p : St} {v : Value} {β : Option Nat} (h : BK w x p v β) (hb : Below w.heap.size w w') : BK w' x p v β :=
  h.fr (S := fun _ => False) (Fr.of_below hb) (fun h => h) (fun _ _ h => h)
theorem BoxAt.fr {S T : Nat → Prop} {w w' : World} {x : Nat} {p : St} (h : BoxAt w x p S) (hF : Fr T w w') (hS : ∀ k, S k → ¬ T k) : BoxAt w' x p S := by
  obtain ⟨v, β, h, h1, h2, h3⟩ := h
  exact ⟨v, β, h.fr hF (hS x h1) (fun g hg => hS g (h2 g hg)), h1, h2, fun k hk => Nat.lt_of_lt_of_le (h3 k hk) hF.size⟩
theorem BoxAt.below {S : Nat → Prop} {w w' : World} {x : Nat} {p : St} (h : BoxAt w x p S) (hb : Below w.heap.size w w') : BoxAt w' x p S :=
  h.fr (T := fun _ => False) (Fr.of_below hb) (fun _ _ h => h)
theorem BoxAt.ok {S : Nat → Prop} {w : World} {x : Nat} {p : St} (h : BoxAt w x p S) : p.ok := by
  obtain ⟨v, β, h, -⟩ := h
  exact h.ok
theorem BoxAt.old {S : Nat → Prop} {w : World} {x : Nat} {p : St} (h : BoxAt w x p S) : ∀ k, S k → k < w.heap.size := by
  obtain ⟨v, β, h, -, -, h3⟩ := h
  exact h3

/-- What a call leaves of an outbox. -/
def Now (w w' : World) (x : Nat) (p : St) (S : Nat → Prop) : Prop := ∃ S', BoxAt w' x p S' ∧ (∀ k, S' k → S k ∨ w.heap.size ≤ k) ∧ Fr S w w'

theorem last_bk (x : Nat) (p : St) (v : Value) (β : Option Nat) (w : World) (h : BK w x p v β) :
    Calls Try.prog 34 #[.pointer (some ⟨x, 0, none⟩)] w fun e w' => e = .returned (.int .i64 p.last) ∧ Below w.heap.size w w' := by
  obtain ⟨a, c, rfl, -⟩ := h.row.form
  have c1 := cell_row h.box 1
  have c3 := cell_row h.box 3
  have hf := h.ok.few
  have hs := h.ok.le
  simp at c1 c3
  obtain ⟨n, hn⟩ : ∃ n, p.L.length = n := ⟨_, rfl⟩
  obtain ⟨m, hm⟩ : ∃ m, p.a = m := ⟨_, rfl⟩
  have hl : (p.last : Int) = (m : Int) + n := by unfold St.last; omega
  rw [hl]
  rw [hn] at c3 hf
  rw [hm] at c1 hf
  clear h hn hm hl hs
  go_enter Try.func34, Try.ntmps34
  go_wp2_with fail
  go_region
  go_wp2
  go_ret
  exact ⟨rfl, by repeat (first | exact Below.refl _ _ | refine Below.drew ?_ | refine below_drewN ?_ _)⟩

theorem acked_bk (x : Nat) (p : St) (v : Value) (β : Option Nat) (w : World) (h : BK w x p v β) :
    Calls Try.prog 20 #[.pointer (some ⟨x, 0, none⟩)] w fun e w' => e = .returned (.int .i64 p.a) ∧ w' = w := by
  have c1 := cell_row h.box 1
  simp at c1
  clear h
  go_enter Try.func20, Try.ntmps20
  go_wp2
  go_ret
  exact ⟨rfl, rfl⟩

theorem new_bad (W : Int) (w : World) (h : W < 1 ∨ 4096 < W) : Calls Try.prog 10 #[.int .i64 W] w fun e w' => e = .returned (.tuple #[.pointer none, .int .i64 80]) ∧ w' = w := by
  by_cases h1 : W < 1
  · go_enter Try.func10, Try.ntmps10
    go_wp2
    refine bodyPost_ret (v := .tuple #[.pointer none, .int .i64 80]) (by simp [results, Try.results10, go_sem]) rfl ?_
    exact ⟨rfl, rfl⟩
  · have h2 : 4096 < W := by omega
    go_enter Try.func10, Try.ntmps10
    go_wp2
    refine bodyPost_ret (v := .tuple #[.pointer none, .int .i64 80]) (by simp [results, Try.results10, go_sem]) rfl ?_
    exact ⟨rfl, rfl⟩

theorem new_good (W : Nat) (w : World) (hW1 : 1 ≤ W) (hW2 : W ≤ 4096) : Calls Try.prog 10 #[.int .i64 W] w fun e w' => ∃ x, e = .returned (.tuple #[.pointer (some ⟨x, 0, none⟩), .int .i64 0]) ∧ ∃ S, BoxAt w' x ⟨W, 0, 0, []⟩ S ∧ (∀ k, S k → w.heap.size ≤ k) ∧ Below w.heap.size w w' := by
  have h1 : ¬ (W : Int) < 1 := by omega
  have h2 : ¬ (4096 : Int) < W := by omega
  go_enter Try.func10, Try.ntmps10
  go_wp2
  refine bodyPost_ret (v := .tuple #[.pointer (some ⟨w.heap.size, 0, none⟩), .int .i64 0]) (by simp [results, Try.results10, go_sem]) rfl ?_
  refine ⟨_, rfl, fun k => k = w.heap.size, ⟨.slice none 0 0, none, ⟨heap_alloc_new w _, ⟨rfl, rfl⟩, ⟨hW1, hW2, Nat.le_refl _, by simp, by simp⟩⟩, rfl, by simp, ?_⟩, ?_, ?_⟩
  · rintro k rfl; simp
  · rintro k rfl; omega
  · exact (Below.refl _ _).alloc (Nat.le_refl _) _

end Go.Proofs.Ytpjnhjijipcjkaa
