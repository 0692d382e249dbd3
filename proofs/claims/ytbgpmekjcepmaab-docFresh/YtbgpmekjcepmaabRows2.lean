/-
  Rows: an element stored, a row made of zero values.
-/
import Derived.Test.YtbgpmekjcepmaabApp
import Derived.Test.YtbgpmekjcepmaabEq
namespace Go.Proofs.Ytbgpmekjcepmaab
open Go.RowKit
set_option linter.unusedVariables false

theorem cE_split (xs : List El) (k : Nat) (hk : k < xs.length) : cE xs = cE (xs.take k) ++ (elc xs[k] ++ cE (xs.drop (k + 1))) := by
  rw [← cE_cons, ← cE_app]
  congr 1
  rw [← List.drop_eq_getElem_cons hk, List.take_append_drop]

theorem set_app (A B : List Value) (n j : Nat) (v : Value) (h : A.length = n) : (A ++ B).set (n + j) v = A ++ B.set j v := by
  rw [List.set_append_right _ _ (by omega), show n + j - A.length = j by omega]

theorem cE_set (xs : List El) (k : Nat) (a b c : Int) (hk : k < xs.length) :
    (((cE xs).set (k * 3) (.int .u8 a)).set (k * 3 + 1) (.int .i64 b)).set (k * 3 + 2) (.int .i64 c) = cE (xs.set k (a, b, c)) := by
  have hl : (cE (xs.take k)).length = k * 3 := by rw [cE_len, List.length_take]; congr 1; omega
  have es : xs.set k (a, b, c) = xs.take k ++ (a, b, c) :: xs.drop (k + 1) := by rw [List.set_eq_take_append_cons_drop, if_pos hk]
  rw [es, cE_app, cE_cons, cE_split xs k hk]
  have h0 : (cE (xs.take k) ++ (elc xs[k] ++ cE (xs.drop (k + 1)))).set (k * 3) (.int .u8 a) = cE (xs.take k) ++ (elc xs[k] ++ cE (xs.drop (k + 1))).set 0 (.int .u8 a) := set_app _ _ (k * 3) 0 _ hl
  rw [h0, set_app _ _ (k * 3) 1 _ hl, set_app _ _ (k * 3) 2 _ hl]
  simp [elc]

theorem RowE.set3 {w : World} {g N cap : Nat} {xs : List El} (h : RowE w g N cap xs) (k : Nat) (a b c : Int) (hk : k < N) :
    RowE (((w.setCell ⟨g, k * 3, none⟩ (.int .u8 a)).setCell ⟨g, k * 3 + 1, none⟩ (.int .i64 b)).setCell ⟨g, k * 3 + 2, none⟩ (.int .i64 c)) g N cap (xs.set k (a, b, c)) := by
  obtain ⟨cur, hh, ht, hl, hn, hm, hs⟩ := h
  refine ⟨((cur.set (k * 3) (.int .u8 a)).set (k * 3 + 1) (.int .i64 b)).set (k * 3 + 2) (.int .i64 c), ?_, ?_, by simpa using hl, hn, hm, by simpa using hs⟩
  · have h1 := set_row hh (k * 3) (.int .u8 a)
    have h2 := set_row h1 (k * 3 + 1) (.int .i64 b)
    have h3 := set_row h2 (k * 3 + 2) (.int .i64 c)
    simpa using h3
  · rw [List.take_set, List.take_set, List.take_set, ht, cE_set xs k a b c (by omega)]

theorem RowE.cells {w : World} {g N cap : Nat} {xs : List El} (h : RowE w g N cap xs) (k : Nat) (hk : k < N) :
    (∃ v, w.cell? ⟨g, k * 3, none⟩ = some v) ∧ (∃ v, w.cell? ⟨g, k * 3 + 1, none⟩ = some v) ∧ (∃ v, w.cell? ⟨g, k * 3 + 2, none⟩ = some v) := by
  have hl := h.isE.1
  have := h.isE.at k hk (by omega)
  rw [Nat.zero_add] at this
  exact ⟨⟨_, this.1⟩, ⟨_, this.2.1⟩, ⟨_, this.2.2⟩⟩
theorem RowE.frozen {w : World} {g N cap : Nat} {xs : List El} (h : RowE w g N cap xs) (i : Nat) : w.frozen? ⟨g, i, none⟩ = false := by
  obtain ⟨cur, hh, _⟩ := h
  exact frozen_row hh i

theorem made_zero (n : Nat) : (madeCells #[.int .u8 0, .int .i64 0, .int .i64 0] (n * 3)).toList = cE (List.replicate n (0, 0, 0)) := by
  induction n with
  | zero => simp [madeCells, cE]
  | succ n ih =>
    have e : (madeCells #[.int .u8 0, .int .i64 0, .int .i64 0] ((n + 1) * 3)).toList = (madeCells #[.int .u8 0, .int .i64 0, .int .i64 0] (n * 3)).toList ++ [.int .u8 0, .int .i64 0, .int .i64 0] := by
      simp only [madeCells, Array.toList_map, Array.toList_range, show (n + 1) * 3 = n * 3 + 1 + 1 + 1 by omega, List.range_succ, List.map_append, List.map_cons, List.map_nil, List.append_assoc, List.cons_append, List.nil_append]
      congr 1
      have e0 : n * 3 % 3 = 0 := by omega
      have e1 : (n * 3 + 1) % 3 = 1 := by omega
      have e2 : (n * 3 + 1 + 1) % 3 = 2 := by omega
      simp [e0, e1, e2]
    rw [e, ih, List.replicate_succ', cE_app, cE_one]
    rfl

/-- A row that make has made, of zero values. -/
theorem row_made {w : World} {g n : Nat} {cur : List Value} (hg : w.heap[g]? = some (.cells cur.toArray 46 (0, 0))) (hc : cur = (madeCells #[.int .u8 0, .int .i64 0, .int .i64 0] (n * 3)).toList) (hn : n ≤ 9223372036854775807) :
    RowE w g n n (List.replicate n (0, 0, 0)) := by
  rw [made_zero] at hc
  refine ⟨cur, hg, ?_, by simp, Nat.le_refl _, hn, ?_⟩
  · rw [hc, List.take_of_length_le (by rw [cE_len]; simp)]
  · rw [hc, cE_len]; simp

end Go.Proofs.Ytbgpmekjcepmaab
