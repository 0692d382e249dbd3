/-
  Rows of operations: one stored; rows made; a copy.
-/
import Derived.Test.YtmbnimlibnheeabDoorMa
namespace Go.Proofs.YtmbnimlibnheeabDoor
open Go.RowKit Go.Lib
set_option linter.unusedVariables false

theorem sizeO' : (Tryd.prog.info? 37).map (·.size) = some 5 := by
  obtain ⟨i0, hi, hz0, hz1, hz2⟩ := info_parts Tryd.infoO
  rw [hi]
  simp [hz1]

theorem cO_split (xs : List OpE) (k : Nat) (hk : k < xs.length) : cO xs = cO (xs.take k) ++ (opc xs[k] ++ cO (xs.drop (k + 1))) := by
  rw [← cO_cons, ← cO_app]
  congr 1
  rw [← List.drop_eq_getElem_cons hk, List.take_append_drop]

theorem set_app (A B : List Value) (n j : Nat) (v : Value) (h : A.length = n) : (A ++ B).set (n + j) v = A ++ B.set j v := by
  rw [List.set_append_right _ _ (by omega), show n + j - A.length = j by omega]

theorem cO_set (xs : List OpE) (k : Nat) (a b c d e : Int) (hk : k < xs.length) :
    (((((cO xs).set (k * 5) (.int .i64 a)).set (k * 5 + 1) (.int .i64 b)).set (k * 5 + 2) (.int .u8 c)).set (k * 5 + 3) (.int .i64 d)).set (k * 5 + 4) (.int .i64 e) = cO (xs.set k ⟨a, b, c, d, e⟩) := by
  have hl : (cO (xs.take k)).length = k * 5 := by rw [cO_len, List.length_take]; congr 1; omega
  have es : xs.set k ⟨a, b, c, d, e⟩ = xs.take k ++ ⟨a, b, c, d, e⟩ :: xs.drop (k + 1) := by rw [List.set_eq_take_append_cons_drop, if_pos hk]
  rw [es, cO_app, cO_cons, cO_split xs k hk]
  have h0 : (cO (xs.take k) ++ (opc xs[k] ++ cO (xs.drop (k + 1)))).set (k * 5) (.int .i64 a) = cO (xs.take k) ++ (opc xs[k] ++ cO (xs.drop (k + 1))).set 0 (.int .i64 a) := set_app _ _ (k * 5) 0 _ hl
  rw [h0, set_app _ _ (k * 5) 1 _ hl, set_app _ _ (k * 5) 2 _ hl, set_app _ _ (k * 5) 3 _ hl, set_app _ _ (k * 5) 4 _ hl]
  simp [opc]

theorem RowO.set5 {w : World} {g N cap : Nat} {xs : List OpE} (h : RowO w g N cap xs) (k : Nat) (a b c d e : Int) (hk : k < N) :
    RowO (((((w.setCell ⟨g, k * 5, none⟩ (.int .i64 a)).setCell ⟨g, k * 5 + 1, none⟩ (.int .i64 b)).setCell ⟨g, k * 5 + 2, none⟩ (.int .u8 c)).setCell ⟨g, k * 5 + 3, none⟩ (.int .i64 d)).setCell ⟨g, k * 5 + 4, none⟩ (.int .i64 e)) g N cap (xs.set k ⟨a, b, c, d, e⟩) := by
  obtain ⟨cur, hh, ht, hl, hn, hm, hs⟩ := h
  refine ⟨((((cur.set (k * 5) (.int .i64 a)).set (k * 5 + 1) (.int .i64 b)).set (k * 5 + 2) (.int .u8 c)).set (k * 5 + 3) (.int .i64 d)).set (k * 5 + 4) (.int .i64 e), ?_, ?_, by simpa using hl, hn, hm, by simpa using hs⟩
  · have h1 := set_row hh (k * 5) (.int .i64 a)
    have h2 := set_row h1 (k * 5 + 1) (.int .i64 b)
    have h3 := set_row h2 (k * 5 + 2) (.int .u8 c)
    have h4 := set_row h3 (k * 5 + 3) (.int .i64 d)
    have h5 := set_row h4 (k * 5 + 4) (.int .i64 e)
    simpa using h5
  · rw [List.take_set, List.take_set, List.take_set, List.take_set, List.take_set, ht, cO_set xs k a b c d e (by omega)]

theorem RowO.at {w : World} {g N cap : Nat} {xs : List OpE} (h : RowO w g N cap xs) (k : Nat) (hk : k < N) (hx : k < xs.length) :
    w.cell? ⟨g, k * 5, none⟩ = some (.int .i64 xs[k].kind) ∧ w.cell? ⟨g, k * 5 + 1, none⟩ = some (.int .i64 xs[k].pos) ∧ w.cell? ⟨g, k * 5 + 2, none⟩ = some (.int .u8 xs[k].ch) ∧
      w.cell? ⟨g, k * 5 + 3, none⟩ = some (.int .i64 xs[k].cl) ∧ w.cell? ⟨g, k * 5 + 4, none⟩ = some (.int .i64 xs[k].sq) := by
  have := h.isO.at k hk hx
  rw [Nat.zero_add] at this
  exact this
theorem RowO.frozen {w : World} {g N cap : Nat} {xs : List OpE} (h : RowO w g N cap xs) (i : Nat) : w.frozen? ⟨g, i, none⟩ = false := by
  obtain ⟨cur, hh, _⟩ := h
  exact frozen_row hh i

def zop : OpE := ⟨0, 0, 0, 0, 0⟩

theorem made_zero (n : Nat) : (madeCells #[.int .i64 0, .int .i64 0, .int .u8 0, .int .i64 0, .int .i64 0] (n * 5)).toList = cO (List.replicate n zop) := by
  induction n with
  | zero => simp [madeCells, cO]
  | succ n ih =>
    have e : (madeCells #[.int .i64 0, .int .i64 0, .int .u8 0, .int .i64 0, .int .i64 0] ((n + 1) * 5)).toList = (madeCells #[.int .i64 0, .int .i64 0, .int .u8 0, .int .i64 0, .int .i64 0] (n * 5)).toList ++ [.int .i64 0, .int .i64 0, .int .u8 0, .int .i64 0, .int .i64 0] := by
      simp only [madeCells, Array.toList_map, Array.toList_range, show (n + 1) * 5 = n * 5 + 1 + 1 + 1 + 1 + 1 by omega, List.range_succ, List.map_append, List.map_cons, List.map_nil, List.append_assoc, List.cons_append, List.nil_append]
      congr 1
      have e0 : n * 5 % 5 = 0 := by omega
      have e1 : (n * 5 + 1) % 5 = 1 := by omega
      have e2 : (n * 5 + 1 + 1) % 5 = 2 := by omega
      have e3 : (n * 5 + 1 + 1 + 1) % 5 = 3 := by omega
      have e4 : (n * 5 + 1 + 1 + 1 + 1) % 5 = 4 := by omega
      simp [e0, e1, e2, e3, e4]
    rw [e, ih, List.replicate_succ', cO_app, cO_one]
    rfl

/-- A row that make has made: zero values, or an empty line with room. -/
theorem row_made {w : World} {g m : Nat} {cur : List Value} (hg : w.heap[g]? = some (.cells cur.toArray 37 (0, 0))) (hcur : cur = (madeCells #[.int .i64 0, .int .i64 0, .int .u8 0, .int .i64 0, .int .i64 0] (m * 5)).toList) (hm : m ≤ 9223372036854775807) :
    RowO w g m m (List.replicate m zop) ∧ RowO w g 0 m [] := by
  subst hcur
  have hl : (madeCells #[.int .i64 0, .int .i64 0, .int .u8 0, .int .i64 0, .int .i64 0] (m * 5)).toList.length = m * 5 := by rw [made_zero, cO_len]; simp
  refine ⟨⟨_, hg, ?_, by simp, Nat.le_refl _, hm, hl⟩, ⟨_, hg, by simp [cO_nil], rfl, Nat.zero_le _, hm, hl⟩⟩
  rw [List.take_of_length_le (by omega), made_zero]

/-- A row of the call's own, from block base on. -/
def OwnO (w : World) (base : Nat) (v : Value) (xs : List OpE) : Prop := ∃ g c, base ≤ g ∧ v = .slice (some ⟨g, 0, none⟩) xs.length c ∧ RowO w g xs.length c xs

theorem OwnO.below {w w' : World} {base : Nat} {v : Value} {xs : List OpE} (h : OwnO w base v xs) (hb : Below w.heap.size w w') : OwnO w' base v xs := by
  obtain ⟨g, c, h1, h2, h3⟩ := h
  exact ⟨g, c, h1, h2, h3.fr (S := fun _ => False) (Fr.of_below hb) (fun h => h)⟩

/-- A copy of a whole line into a row of the call's own. -/
theorem run_copyO (w : World) (a : Option Addr) (n c m g : Nat) (xs : List OpE) (cur : List Value) (hE : IsO w a n c xs) (hg : w.heap[g]? = some (.cells cur.toArray 37 (0, 0))) (hl : cur.length = m * 5) (hm : n ≤ m) (hm63 : m ≤ 9223372036854775807) :
    ∃ w', (∀ ty, (Builtin.copy_ #[68, 68] ty #[.slice (some ⟨g, 0, none⟩) n m, .slice a n c]).run Tryd.prog w = .ok (goInt n) w') ∧ RowO w' g n m xs ∧ Fr (· = g) w w' := by
  obtain ⟨h1, h2, h3, h4⟩ := hE
  by_cases h0 : n = 0
  · subst h0
    obtain rfl := List.eq_nil_of_length_eq_zero h1
    exact ⟨w, fun ty => run_copy_zero w _ _ ty 37 _ _ _ _ _ _ 5 Tryd.underlying68 sizeO' (Nat.min_self _), ⟨cur, hg, by simp [cO_nil], rfl, hm, hm63, hl⟩, Fr.refl _ _⟩
  · obtain ⟨b, off, rfl, hlt, hc⟩ := h4 (by omega)
    have hcl : (cO xs).length = n * 5 := by rw [cO_len, h1]
    refine ⟨_, fun ty => run_copy_k w 68 68 ty 37 5 g 0 n m ⟨b, off, none⟩ n c n cur 37 (cO xs) Tryd.underlying68 sizeO' hg (Nat.min_self _).symm hcl (fun j v hj => by rw [add_lit]; exact hc j v hj) (by rw [hcl, hl]; omega) (cO_one' _), ?_, Fr.setRow _ _ _ rfl⟩
    refine ⟨_, setRow_heap w g _ _ 37 _ hg, ?_, h1, hm, hm63, by rw [length_splice _ _ _ (by rw [hcl, hl]; omega), hl]⟩
    have := splice_take_end cur 0 (cO xs) (Nat.zero_le _)
    rw [Nat.zero_add, hcl] at this
    simpa using this

theorem take_set_succ {α : Type} (xs : List α) (k : Nat) (x : α) (h : k < xs.length) : (xs.set k x).take (k + 1) = xs.take k ++ [x] := by
  rw [List.take_set, List.take_succ_eq_append_getElem h, List.set_append_right _ _ (by simp; omega)]
  have : k - (xs.take k).length = 0 := by simp; omega
  rw [this]
  rfl

end Go.Proofs.YtmbnimlibnheeabDoor
