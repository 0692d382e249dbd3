/-
  Texts put together: Mb Na Wa.
-/
import Derived.Test.YtilidolbplglcaaGreatDoorMUa
import Derived.Deep.QuietTactic
import Derived.BigQuiet
import Derived.Deep.RegionHeld3
import Derived.Laws.NewDeep
/-! Mb -/
namespace Go.Proofs.YtilidolbplglcaaGreatDoor
open Go.RowKit Go.Lib
set_option linter.unusedVariables false

theorem sizeO' : (Tryz.prog.info? 46).map (·.size) = some 5 := by
  obtain ⟨i0, hi, hz0, hz1, hz2⟩ := info_parts Tryz.infoO
  rw [hi]
  simp [hz1]

theorem cO_split (xs : List OpE) (k : Nat) (hk : k < xs.length) : cO xs = cO (xs.take k) ++ (opc xs[k] ++ cO (xs.drop (k + 1))) := by
  rw [← cO_cons, ← cO_app]
  congr 1
  rw [← List.drop_eq_getElem_cons hk, List.take_append_drop]

theorem set_app (A B : List Value) (n j : Nat) (v : Value) (h : A.length = n) : (A ++ B).set (n + j) v = A ++ B.set j v := by
  rw [List.set_append_right _ _ (by omega), show n + j - A.length = j by omega]

theorem cO_set (xs : List OpE) (k : Nat) (a b c d e : Int) (hk : k < xs.length) :
    (((((cO xs).set (k * 5) (.int .i64 a)).set (k * 5 + 1) (.int .i64 b)).set (k * 5 + 2) (.int .u8 c)).set (k * 5 + 3) (.int .i64 d)).set (k * 5 + 4) (.int .i64 e) = cO (xs.set k ⟨a, b, c, d, e⟩) := by
  have hl : (cO (xs.take k)).length = k * 5 := by rw [cO_len, List.length_take]; congr 1; omega
  have es : xs.set k ⟨a, b, c, d, e⟩ = xs.take k ++ ⟨a, b, c, d, e⟩ :: xs.drop (k + 1) := by rw [List.set_eq_take_append_cons_drop, if_pos hk]
  rw [es, cO_app, cO_cons, cO_split xs k hk]
  have h0 : (cO (xs.take k) ++ (opc xs[k] ++ cO (xs.drop (k + 1)))).set (k * 5) (.int .i64 a) = cO (xs.take k) ++ (opc xs[k] ++ cO (xs.drop (k + 1))).set 0 (.int .i64 a) := set_app _ _ (k * 5) 0 _ hl
  rw [h0, set_app _ _ (k * 5) 1 _ hl, set_app _ _ (k * 5) 2 _ hl, set_app _ _ (k * 5) 3 _ hl, set_app _ _ (k * 5) 4 _ hl]
  simp [opc]

theorem RowO.set5 {w : World} {g N cap : Nat} {xs : List OpE} (h : RowO w g N cap xs) (k : Nat) (a b c d e : Int) (hk : k < N) :
    RowO (((((w.setCell ⟨g, k * 5, none⟩ (.int .i64 a)).setCell ⟨g, k * 5 + 1, none⟩ (.int .i64 b)).setCell ⟨g, k * 5 + 2, none⟩ (.int .u8 c)).setCell ⟨g, k * 5 + 3, none⟩ (.int .i64 d)).setCell ⟨g, k * 5 + 4, none⟩ (.int .i64 e)) g N cap (xs.set k ⟨a, b, c, d, e⟩) := by
  obtain ⟨cur, hh, ht, hl, hn, hm, hs⟩ := h
  refine ⟨((((cur.set (k * 5) (.int .i64 a)).set (k * 5 + 1) (.int .i64 b)).set (k * 5 + 2) (.int .u8 c)).set (k * 5 + 3) (.int .i64 d)).set (k * 5 + 4) (.int .i64 e), ?_, ?_, by simpa using hl, hn, hm, by simpa using hs⟩
  · have h1 := set_row hh (k * 5) (.int .i64 a)
    have h2 := set_row h1 (k * 5 + 1) (.int .i64 b)
    have h3 := set_row h2 (k * 5 + 2) (.int .u8 c)
    have h4 := set_row h3 (k * 5 + 3) (.int .i64 d)
    have h5 := set_row h4 (k * 5 + 4) (.int .i64 e)
    simpa using h5
  · rw [List.take_set, List.take_set, List.take_set, List.take_set, List.take_set, ht, cO_set xs k a b c d e (by omega)]

theorem RowO.at {w : World} {g N cap : Nat} {xs : List OpE} (h : RowO w g N cap xs) (k : Nat) (hk : k < N) (hx : k < xs.length) :
    w.cell? ⟨g, k * 5, none⟩ = some (.int .i64 xs[k].kind) ∧ w.cell? ⟨g, k * 5 + 1, none⟩ = some (.int .i64 xs[k].pos) ∧ w.cell? ⟨g, k * 5 + 2, none⟩ = some (.int .u8 xs[k].ch) ∧
      w.cell? ⟨g, k * 5 + 3, none⟩ = some (.int .i64 xs[k].cl) ∧ w.cell? ⟨g, k * 5 + 4, none⟩ = some (.int .i64 xs[k].sq) := by
  have := h.isO.at k hk hx
  rw [Nat.zero_add] at this
  exact this
theorem RowO.frozen {w : World} {g N cap : Nat} {xs : List OpE} (h : RowO w g N cap xs) (i : Nat) : w.frozen? ⟨g, i, none⟩ = false := by
  obtain ⟨cur, hh, _⟩ := h
  exact frozen_row hh i

def zop : OpE := ⟨0, 0, 0, 0, 0⟩

theorem made_zero (n : Nat) : (madeCells #[.int .i64 0, .int .i64 0, .int .u8 0, .int .i64 0, .int .i64 0] (n * 5)).toList = cO (List.replicate n zop) := by
  induction n with
  | zero => simp [madeCells, cO]
  | succ n ih =>
    have e : (madeCells #[.int .i64 0, .int .i64 0, .int .u8 0, .int .i64 0, .int .i64 0] ((n + 1) * 5)).toList = (madeCells #[.int .i64 0, .int .i64 0, .int .u8 0, .int .i64 0, .int .i64 0] (n * 5)).toList ++ [.int .i64 0, .int .i64 0, .int .u8 0, .int .i64 0, .int .i64 0] := by
      simp only [madeCells, Array.toList_map, Array.toList_range, show (n + 1) * 5 = n * 5 + 1 + 1 + 1 + 1 + 1 by omega, List.range_succ, List.map_append, List.map_cons, List.map_nil, List.append_assoc, List.cons_append, List.nil_append]
      congr 1
      have e0 : n * 5 % 5 = 0 := by omega
      have e1 : (n * 5 + 1) % 5 = 1 := by omega
      have e2 : (n * 5 + 1 + 1) % 5 = 2 := by omega
      have e3 : (n * 5 + 1 + 1 + 1) % 5 = 3 := by omega
      have e4 : (n * 5 + 1 + 1 + 1 + 1) % 5 = 4 := by omega
      simp [e0, e1, e2, e3, e4]
    rw [e, ih, List.replicate_succ', cO_app, cO_one]
    rfl

/-- A row that make has made: zero values, or an empty line with room. -/
theorem row_made {w : World} {g m : Nat} {cur : List Value} (hg : w.heap[g]? = some (.cells cur.toArray 46 (0, 0))) (hcur : cur = (madeCells #[.int .i64 0, .int .i64 0, .int .u8 0, .int .i64 0, .int .i64 0] (m * 5)).toList) (hm : m ≤ 9223372036854775807) :
    RowO w g m m (List.replicate m zop) ∧ RowO w g 0 m [] := by
  subst hcur
  have hl : (madeCells #[.int .i64 0, .int .i64 0, .int .u8 0, .int .i64 0, .int .i64 0] (m * 5)).toList.length = m * 5 := by rw [made_zero, cO_len]; simp
  refine ⟨⟨_, hg, ?_, by simp, Nat.le_refl _, hm, hl⟩, ⟨_, hg, by simp [cO_nil], rfl, Nat.zero_le _, hm, hl⟩⟩
  rw [List.take_of_length_le (by omega), made_zero]

/-- A row of the call's own, from block base on. -/
def OwnO (w : World) (base : Nat) (v : Value) (xs : List OpE) : Prop := ∃ g c, base ≤ g ∧ v = .slice (some ⟨g, 0, none⟩) xs.length c ∧ RowO w g xs.length c xs

theorem OwnO.below {w w' : World} {base : Nat} {v : Value} {xs : List OpE} (h : OwnO w base v xs) (hb : Below w.heap.size w w') : OwnO w' base v xs := by
  obtain ⟨g, c, h1, h2, h3⟩ := h
  exact ⟨g, c, h1, h2, h3.fr (S := fun _ => False) (Fr.of_below hb) (fun h => h)⟩

/-- A copy of a whole line into a row of the call's own. -/
theorem run_copyO (w : World) (a : Option Addr) (n c m g : Nat) (xs : List OpE) (cur : List Value) (hE : IsO w a n c xs) (hg : w.heap[g]? = some (.cells cur.toArray 46 (0, 0))) (hl : cur.length = m * 5) (hm : n ≤ m) (hm63 : m ≤ 9223372036854775807) :
    ∃ w', (∀ ty, (Builtin.copy_ #[24, 24] ty #[.slice (some ⟨g, 0, none⟩) n m, .slice a n c]).run Tryz.prog w = .ok (goInt n) w') ∧ RowO w' g n m xs ∧ Fr (· = g) w w' := by
  obtain ⟨h1, h2, h3, h4⟩ := hE
  by_cases h0 : n = 0
  · subst h0
    obtain rfl := List.eq_nil_of_length_eq_zero h1
    exact ⟨w, fun ty => run_copy_zero w _ _ ty 46 _ _ _ _ _ _ 5 Tryz.underlying24 sizeO' (Nat.min_self _), ⟨cur, hg, by simp [cO_nil], rfl, hm, hm63, hl⟩, Fr.refl _ _⟩
  · obtain ⟨b, off, rfl, hlt, hc⟩ := h4 (by omega)
    have hcl : (cO xs).length = n * 5 := by rw [cO_len, h1]
    refine ⟨_, fun ty => run_copy_k w 24 24 ty 46 5 g 0 n m ⟨b, off, none⟩ n c n cur 46 (cO xs) Tryz.underlying24 sizeO' hg (Nat.min_self _).symm hcl (fun j v hj => by rw [add_lit]; exact hc j v hj) (by rw [hcl, hl]; omega) (cO_one' _), ?_, Fr.setRow _ _ _ rfl⟩
    refine ⟨_, setRow_heap w g _ _ 46 _ hg, ?_, h1, hm, hm63, by rw [length_splice _ _ _ (by rw [hcl, hl]; omega), hl]⟩
    have := splice_take_end cur 0 (cO xs) (Nat.zero_le _)
    rw [Nat.zero_add, hcl] at this
    simpa using this

theorem take_set_succ {α : Type} (xs : List α) (k : Nat) (x : α) (h : k < xs.length) : (xs.set k x).take (k + 1) = xs.take k ++ [x] := by
  rw [List.take_set, List.take_succ_eq_append_getElem h, List.set_append_right _ _ (by simp; omega)]
  have : k - (xs.take k).length = 0 := by simp; omega
  rw [this]
  rfl

end Go.Proofs.YtilidolbplglcaaGreatDoor

/-! Na -/
namespace Go.Proofs.YtilidolbplglcaaGreatDoor
open Go.RowKit
set_option linter.unusedVariables false

set_option maxRecDepth 100000 in
set_option maxHeartbeats 4000000 in
theorem copied_any (a : Option Addr) (n c : Nat) (xs : List OpE) (w : World) (hE : IsO w a n c xs) (hn : n * 40 ≤ 281474976710656) :
    Calls Tryz.prog 81 #[.slice a n c] w fun e w' => ∃ v, e = .returned v ∧ OwnO w' w.heap.size v xs ∧ Below w.heap.size w w' := by
  obtain ⟨i0, hi0, hz0, hz1, hz2⟩ := info_parts Tryz.infoO
  have HE := hd hE
  have HN : Hid (xs.length = n) := hE.1
  have n63 : n ≤ 9223372036854775807 := by omega
  clear hE
  go_enter Tryz.func81, Tryz.ntmps81
  go_wp2_with (first | (at_make; refine wpList_make_k _ rfl _ _ 24 rfl 46 i0 _ Tryz.underlying24 hi0 hz0 _ _ _ _ n n rfl rfl rfl rfl (Nat.le_refl _) (by rw [hz2]; omega) (by omega) ?_; intro w3 cur hg3 hcur hb3) | fail)
  have hl3 : cur.length = n * 5 := by
    have := hcur.out
    rw [hz1] at this
    rw [this, show (Value.agg #[.int .i64 0, .int .i64 0, .int .u8 0, .int .i64 0, .int .i64 0]).cells = #[.int .i64 0, .int .i64 0, .int .u8 0, .int .i64 0, .int .i64 0] from rfl, made_zero, cO_len]
    simp
  obtain ⟨w4, hr4, hR4, hF4⟩ := run_copyO w3 a n c n w.heap.size xs cur (HE.out.below hb3.out) hg3.out hl3 (Nat.le_refl _) n63
  have R : Hid (OwnO w4 w.heap.size (.slice (some ⟨w.heap.size, 0, none⟩) n n) xs ∧ Below w.heap.size w w4) := by
    refine ⟨⟨_, n, Nat.le_refl _, by rw [HN.out], by rw [HN.out]; exact hR4⟩, hb3.out.trans (hF4.below hb3.out.size (fun k h => by rw [h]; exact Nat.le_refl _))⟩
  clear hg3 hcur hb3 hi0 hz0 hz1 hz2 hl3 hR4 hF4
  rw [hr4]
  go_wp2
  go_ret
  exact ⟨_, rfl, R.out⟩

end Go.Proofs.YtilidolbplglcaaGreatDoor

/-! Wa -/
namespace Go.Proofs.YtilidolbplglcaaGreatDoor
open Go.RowKit
set_option linter.unusedVariables false

/-- The table of rules, as its text lays it. -/
def Table (w : World) : Prop :=
  1 < w.heap.size ∧ w.cell? ⟨1, 0, none⟩ = some (.int .i64 0) ∧ w.cell? ⟨1, 1, none⟩ = some (.int .i64 0) ∧ w.cell? ⟨1, 2, none⟩ = some (.int .i64 0) ∧
  w.cell? ⟨1, 3, none⟩ = some (.int .i64 0) ∧ w.cell? ⟨1, 4, none⟩ = some (.int .i64 1) ∧ w.cell? ⟨1, 5, none⟩ = some (.int .i64 2) ∧
  w.cell? ⟨1, 6, none⟩ = some (.int .i64 0) ∧ w.cell? ⟨1, 7, none⟩ = some (.int .i64 3) ∧ w.cell? ⟨1, 8, none⟩ = some (.int .i64 4)

theorem Table.below {B : Nat} {w w' : World} (h : Table w) (hb : Below B w w') (hB : 1 < B) : Table w' := by
  obtain ⟨h0, r⟩ := h
  have hc : ∀ i, w'.cell? ⟨1, i, none⟩ = w.cell? ⟨1, i, none⟩ := fun i => hb.cell (p := ⟨1, i, none⟩) hB
  refine ⟨Nat.lt_of_lt_of_le h0 hb.size, ?_⟩
  simp only [hc]
  exact r

def rowP (k : Int) : Nat := if k = 1 then 1 else if k = 2 then 2 else 0

theorem row_any (k : Int) (w : World) : Calls Tryz.prog 85 #[.int .i64 k] w fun e w' => e = .returned (.int .i64 (rowP k)) ∧ w = w' := by
  by_cases h1 : k = 1
  · subst h1
    rw [show rowP 1 = 1 from rfl]
    go_enter Tryz.func85, Tryz.ntmps85
    go_wp2
    go_ret
    exact ⟨rfl, rfl⟩
  · by_cases h2 : k = 2
    · subst h2
      rw [show rowP 2 = 2 from rfl]
      go_enter Tryz.func85, Tryz.ntmps85
      go_wp2
      go_ret
      exact ⟨rfl, rfl⟩
    · rw [show rowP k = 0 from by simp [rowP, h1, h2]]
      have b1 : (k == 1) = false := by simpa using h1
      have b2 : (k == 2) = false := by simpa using h2
      clear h1 h2
      go_enter Tryz.func85, Tryz.ntmps85
      go_wp2
      go_ret
      exact ⟨rfl, rfl⟩

theorem pushed_any (a : OpE) (l : Bool) (w : World) : Calls Tryz.prog 86 #[a.val, .bool l] w fun e w' =>
    e = .returned (OpE.val ⟨a.kind, if l then wrap64 (a.pos + 1) else a.pos, a.ch, a.cl, a.sq⟩) ∧ Below w.heap.size w w' := by
  obtain ⟨k, p, c, q, s⟩ := a
  simp only [OpE.val]
  cases l
  · simp only [Bool.false_eq_true, if_false]
    go_enter Tryz.func86, Tryz.ntmps86
    go_wp2
    refine bodyPost_ret (v := .agg #[.int .i64 k, .int .i64 p, .int .u8 c, .int .i64 q, .int .i64 s]) (by simp [results, Tryz.results86, go_sem]) rfl ?_
    exact ⟨rfl, ((Below.refl _ _).alloc (Nat.le_refl _) _).alloc (by simp) _⟩
  · simp only [if_true]
    go_enter Tryz.func86, Tryz.ntmps86
    go_wp2
    refine bodyPost_ret (v := .agg #[.int .i64 k, .int .i64 (wrap64 (p + 1)), .int .u8 c, .int .i64 q, .int .i64 s]) (by simp [results, Tryz.results86, go_sem]) rfl ?_
    exact ⟨rfl, ((Below.refl _ _).alloc (Nat.le_refl _) _).alloc (by simp) _⟩

theorem pulled_any (a : OpE) (l : Bool) (w : World) : Calls Tryz.prog 87 #[a.val, .bool l] w fun e w' =>
    e = .returned (OpE.val ⟨a.kind, if l then wrap64 (a.pos - 1) else a.pos, a.ch, a.cl, a.sq⟩) ∧ Below w.heap.size w w' := by
  obtain ⟨k, p, c, q, s⟩ := a
  simp only [OpE.val]
  cases l
  · simp only [Bool.false_eq_true, if_false]
    go_enter Tryz.func87, Tryz.ntmps87
    go_wp2
    refine bodyPost_ret (v := .agg #[.int .i64 k, .int .i64 p, .int .u8 c, .int .i64 q, .int .i64 s]) (by simp [results, Tryz.results87, go_sem]) rfl ?_
    exact ⟨rfl, ((Below.refl _ _).alloc (Nat.le_refl _) _).alloc (by simp) _⟩
  · simp only [if_true]
    go_enter Tryz.func87, Tryz.ntmps87
    go_wp2
    refine bodyPost_ret (v := .agg #[.int .i64 k, .int .i64 (wrap64 (p - 1)), .int .u8 c, .int .i64 q, .int .i64 s]) (by simp [results, Tryz.results87, go_sem]) rfl ?_
    exact ⟨rfl, ((Below.refl _ _).alloc (Nat.le_refl _) _).alloc (by simp) _⟩

theorem nothing_any (a : OpE) (w : World) : Calls Tryz.prog 88 #[a.val] w fun e w' =>
    e = .returned (OpE.val ⟨0, 0, 0, a.cl, a.sq⟩) ∧ Below w.heap.size w w' := by
  obtain ⟨k, p, c, q, s⟩ := a
  simp only [OpE.val]
  go_enter Tryz.func88, Tryz.ntmps88
  go_wp2
  refine bodyPost_ret (v := .agg #[.int .i64 0, .int .i64 0, .int .u8 0, .int .i64 q, .int .i64 s]) (by simp [results, Tryz.results88, go_sem]) rfl ?_
  exact ⟨rfl, ((Below.refl _ _).alloc (Nat.le_refl _) _).alloc (by simp) _⟩

end Go.Proofs.YtilidolbplglcaaGreatDoor
