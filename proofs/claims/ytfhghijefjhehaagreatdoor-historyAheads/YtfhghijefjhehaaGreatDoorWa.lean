/-
  Shift, of the program.
-/
import Derived.Test.YtfhghijefjhehaaGreatDoorMUa
import Derived.Deep.QuietTactic
import Derived.BigQuiet
import Derived.Deep.RegionHeld3
import Derived.Laws.NewDeep
namespace Go.Proofs.YtfhghijefjhehaaGreatDoor
open Go.RowKit
set_option linter.unusedVariables false

/-- The table of rules, as its text lays it. -/
def Table (w : World) : Prop :=
  1 < w.heap.size ∧ w.cell? ⟨1, 0, none⟩ = some (.int .i64 0) ∧ w.cell? ⟨1, 1, none⟩ = some (.int .i64 0) ∧ w.cell? ⟨1, 2, none⟩ = some (.int .i64 0) ∧
  w.cell? ⟨1, 3, none⟩ = some (.int .i64 0) ∧ w.cell? ⟨1, 4, none⟩ = some (.int .i64 1) ∧ w.cell? ⟨1, 5, none⟩ = some (.int .i64 2) ∧
  w.cell? ⟨1, 6, none⟩ = some (.int .i64 0) ∧ w.cell? ⟨1, 7, none⟩ = some (.int .i64 3) ∧ w.cell? ⟨1, 8, none⟩ = some (.int .i64 4)

theorem Table.below {B : Nat} {w w' : World} (h : Table w) (hb : Below B w w') (hB : 1 < B) : Table w' := by
  obtain ⟨h0, r⟩ := h
  have hc : ∀ i, w'.cell? ⟨1, i, none⟩ = w.cell? ⟨1, i, none⟩ := fun i => hb.cell (p := ⟨1, i, none⟩) hB
  refine ⟨Nat.lt_of_lt_of_le h0 hb.size, ?_⟩
  simp only [hc]
  exact r

def rowP (k : Int) : Nat := if k = 1 then 1 else if k = 2 then 2 else 0

theorem row_any (k : Int) (w : World) : Calls Tryz.prog 158 #[.int .i64 k] w fun e w' => e = .returned (.int .i64 (rowP k)) ∧ w = w' := by
  by_cases h1 : k = 1
  · subst h1
    rw [show rowP 1 = 1 from rfl]
    go_enter Tryz.func158, Tryz.ntmps158
    go_wp2
    go_ret
    exact ⟨rfl, rfl⟩
  · by_cases h2 : k = 2
    · subst h2
      rw [show rowP 2 = 2 from rfl]
      go_enter Tryz.func158, Tryz.ntmps158
      go_wp2
      go_ret
      exact ⟨rfl, rfl⟩
    · rw [show rowP k = 0 from by simp [rowP, h1, h2]]
      have b1 : (k == 1) = false := by simpa using h1
      have b2 : (k == 2) = false := by simpa using h2
      clear h1 h2
      go_enter Tryz.func158, Tryz.ntmps158
      go_wp2
      go_ret
      exact ⟨rfl, rfl⟩

theorem pushed_any (a : OpE) (l : Bool) (w : World) : Calls Tryz.prog 159 #[a.val, .bool l] w fun e w' =>
    e = .returned (OpE.val ⟨a.kind, if l then wrap64 (a.pos + 1) else a.pos, a.ch, a.cl, a.sq⟩) ∧ Below w.heap.size w w' := by
  obtain ⟨k, p, c, q, s⟩ := a
  simp only [OpE.val]
  cases l
  · simp only [Bool.false_eq_true, if_false]
    go_enter Tryz.func159, Tryz.ntmps159
    go_wp2
    refine bodyPost_ret (v := .agg #[.int .i64 k, .int .i64 p, .int .u8 c, .int .i64 q, .int .i64 s]) (by simp [results, Tryz.results159, go_sem]) rfl ?_
    exact ⟨rfl, ((Below.refl _ _).alloc (Nat.le_refl _) _).alloc (by simp) _⟩
  · simp only [if_true]
    go_enter Tryz.func159, Tryz.ntmps159
    go_wp2
    refine bodyPost_ret (v := .agg #[.int .i64 k, .int .i64 (wrap64 (p + 1)), .int .u8 c, .int .i64 q, .int .i64 s]) (by simp [results, Tryz.results159, go_sem]) rfl ?_
    exact ⟨rfl, ((Below.refl _ _).alloc (Nat.le_refl _) _).alloc (by simp) _⟩

theorem pulled_any (a : OpE) (l : Bool) (w : World) : Calls Tryz.prog 160 #[a.val, .bool l] w fun e w' =>
    e = .returned (OpE.val ⟨a.kind, if l then wrap64 (a.pos - 1) else a.pos, a.ch, a.cl, a.sq⟩) ∧ Below w.heap.size w w' := by
  obtain ⟨k, p, c, q, s⟩ := a
  simp only [OpE.val]
  cases l
  · simp only [Bool.false_eq_true, if_false]
    go_enter Tryz.func160, Tryz.ntmps160
    go_wp2
    refine bodyPost_ret (v := .agg #[.int .i64 k, .int .i64 p, .int .u8 c, .int .i64 q, .int .i64 s]) (by simp [results, Tryz.results160, go_sem]) rfl ?_
    exact ⟨rfl, ((Below.refl _ _).alloc (Nat.le_refl _) _).alloc (by simp) _⟩
  · simp only [if_true]
    go_enter Tryz.func160, Tryz.ntmps160
    go_wp2
    refine bodyPost_ret (v := .agg #[.int .i64 k, .int .i64 (wrap64 (p - 1)), .int .u8 c, .int .i64 q, .int .i64 s]) (by simp [results, Tryz.results160, go_sem]) rfl ?_
    exact ⟨rfl, ((Below.refl _ _).alloc (Nat.le_refl _) _).alloc (by simp) _⟩

theorem nothing_any (a : OpE) (w : World) : Calls Tryz.prog 161 #[a.val] w fun e w' =>
    e = .returned (OpE.val ⟨0, 0, 0, a.cl, a.sq⟩) ∧ Below w.heap.size w w' := by
  obtain ⟨k, p, c, q, s⟩ := a
  simp only [OpE.val]
  go_enter Tryz.func161, Tryz.ntmps161
  go_wp2
  refine bodyPost_ret (v := .agg #[.int .i64 0, .int .i64 0, .int .u8 0, .int .i64 q, .int .i64 s]) (by simp [results, Tryz.results161, go_sem]) rfl ?_
  exact ⟨rfl, ((Below.refl _ _).alloc (Nat.le_refl _) _).alloc (by simp) _⟩

end Go.Proofs.YtfhghijefjhehaaGreatDoor
