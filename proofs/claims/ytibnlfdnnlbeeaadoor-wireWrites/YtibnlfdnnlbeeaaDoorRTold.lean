/-
  Code, Place, told.
-/
import Derived.Test.YtibnlfdnnlbeeaaDoorAsWalk
import Derived.Test.YtibnlfdnnlbeeaaDoorRReader
namespace Go.Proofs.YtibnlfdnnlbeeaaDoor
open Go.RowKit Go.Extern.Stop Go.Stop Go.Extern

/-- The variable errors.errorType holds the handle of the type error. -/
def Handle (w : World) : Prop := w.cell? ⟨0, 0, none⟩ = some (.iface 118 (.agg #[.pointer (some ⟨2, 30, none⟩)]))

theorem cell_lt {w : World} {a : Addr} {v : Value} (h : w.cell? a = some v) : a.block < w.heap.size := by
  by_cases hb : a.block < w.heap.size
  · exact hb
  · unfold World.cell? at h
    rw [Array.getElem?_eq_none (by omega)] at h
    simp at h

theorem Handle.below {w w' : World} {B : Nat} (h : Handle w) (hb : Below B w w') (hB : 0 < B) : Handle w' := (hb.cell (p := ⟨0, 0, none⟩) hB).trans h
theorem Handle.pos {w : World} (h : Handle w) : 0 < w.heap.size := cell_lt h

theorem but_four {w : World} {tb : Nat} (o1 o2 o3 o4 : Obj) (u : Value) : But tb w (((((w.alloc o1).alloc o2).alloc o3).alloc o4).setCell ⟨tb, 0, none⟩ u) := by
  have h : Below w.heap.size w ((((w.alloc o1).alloc o2).alloc o3).alloc o4) := by
    repeat (first | exact Below.refl _ _ | refine Below.alloc ?_ (by simp <;> omega) _)
  exact (But.of_below h).trans (But.setCell tb _ 0 u)

theorem set_four {w : World} {tb : Nat} {old : Value} (h : w.cell? ⟨tb, 0, none⟩ = some old) (o1 o2 o3 o4 : Obj) (u : Value) : (((((w.alloc o1).alloc o2).alloc o3).alloc o4).setCell ⟨tb, 0, none⟩ u).cell? ⟨tb, 0, none⟩ = some u := by
  have hb : Below w.heap.size w ((((w.alloc o1).alloc o2).alloc o3).alloc o4) := by
    repeat (first | exact Below.refl _ _ | refine Below.alloc ?_ (by simp <;> omega) _)
  have h1 := (hb.cell (p := ⟨tb, 0, none⟩) (cell_lt h)).trans h
  exact World.cell?_setCell_same _ _ _ h1

/-- errors.As at a *Errno, said of what turns. -/
theorem as_code' (b off tb : Nat) (n : Int) (old : Value) (w : World) (hg : Handle w) (ht0 : w.cell? ⟨tb, 0, none⟩ = some old) (hf0 : w.frozen? ⟨tb, 0, none⟩ = false) (he : w.cell? ⟨b, off + 1, none⟩ = some (.iface 45 (.int .i64 n))) :
    Calls Tryd.prog 33 #[.iface 74 (.pointer (some ⟨b, off, none⟩)), .iface 73 (.pointer (some ⟨tb, 0, none⟩))] w fun e w' => e = .returned (.bool true) ∧ w'.cell? ⟨tb, 0, none⟩ = some (.int .i64 n) ∧ But tb w w' := by
  refine (as_code b off n ⟨tb, 0, none⟩ old w hg ht0 hf0 he).mono ?_
  rintro e w' ⟨rfl, rfl⟩
  exact ⟨rfl, set_four ht0 _ _ _ _ _, but_four _ _ _ _ _⟩

theorem as_hit' (e : Addr) (tb : Nat) (old : Value) (w : World) (hg : Handle w) (ht0 : w.cell? ⟨tb, 0, none⟩ = some old) (hf0 : w.frozen? ⟨tb, 0, none⟩ = false) :
    Calls Tryd.prog 33 #[.iface 74 (.pointer (some e)), .iface 75 (.pointer (some ⟨tb, 0, none⟩))] w fun ev w' => ev = .returned (.bool true) ∧ w'.cell? ⟨tb, 0, none⟩ = some (.pointer (some e)) ∧ But tb w w' := by
  refine (as_hit e ⟨tb, 0, none⟩ old w hg ht0 hf0).mono ?_
  rintro ev w' ⟨rfl, rfl⟩
  exact ⟨rfl, set_four ht0 _ _ _ _ _, but_four _ _ _ _ _⟩

theorem below_but {w w' : World} {o : Obj} (h : But w.heap.size (w.alloc o) w') : Below w.heap.size w w' :=
  ((Below.refl _ _).alloc (Nat.le_refl _) o).trans (h.below (by simp) (Nat.le_refl _))

set_option maxHeartbeats 1000000 in
theorem code_any (b off : Nat) (n : Int) (w : World) (hg : Handle w) (he : w.cell? ⟨b, off + 1, none⟩ = some (.iface 45 (.int .i64 n))) :
    Calls Tryd.prog 16 #[.iface 74 (.pointer (some ⟨b, off, none⟩))] w fun e w' => e = .returned (.int .i64 n) ∧ Below w.heap.size w w' := by
  have hbel : Below w.heap.size w (w.alloc (.cells #[.int .i64 0] 45)) := (Below.refl _ _).alloc (Nat.le_refl _) _
  have hg1 := hg.below hbel hg.pos
  have he1 := (hbel.cell (p := ⟨b, off + 1, none⟩) (cell_lt he)).trans he
  have ht : (w.alloc (.cells #[.int .i64 0] 45)).cell? ⟨w.heap.size, 0, none⟩ = some (.int .i64 0) := by simp
  have hf : (w.alloc (.cells #[.int .i64 0] 45)).frozen? ⟨w.heap.size, 0, none⟩ = false := by simp
  have C := hd (as_code' b off w.heap.size n _ _ hg1 ht hf he1)
  clear hg hg1 he he1 ht hf hbel
  go_enter Tryd.func16, Tryd.ntmps16
  go_wp2_with fail
  refine C.out.mono ?_
  rintro e w1 ⟨rfl, hc, hbut⟩
  have R := hd (below_but hbut)
  clear hbut C
  go_wp2
  go_ret
  exact ⟨rfl, R.out⟩

set_option maxHeartbeats 1000000 in
theorem place_any (b off : Nat) (p : Int) (w : World) (hg : Handle w) (he : w.cell? ⟨b, off, none⟩ = some (.int .i64 p)) :
    Calls Tryd.prog 17 #[.iface 74 (.pointer (some ⟨b, off, none⟩))] w fun e w' => e = .returned (.int .i64 p) ∧ Below w.heap.size w w' := by
  have hbel : Below w.heap.size w (w.alloc (.cells #[.pointer none] 74)) := (Below.refl _ _).alloc (Nat.le_refl _) _
  have hg1 := hg.below hbel hg.pos
  have ht : (w.alloc (.cells #[.pointer none] 74)).cell? ⟨w.heap.size, 0, none⟩ = some (.pointer none) := by simp
  have hf : (w.alloc (.cells #[.pointer none] 74)).frozen? ⟨w.heap.size, 0, none⟩ = false := by simp
  have C := hd (as_hit' ⟨b, off, none⟩ w.heap.size _ _ hg1 ht hf)
  have HE := hd he
  clear hg hg1 ht hf hbel he
  go_enter Tryd.func17, Tryd.ntmps17
  go_wp2_with fail
  refine C.out.mono ?_
  rintro e w1 ⟨rfl, hc, hbut⟩
  have R := hd (below_but hbut)
  have hcell := (R.out.cell (p := ⟨b, off, none⟩) (cell_lt HE.out)).trans HE.out
  clear hbut C HE
  go_wp2
  go_ret
  exact ⟨rfl, R.out⟩

end Go.Proofs.YtibnlfdnnlbeeaaDoor
