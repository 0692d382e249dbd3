/-
  Errors: Wrap, Code, Place; sameErr.
-/
import Derived.Test.YtfhghijefjhehaaDoorAsWalk
import Derived.Test.YtfhghijefjhehaaDoorHza
namespace Go.Proofs.YtfhghijefjhehaaDoor
open Go.RowKit Go.Extern.Stop Go.Stop Go.Extern
set_option linter.unusedVariables false

/-- All but one block is as it was. -/
def But (r : Nat) (w w' : World) : Prop := Fr (fun k => k = r) w w'
theorem But.of_below {r : Nat} {w w' : World} (h : Below w.heap.size w w') : But r w w' := Fr.of_below h
theorem But.trans {r : Nat} {a b c : World} (h : But r a b) (k : But r b c) : But r a c := Fr.trans h k
theorem But.setCell (r : Nat) (w : World) (i : Nat) (u : Value) : But r w (w.setCell ⟨r, i, none⟩ u) := Fr.setCell _ _ _ rfl
theorem But.below {r B : Nat} {w w' : World} (h : But r w w') (hB : B ≤ w.heap.size) (hr : B ≤ r) : Below B w w' := Fr.below h hB (fun k hk => hk ▸ hr)

/-- The variable errors.errorType holds the handle of the type error. -/
def Handle (w : World) : Prop := w.cell? ⟨0, 0, none⟩ = some (.iface 131 (.agg #[.pointer (some ⟨1, 27, none⟩)]))

theorem cell_lt {w : World} {a : Addr} {v : Value} (h : w.cell? a = some v) : a.block < w.heap.size := by
  by_cases hb : a.block < w.heap.size
  · exact hb
  · unfold World.cell? at h
    rw [Array.getElem?_eq_none (by omega)] at h
    simp at h

theorem Handle.below {w w' : World} {B : Nat} (h : Handle w) (hb : Below B w w') (hB : 0 < B) : Handle w' := (hb.cell (p := ⟨0, 0, none⟩) hB).trans h
theorem Handle.pos {w : World} (h : Handle w) : 0 < w.heap.size := cell_lt h

theorem but_four {w : World} {tb : Nat} (o1 o2 o3 o4 : Obj) (u : Value) : But tb w (((((w.alloc o1).alloc o2).alloc o3).alloc o4).setCell ⟨tb, 0, none⟩ u) := by
  have h : Below w.heap.size w ((((w.alloc o1).alloc o2).alloc o3).alloc o4) := by
    repeat (first | exact Below.refl _ _ | refine Below.alloc ?_ (by simp <;> omega) _)
  exact (But.of_below h).trans (But.setCell tb _ 0 u)

theorem set_four {w : World} {tb : Nat} {old : Value} (h : w.cell? ⟨tb, 0, none⟩ = some old) (o1 o2 o3 o4 : Obj) (u : Value) : (((((w.alloc o1).alloc o2).alloc o3).alloc o4).setCell ⟨tb, 0, none⟩ u).cell? ⟨tb, 0, none⟩ = some u := by
  have hb : Below w.heap.size w ((((w.alloc o1).alloc o2).alloc o3).alloc o4) := by
    repeat (first | exact Below.refl _ _ | refine Below.alloc ?_ (by simp <;> omega) _)
  have h1 := (hb.cell (p := ⟨tb, 0, none⟩) (cell_lt h)).trans h
  exact World.cell?_setCell_same _ _ _ h1

/-- errors.As at a *Errno, said of what turns. -/
theorem as_code' (b off tb : Nat) (n : Int) (old : Value) (w : World) (hg : Handle w) (ht0 : w.cell? ⟨tb, 0, none⟩ = some old) (hf0 : w.frozen? ⟨tb, 0, none⟩ = false) (he : w.cell? ⟨b, off + 1, none⟩ = some (.iface 55 (.int .i64 n))) :
    Calls Tryd.prog 32 #[.iface 82 (.pointer (some ⟨b, off, none⟩)), .iface 81 (.pointer (some ⟨tb, 0, none⟩))] w fun e w' => e = .returned (.bool true) ∧ w'.cell? ⟨tb, 0, none⟩ = some (.int .i64 n) ∧ But tb w w' := by
  refine (as_code b off n ⟨tb, 0, none⟩ old w hg ht0 hf0 he).mono ?_
  rintro e w' ⟨rfl, rfl⟩
  exact ⟨rfl, set_four ht0 _ _ _ _ _, but_four _ _ _ _ _⟩

theorem as_hit' (e : Addr) (tb : Nat) (old : Value) (w : World) (hg : Handle w) (ht0 : w.cell? ⟨tb, 0, none⟩ = some old) (hf0 : w.frozen? ⟨tb, 0, none⟩ = false) :
    Calls Tryd.prog 32 #[.iface 82 (.pointer (some e)), .iface 83 (.pointer (some ⟨tb, 0, none⟩))] w fun ev w' => ev = .returned (.bool true) ∧ w'.cell? ⟨tb, 0, none⟩ = some (.pointer (some e)) ∧ But tb w w' := by
  refine (as_hit e ⟨tb, 0, none⟩ old w hg ht0 hf0).mono ?_
  rintro ev w' ⟨rfl, rfl⟩
  exact ⟨rfl, set_four ht0 _ _ _ _ _, but_four _ _ _ _ _⟩

theorem below_but {w w' : World} {o : Obj} (h : But w.heap.size (w.alloc o) w') : Below w.heap.size w w' :=
  ((Below.refl _ _).alloc (Nat.le_refl _) o).trans (h.below (by simp) (Nat.le_refl _))

set_option maxHeartbeats 1000000 in
theorem code_any (b off : Nat) (n : Int) (w : World) (hg : Handle w) (he : w.cell? ⟨b, off + 1, none⟩ = some (.iface 55 (.int .i64 n))) :
    Calls Tryd.prog 18 #[.iface 82 (.pointer (some ⟨b, off, none⟩))] w fun e w' => e = .returned (.int .i64 n) ∧ Below w.heap.size w w' := by
  have hbel : Below w.heap.size w (w.alloc (.cells #[.int .i64 0] 55)) := (Below.refl _ _).alloc (Nat.le_refl _) _
  have hg1 := hg.below hbel hg.pos
  have he1 := (hbel.cell (p := ⟨b, off + 1, none⟩) (cell_lt he)).trans he
  have ht : (w.alloc (.cells #[.int .i64 0] 55)).cell? ⟨w.heap.size, 0, none⟩ = some (.int .i64 0) := by simp
  have hf : (w.alloc (.cells #[.int .i64 0] 55)).frozen? ⟨w.heap.size, 0, none⟩ = false := by simp
  have C := hd (as_code' b off w.heap.size n _ _ hg1 ht hf he1)
  clear hg hg1 he he1 ht hf hbel
  go_enter Tryd.func18, Tryd.ntmps18
  go_wp2_with fail
  refine C.out.mono ?_
  rintro e w1 ⟨rfl, hc, hbut⟩
  have R := hd (below_but hbut)
  clear hbut C
  go_wp2
  go_ret
  exact ⟨rfl, R.out⟩

set_option maxHeartbeats 1000000 in
theorem place_any (b off : Nat) (p : Int) (w : World) (hg : Handle w) (he : w.cell? ⟨b, off, none⟩ = some (.int .i64 p)) :
    Calls Tryd.prog 19 #[.iface 82 (.pointer (some ⟨b, off, none⟩))] w fun e w' => e = .returned (.int .i64 p) ∧ Below w.heap.size w w' := by
  have hbel : Below w.heap.size w (w.alloc (.cells #[.pointer none] 82)) := (Below.refl _ _).alloc (Nat.le_refl _) _
  have hg1 := hg.below hbel hg.pos
  have ht : (w.alloc (.cells #[.pointer none] 82)).cell? ⟨w.heap.size, 0, none⟩ = some (.pointer none) := by simp
  have hf : (w.alloc (.cells #[.pointer none] 82)).frozen? ⟨w.heap.size, 0, none⟩ = false := by simp
  have C := hd (as_hit' ⟨b, off, none⟩ w.heap.size _ _ hg1 ht hf)
  have HE := hd he
  clear hg hg1 ht hf hbel he
  go_enter Tryd.func19, Tryd.ntmps19
  go_wp2_with fail
  refine C.out.mono ?_
  rintro e w1 ⟨rfl, hc, hbut⟩
  have R := hd (below_but hbut)
  have hcell := (R.out.cell (p := ⟨b, off, none⟩) (cell_lt HE.out)).trans HE.out
  clear hbut C HE
  go_wp2
  go_ret
  exact ⟨rfl, R.out⟩


/-- A Fault in a block of its own. -/
def IsF (w : World) (v : Value) (at' code : Int) : Prop := ∃ b, v = .iface 82 (.pointer (some ⟨b, 0, none⟩)) ∧ w.heap[b]? = some (.cells #[.int .i64 at', .iface 55 (.int .i64 code)] 85 (0, 0))
theorem IsF.below {w w' : World} {v : Value} {p c : Int} (h : IsF w v p c) (hb : Below w.heap.size w w') : IsF w' v p c := by
  obtain ⟨b, e, hh⟩ := h
  exact ⟨b, e, (hb.block b (block_lt hh)).trans hh⟩

set_option maxHeartbeats 1000000 in
theorem wrap_any (p c : Int) (w : World) :
    Calls Tryd.prog 20 #[.int .i64 p, .int .i64 c] w fun e w' => ∃ v, e = .returned v ∧ IsF w' v p c ∧ Below w.heap.size w w' := by
  have hn := heap_alloc_new w (.cells #[.int .i64 p, .iface 55 (.int .i64 c)] 85)
  have HN := hd hn
  clear hn
  go_enter Tryd.func20, Tryd.ntmps20
  go_wp2
  go_ret
  exact ⟨_, rfl, ⟨_, rfl, HN.out⟩, (Below.refl _ _).alloc (Nat.le_refl _) _⟩

theorem num_any (c : Int) (w : World) : Calls Tryd.prog 17 #[.int .i64 c] w fun e w' => e = .returned (.int .i64 c) ∧ Below w.heap.size w w' := by
  go_enter Tryd.func17, Tryd.ntmps17
  go_wp2
  go_ret
  exact ⟨rfl, Below.refl _ _⟩

theorem IsF.code {w : World} {v : Value} {p c : Int} (h : IsF w v p c) (hg : Handle w) :
    Calls Tryd.prog 18 #[v] w fun e w' => e = .returned (.int .i64 c) ∧ Below w.heap.size w w' := by
  obtain ⟨b, rfl, hh⟩ := h
  exact code_any b 0 c w hg (by rw [cell_row hh]; rfl)
theorem IsF.place {w : World} {v : Value} {p c : Int} (h : IsF w v p c) (hg : Handle w) :
    Calls Tryd.prog 19 #[v] w fun e w' => e = .returned (.int .i64 p) ∧ Below w.heap.size w w' := by
  obtain ⟨b, rfl, hh⟩ := h
  exact place_any b 0 p w hg (by rw [cell_row hh]; rfl)

set_option maxHeartbeats 4000000 in
theorem same_some (v : Value) (p c : Int) (w : World) (hF : IsF w v p c) (hH : Handle w) (hc : c ≠ 0) :
    Calls Tryd.prog 8 #[v, .int .i64 c, .int .i64 p] w fun e w' => e = .returned (.bool true) ∧ Below w.heap.size w w' := by
  have HF := hd hF
  have HH := hd hH
  have C1 := hd (hF.code hH)
  obtain ⟨b, rfl, hh⟩ := hF
  have kc : (c == 0) = false := by simpa using hc
  clear hh hH hc
  go_enter Tryd.func8, Tryd.ntmps8
  go_wp2_with fail
  refine C1.out.mono ?_
  rintro e u1 ⟨rfl, b1⟩
  have B1 := hd b1
  clear b1 C1
  go_wp2_with fail
  refine (num_any c _).mono ?_
  rintro e u2 ⟨rfl, b2⟩
  have B2 := hd (B1.out.trans (b2.mono B1.out.size))
  clear b2
  have C2 := hd ((HF.out.below B2.out).place (HH.out.below B2.out HH.out.pos))
  go_wp2_with fail
  refine C2.out.mono ?_
  rintro e u3 ⟨rfl, b3⟩
  have B3 := hd (B2.out.trans (b3.mono B2.out.size))
  clear b3 C2
  go_wp2
  go_ret
  exact ⟨rfl, B3.out⟩

set_option maxHeartbeats 4000000 in
theorem same_none (w : World) : Calls Tryd.prog 8 #[.nilIface, .int .i64 0, .int .i64 (-1)] w fun e w' => e = .returned (.bool true) ∧ Below w.heap.size w w' := by
  go_enter Tryd.func8, Tryd.ntmps8
  go_wp2
  go_ret
  exact ⟨rfl, by repeat (first | exact Below.refl _ _ | refine Below.alloc ?_ (by simp) _ | refine Below.setCell ?_ (by simp) _)⟩

end Go.Proofs.YtfhghijefjhehaaDoor
