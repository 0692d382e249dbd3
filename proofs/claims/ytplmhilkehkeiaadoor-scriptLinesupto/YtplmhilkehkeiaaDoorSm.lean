/-
  Line.
-/
import Derived.Test.YtplmhilkehkeiaaDoorSk
import Derived.Laws.NewDeep
namespace Go.Proofs.YtplmhilkehkeiaaDoor
open Go.RowKit
set_option linter.unusedVariables false

/-- What Line answers: an entry, its bytes new. -/
def LR (w w' : World) (E : En) (e : Ending) : Prop := ∃ v, e = .returned (.agg (ecell E v)) ∧ NL bc 1 5 w' w.heap.size v (bI E.bytes) ∧ Below w.heap.size w w'

theorem verb_pos {s : Bs} (h : kindP (verbP s) ≠ 0) : 1 ≤ s.length := by
  cases s with
  | nil => exact absurd rfl h
  | cons _ _ => simp

theorem Fr.set {S : Nat → Prop} {w w' : World} (h : Fr S w w') (p : Addr) (u : Value) (hp : S p.block) : Fr S w (w'.setCell p u) := h.trans (Fr.setCell w' p u hp)
/-- An entry stored. -/
def put8 (w : World) (x : Nat) (E : En) (v : Value) : World := ((((((((w.setCell ⟨x, 0, none⟩ (.int .i64 E.kind)).setCell ⟨x, 1, none⟩ (.int .i64 E.site)).setCell ⟨x, 2, none⟩ (.int .i64 E.a)).setCell ⟨x, 3, none⟩ (.int .i64 E.b)).setCell ⟨x, 4, none⟩ (.int .i64 E.c)).setCell ⟨x, 5, none⟩ (.int .u8 E.ch)).setCell ⟨x, 6, none⟩ v).setCell ⟨x, 7, none⟩ (.int .i64 E.err))
theorem put8_heap {w : World} {x : Nat} {E0 E : En} {v0 v : Value} (hx : w.heap[x]? = some (.cells (ecell E0 v0) 25 (0, 0))) : (put8 w x E v).heap[x]? = some (.cells (ecell E v) 25 (0, 0)) ∧ Fr (· = x) w (put8 w x E v) := by
  constructor
  · have h := set_row (set_row (set_row (set_row (set_row (set_row (set_row (set_row hx 0 (.int .i64 E.kind)) 1 (.int .i64 E.site)) 2 (.int .i64 E.a)) 3 (.int .i64 E.b)) 4 (.int .i64 E.c)) 5 (.int .u8 E.ch)) 6 v) 7 (.int .i64 E.err)
    have e : ((((((((ecell E0 v0).setIfInBounds 0 (.int .i64 E.kind)).setIfInBounds 1 (.int .i64 E.site)).setIfInBounds 2 (.int .i64 E.a)).setIfInBounds 3 (.int .i64 E.b)).setIfInBounds 4 (.int .i64 E.c)).setIfInBounds 5 (.int .u8 E.ch)).setIfInBounds 6 v).setIfInBounds 7 (.int .i64 E.err) = ecell E v := by simp [ecell]
    rw [e] at h
    unfold put8
    exact h
  · unfold put8
    exact ((((((((Fr.refl (· = x) w).set ⟨x, 0, none⟩ (.int .i64 E.kind) rfl).set ⟨x, 1, none⟩ (.int .i64 E.site) rfl).set ⟨x, 2, none⟩ (.int .i64 E.a) rfl).set ⟨x, 3, none⟩ (.int .i64 E.b) rfl).set ⟨x, 4, none⟩ (.int .i64 E.c) rfl).set ⟨x, 5, none⟩ (.int .u8 E.ch) rfl).set ⟨x, 6, none⟩ v rfl).set ⟨x, 7, none⟩ (.int .i64 E.err) rfl
/-- The cells of an entry at block x. -/
theorem en_cells {w : World} {x : Nat} {E : En} {v : Value} (h : w.heap[x]? = some (.cells (ecell E v) 25 (0, 0))) : (w.cell? ⟨x, 0, none⟩ = some (.int .i64 E.kind) ∧ w.cell? ⟨x, 1, none⟩ = some (.int .i64 E.site) ∧ w.cell? ⟨x, 2, none⟩ = some (.int .i64 E.a) ∧ w.cell? ⟨x, 3, none⟩ = some (.int .i64 E.b)) ∧ (w.cell? ⟨x, 4, none⟩ = some (.int .i64 E.c) ∧ w.cell? ⟨x, 5, none⟩ = some (.int .u8 E.ch) ∧ w.cell? ⟨x, 6, none⟩ = some v ∧ w.cell? ⟨x, 7, none⟩ = some (.int .i64 E.err)) := by
  refine ⟨⟨?_, ?_, ?_, ?_⟩, ?_, ?_, ?_, ?_⟩ <;> rw [cell_row h] <;> rfl
theorem en_frozen {w : World} {x : Nat} {c : Array Value} {t : TypeId} (h : w.heap[x]? = some (.cells c t (0, 0))) : (w.frozen? ⟨x, 0, none⟩ = false ∧ w.frozen? ⟨x, 1, none⟩ = false ∧ w.frozen? ⟨x, 2, none⟩ = false ∧ w.frozen? ⟨x, 3, none⟩ = false) ∧ (w.frozen? ⟨x, 4, none⟩ = false ∧ w.frozen? ⟨x, 5, none⟩ = false ∧ w.frozen? ⟨x, 6, none⟩ = false ∧ w.frozen? ⟨x, 7, none⟩ = false) :=
  ⟨⟨frozen_row h _, frozen_row h _, frozen_row h _, frozen_row h _⟩, frozen_row h _, frozen_row h _, frozen_row h _, frozen_row h _⟩

/-- An entry at block x, all zero. -/
def EZ (w : World) (x : Nat) : Prop := w.heap[x]? = some (.cells (ecell { kind := 0 } (.slice none 0 0)) 25 (0, 0))
theorem EZ.below {w w' : World} {x B : Nat} (h : EZ w x) (hb : Below B w w') (hx : x < B) : EZ w' x := (hb.block x hx).trans h

set_option maxRecDepth 100000 in
set_option maxHeartbeats 8000000 in
theorem line_none (s : ByteArray) (w : World) (hz : s.size ≤ 2000000) (hV : Verbs w) (h0 : kindP (verbP (tl s)) = 0) :
    Calls Tryd.prog 9 #[.string s] w fun e w' => LR w w' (lineP (tl s)) e := by
  have hL : lineP (tl s) = { kind := 0, err := 153 } := by unfold lineP; rw [if_pos h0]
  rw [hL]
  have HV := hd hV
  have H0 := hd h0
  clear hL hV h0
  have x0 : EZ (w.alloc (.cells #[.int .i64 0, .int .i64 0, .int .i64 0, .int .i64 0, .int .i64 0, .int .u8 0, .slice none 0 0, .int .i64 0] 25)) w.heap.size := heap_alloc_new _ _
  have bz : Below w.heap.size w (w.alloc (.cells #[.int .i64 0, .int .i64 0, .int .i64 0, .int .i64 0, .int .i64 0, .int .u8 0, .slice none 0 0, .int .i64 0] 25)) := (Below.refl _ _).alloc (Nat.le_refl _) _
  have hpos : 0 < w.heap.size := by obtain ⟨t, fr, h⟩ := HV.out; exact block_lt h
  have HX := hd x0
  have BZ := hd bz
  clear x0 bz
  go_enter Tryd.func9, Tryd.ntmps9
  go_wp2_with fail
  generalize w.alloc (.cells #[.int .i64 0, .int .i64 0, .int .i64 0, .int .i64 0, .int .i64 0, .int .u8 0, .slice none 0 0, .int .i64 0] 25) = w0 at *
  go_wp2_with (first
    | (go_at_call 20; refine (cut_any s _ hz).mono ?_; rintro e w1 ⟨a, b, f, rfl, ha, nq, rfl⟩; have HA := hd ha; have HX1 := hd (show EZ (w0.drewN nq) w.heap.size from HX.out); have BZ1 := hd (below_drewN BZ.out nq); clear ha HX BZ; generalize w0.drewN nq = w1 at *)
    | (go_at_call 21; refine (kindOf_any a _ (HV.out.below BZ1.out hpos)).mono ?_; rintro e w' ⟨rfl, rfl⟩; rw [HA.out, H0.out]; obtain ⟨⟨c0, c1, c2, c3⟩, c4, c5, c6, c7⟩ := en_cells HX1.out; obtain ⟨⟨f0, f1, f2, f3⟩, f4, f5, f6, f7⟩ := en_frozen HX1.out; simp only at c0 c1 c2 c3 c4 c5 c6 c7; have hlt := block_lt HX1.out))
  obtain ⟨P1, P2⟩ := put8_heap (E := { kind := 0, err := 153 }) (v := .slice none 0 0) HX1.out
  unfold put8 at P1 P2
  simp only at P1 P2
  have BF : Below w.heap.size w ((((((((w'.setCell ⟨w.heap.size, 0, none⟩ (.int .i64 0)).setCell ⟨w.heap.size, 1, none⟩ (.int .i64 0)).setCell ⟨w.heap.size, 2, none⟩ (.int .i64 0)).setCell ⟨w.heap.size, 3, none⟩ (.int .i64 0)).setCell ⟨w.heap.size, 4, none⟩ (.int .i64 0)).setCell ⟨w.heap.size, 5, none⟩ (.int .u8 0)).setCell ⟨w.heap.size, 6, none⟩ (.slice none 0 0)).setCell ⟨w.heap.size, 7, none⟩ (.int .i64 153)) := BZ1.out.trans (P2.below BZ1.out.size (fun k hk => by omega))
  have BB := hd BF
  have PH := hd P1
  clear P1 P2 BF c0 c1 c2 c3 c4 c5 c6 c7 f0 f1 f2 f3 f4 f5 f6 f7
  generalize ((((((((w'.setCell ⟨w.heap.size, 0, none⟩ (.int .i64 0)).setCell ⟨w.heap.size, 1, none⟩ (.int .i64 0)).setCell ⟨w.heap.size, 2, none⟩ (.int .i64 0)).setCell ⟨w.heap.size, 3, none⟩ (.int .i64 0)).setCell ⟨w.heap.size, 4, none⟩ (.int .i64 0)).setCell ⟨w.heap.size, 5, none⟩ (.int .u8 0)).setCell ⟨w.heap.size, 6, none⟩ (.slice none 0 0)).setCell ⟨w.heap.size, 7, none⟩ (.int .i64 153)) = W at *
  obtain ⟨⟨q0, q1, q2, q3⟩, q4, q5, q6, q7⟩ := en_cells PH.out
  simp only at q0 q1 q2 q3 q4 q5 q6 q7
  refine bodyPost_ret (v := .agg (ecell { kind := 0, err := 153 } (.slice none 0 0))) (by simp [results, Tryd.results9, go_sem, q0, q1, q2, q3, q4, q5, q6, q7, ecell]) rfl ?_
  exact ⟨_, rfl, NL.nil _ _, BB.out⟩

end Go.Proofs.YtplmhilkehkeiaaDoor
