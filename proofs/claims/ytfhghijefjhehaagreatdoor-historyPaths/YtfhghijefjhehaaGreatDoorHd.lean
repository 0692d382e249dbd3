/-
  history: isEdit, makes, editOf.
-/
import Derived.Test.YtfhghijefjhehaaGreatDoorMUa
import Derived.Test.YtfhghijefjhehaaGreatDoorVa
import Derived.Test.YtfhghijefjhehaaGreatDoorAx
import Derived.Laws.StructEq
namespace Go.Proofs.YtfhghijefjhehaaGreatDoor
open Go.RowKit
set_option linter.unusedVariables false

def chP (o : OpE) : Bool := decide (o.kind ≠ 0) && decide (validP o = 0)
theorem chP_iff (o : OpE) : chP o = true ↔ o.kind ≠ 0 ∧ validP o = 0 := by simp [chP]

set_option maxRecDepth 100000 in
set_option maxHeartbeats 2000000 in
theorem isEdit_any (k p c l s : Int) (w : World) (h0 : 0 ≤ c) (h1 : c ≤ 255) :
    Calls Tryz.prog 78 #[.agg #[.int .i64 k, .int .i64 p, .int .u8 c, .int .i64 l, .int .i64 s]] w fun e w' => e = .returned (.bool (chP ⟨k, p, c, l, s⟩)) ∧ Below w.heap.size w w' := by
  have CV := hd (fun W => valid_any k p c l s W h0 h1)
  have hP : Hid (chP ⟨k, p, c, l, s⟩ = (decide (k ≠ 0) && decide (validP ⟨k, p, c, l, s⟩ = 0))) := rfl
  generalize chP ⟨k, p, c, l, s⟩ = b at *
  generalize validP ⟨k, p, c, l, s⟩ = r at *
  have B1 := hd ((Below.refl w.heap.size w).alloc (Nat.le_refl _) (.cells #[.int .i64 k, .int .i64 p, .int .u8 c, .int .i64 l, .int .i64 s] 69))
  by_cases hk : k = 0
  · subst hk
    have hb : b = false := by rw [hP.out]; simp
    subst hb
    go_enter Tryz.func78, Tryz.ntmps78
    go_wp2_with fail
    go_ret
    exact ⟨rfl, B1.out⟩
  · have k1 : (k == 0) = false := by simpa using hk
    by_cases hr : r = 0
    · subst hr
      have hb : b = true := by rw [hP.out]; simp [hk]
      subst hb
      go_enter Tryz.func78, Tryz.ntmps78
      go_wp2_with fail
      refine (CV.out _).mono ?_
      rintro e w1 ⟨rfl, b1⟩
      have Z := hd (B1.out.trans (b1.mono B1.out.size))
      clear b1
      go_wp2
      go_ret
      exact ⟨by simp [hk], Z.out⟩
    · have hb : b = false := by rw [hP.out]; simp [hr]
      subst hb
      have r1 : (r == 0) = false := by simpa using hr
      go_enter Tryz.func78, Tryz.ntmps78
      go_wp2_with fail
      refine (CV.out _).mono ?_
      rintro e w1 ⟨rfl, b1⟩
      have Z := hd (B1.out.trans (b1.mono B1.out.size))
      clear b1
      go_wp2
      go_ret
      exact ⟨rfl, Z.out⟩

/-- An event in memory or in a slot: ten cells. -/
def evc (e : Ev) (d : Value) : Array Value := #[.int .i64 e.step, .int .i64 e.site, .int .i64 e.hav, .int .i64 e.made, .int .i64 e.o.kind, .int .i64 e.o.pos, .int .u8 e.o.ch, .int .i64 e.o.cl, .int .i64 e.o.sq, d]

def zoB (o : OpE) : Bool := o.kind == 0 && o.pos == 0 && o.ch == 0 && o.cl == 0 && o.sq == 0
theorem zoB_iff (o : OpE) : zoB o = true ↔ o = zo := by
  obtain ⟨k, p, c, l, s⟩ := o
  simp [zoB, zo, and_assoc]

set_option maxRecDepth 100000 in
set_option maxHeartbeats 2000000 in
theorem hmakes_any (st si ha ma k p c l s : Int) (a : Option Addr) (n cp : Nat) (w : World) :
    Calls Tryz.prog 81 #[.agg #[.int .i64 st, .int .i64 si, .int .i64 ha, .int .i64 ma, .int .i64 k, .int .i64 p, .int .u8 c, .int .i64 l, .int .i64 s, .slice a n cp]] w fun e w' => e = .returned (.bool (!zoB ⟨k, p, c, l, s⟩)) ∧ Below w.heap.size w w' := by
  go_enter Tryz.func81, Tryz.ntmps81
  go_wp2
  all_goals
    go_ret
    exact ⟨by simp [zoB, *], (Below.refl _ _).alloc (Nat.le_refl _) _⟩

set_option maxRecDepth 100000 in
set_option maxHeartbeats 2000000 in
theorem editOf_any (st si ha ma k p c l s : Int) (a : Option Addr) (n cp : Nat) (w : World) :
    Calls Tryz.prog 84 #[.agg #[.int .i64 st, .int .i64 si, .int .i64 ha, .int .i64 ma, .int .i64 k, .int .i64 p, .int .u8 c, .int .i64 l, .int .i64 s, .slice a n cp]] w fun e w' => e = .returned (.agg #[.int .i64 ha, .int .i64 k, .int .i64 p, .int .u8 c, .int .i64 l, .int .i64 s]) ∧ Below w.heap.size w w' := by
  go_enter Tryz.func84, Tryz.ntmps84
  go_wp2
  refine bodyPost_ret (v := .agg #[.int .i64 ha, .int .i64 k, .int .i64 p, .int .u8 c, .int .i64 l, .int .i64 s]) (by simp [results, Tryz.results84, go_sem]) rfl ?_
  exact ⟨rfl, by repeat (first | exact Below.refl _ _ | refine Below.alloc ?_ (by simp) _ | refine Below.setCell ?_ (by simp) _)⟩

set_option maxRecDepth 100000 in
set_option maxHeartbeats 2000000 in
theorem elemOf_any (k p c l s : Int) (w : World) :
    Calls Tryz.prog 59 #[.agg #[.int .i64 k, .int .i64 p, .int .u8 c, .int .i64 l, .int .i64 s]] w fun e w' => e = .returned (.agg #[.int .u8 c, .int .i64 l, .int .i64 s]) ∧ Below w.heap.size w w' := by
  go_enter Tryz.func59, Tryz.ntmps59
  go_wp2
  refine bodyPost_ret (v := .agg #[.int .u8 c, .int .i64 l, .int .i64 s]) (by simp [results, Tryz.results59, go_sem]) rfl ?_
  exact ⟨rfl, by repeat (first | exact Below.refl _ _ | refine Below.alloc ?_ (by simp) _ | refine Below.setCell ?_ (by simp) _)⟩

end Go.Proofs.YtfhghijefjhehaaGreatDoor
