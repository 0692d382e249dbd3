/-
  wire.read whole; ofItem, item, EncodeItem, DecodeItem.
-/
import Derived.Test.YtibnlfdnnlbeeaaDoorVc
import Derived.Test.YtibnlfdnnlbeeaaDoorVw
import Derived.Test.YtibnlfdnnlbeeaaDoorVez
import Derived.Test.YtibnlfdnnlbeeaaDoorVea
import Derived.Test.YtibnlfdnnlbeeaaDoorVeb
import Derived.Test.YtibnlfdnnlbeeaaDoorVec
namespace Go.Proofs.YtibnlfdnnlbeeaaDoor
open Go.RowKit
set_option linter.unusedVariables false

theorem read_any (a : Option Addr) (n c : Nat) (bs : List Int) (w : World) (hB : IsB w a n c bs) (hR : Rng bs) (hn : n ≤ 140737488351232) (hL : Lims w) :
    Calls Tryd.prog 23 #[.slice a n c, .func (Fn.func 22) #[] #[]] w (ReadO w bs) := by
  by_cases hz : n = 0
  · exact read_none a n c bs w hB hR hn hL hz
  · have hs0 : nmP (bs.getD 0 0) = 0 ∨ nmP (bs.getD 0 0) = 2 ∨ nmP (bs.getD 0 0) = 16128 := by
      unfold nmP
      split
      · exact .inr (.inl rfl)
      · split
        · exact .inr (.inr rfl)
        · exact .inl rfl
    rcases hs0 with h | h | h
    · exact read_bad a n c bs w hB hR hn hL hz h
    · exact read_boot a n c bs w hB hR hn hL hz h
    · exact read_edit a n c bs w hB hR hn hL hz h

structure It where
  kind : Int
  epoch : Int
  tag : Int
  ok : Int
  pos : Int
  ch : Int
  cl : Int
  sq : Int
/-- The fields of an item. -/
def VX (x : It) : Nat → Int := fun f => if f = 0 then x.kind else if f = 1 then x.epoch else if f = 8 then x.tag else if f = 9 then x.ok else if f = 10 then x.pos else if f = 11 then x.ch else if f = 12 then x.cl else if f = 13 then x.sq else 0
def ErrB (w : World) (e : Ending) (p c : Int) : Prop := ∃ v, e = .returned (.tuple #[.slice none 0 0, v]) ∧ IsF w v p c

set_option maxRecDepth 100000 in
set_option maxHeartbeats 4000000 in
theorem write_bad (V : Nat → Int) (w : World) (hnm : nmP (V 0) = 0) :
    Calls Tryd.prog 20 #[.agg #[.int .i64 (V 0), .int .i64 (V 1), .int .i64 (V 2), .int .i64 (V 3), .int .i64 (V 4), .int .i64 (V 5), .int .i64 (V 6), .int .i64 (V 7), .int .i64 (V 8), .int .i64 (V 9), .int .i64 (V 10), .int .i64 (V 11), .int .i64 (V 12), .int .i64 (V 13)], .int .u16 16130, .func (Fn.func 22) #[] #[]] w fun e w' => Below w.heap.size w w' ∧ ErrB w' e 0 61 := by
  have bz : Below w.heap.size w (w.alloc (.cells #[.int .i64 (V 0), .int .i64 (V 1), .int .i64 (V 2), .int .i64 (V 3), .int .i64 (V 4), .int .i64 (V 5), .int .i64 (V 6), .int .i64 (V 7), .int .i64 (V 8), .int .i64 (V 9), .int .i64 (V 10), .int .i64 (V 11), .int .i64 (V 12), .int .i64 (V 13)] 52)) := (Below.refl _ _).alloc (Nat.le_refl _) _
  have hv : VB (w.alloc (.cells #[.int .i64 (V 0), .int .i64 (V 1), .int .i64 (V 2), .int .i64 (V 3), .int .i64 (V 4), .int .i64 (V 5), .int .i64 (V 6), .int .i64 (V 7), .int .i64 (V 8), .int .i64 (V 9), .int .i64 (V 10), .int .i64 (V 11), .int .i64 (V 12), .int .i64 (V 13)] 52)) w.heap.size V := heap_alloc_new _ _
  have hv0 := hv.at 0 (by omega)
  have BZ := hd bz
  clear bz hv
  go_enter Tryd.func20, Tryd.ntmps20
  go_wp2_with fail
  generalize w.alloc (.cells #[.int .i64 (V 0), .int .i64 (V 1), .int .i64 (V 2), .int .i64 (V 3), .int .i64 (V 4), .int .i64 (V 5), .int .i64 (V 6), .int .i64 (V 7), .int .i64 (V 8), .int .i64 (V 9), .int .i64 (V 10), .int .i64 (V 11), .int .i64 (V 12), .int .i64 (V 13)] 52) = w0 at *
  refine (layout_any (V 0) _).mono ?_
  rintro e w1 ⟨rfl, b1⟩
  rw [hnm]
  have B1 := hd (BZ.out.trans (b1.mono BZ.out.size))
  clear b1
  go_wp2_with fail
  refine (wrap_any 0 61 _).mono ?_
  rintro e w2 ⟨v, rfl, hF, b2⟩
  have R : Hid (Below w.heap.size w w2 ∧ IsF w2 v 0 61) := ⟨(B1.out.alloc B1.out.size _).trans (b2.mono (by rw [World.size_alloc]; have := B1.out.size; omega)), hF⟩
  clear hF b2
  go_wp2
  refine bodyPost_ret (v := .tuple #[.slice none 0 0, v]) (by simp [results, Tryd.results20, go_sem]) rfl ?_
  exact ⟨R.out.1, v, rfl, R.out.2⟩

end Go.Proofs.YtibnlfdnnlbeeaaDoor
