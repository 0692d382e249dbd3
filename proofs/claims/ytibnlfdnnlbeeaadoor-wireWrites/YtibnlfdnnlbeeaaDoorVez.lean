/-
  wire.read, of items: a part of the walk.
-/
import Derived.Test.YtibnlfdnnlbeeaaDoorVe
namespace Go.Proofs.YtibnlfdnnlbeeaaDoor
open Go.RowKit
set_option linter.unusedVariables false

set_option maxRecDepth 100000 in
set_option maxHeartbeats 8000000 in
theorem read_none (a : Option Addr) (n c : Nat) (bs : List Int) (w : World) (hB : IsB w a n c bs) (hR : Rng bs) (hn : n ≤ 140737488351232) (hL : Lims w) (hz : n = 0) :
    Calls Tryd.prog 23 #[.slice a n c, .func (Fn.func 22) #[] #[]] w (ReadO w bs) := by
  suffices h : ∀ Q : Ending → World → Prop, (∀ e w', ReadO w bs e w' → Q e w') → Calls Tryd.prog 23 #[.slice a n c, .func (Fn.func 22) #[] #[]] w Q from h _ (fun _ _ h => h)
  intro Q hQ
  have HQ := hd hQ
  clear hQ
  have bz : Below w.heap.size w (w.alloc (.cells #[.int .i64 0, .int .i64 0, .int .i64 0, .int .i64 0, .int .i64 0, .int .i64 0, .int .i64 0, .int .i64 0, .int .i64 0, .int .i64 0, .int .i64 0, .int .i64 0, .int .i64 0, .int .i64 0] 52)) := (Below.refl _ _).alloc (Nat.le_refl _) _
  have hv : VB (w.alloc (.cells #[.int .i64 0, .int .i64 0, .int .i64 0, .int .i64 0, .int .i64 0, .int .i64 0, .int .i64 0, .int .i64 0, .int .i64 0, .int .i64 0, .int .i64 0, .int .i64 0, .int .i64 0, .int .i64 0] 52)) w.heap.size (fun _ => 0) := heap_alloc_new _ _
  have HL := hd (hL.below bz hL.lt)
  have HB := hd (hB.below bz)
  have BZ := hd bz
  have HV := hd hv
  have HR := hd hR
  have hl0 := hL.lt
  have hbn := hB.1
  have HBN := hd hbn
  have hsz : (w.alloc (.cells #[.int .i64 0, .int .i64 0, .int .i64 0, .int .i64 0, .int .i64 0, .int .i64 0, .int .i64 0, .int .i64 0, .int .i64 0, .int .i64 0, .int .i64 0, .int .i64 0, .int .i64 0, .int .i64 0] 52)).heap.size = w.heap.size + 1 := by simp
  clear bz hv hL hB hR
  go_enter Tryd.func23, Tryd.ntmps23
  subst hz
  obtain rfl : bs = [] := List.eq_nil_of_length_eq_zero hbn
  go_wp2_with fail
  refine (wrap_new 0 62 _).mono ?_
  rintro e w1 ⟨v, rfl, hF, b1, hb⟩
  have hv1 := HV.out.below b1
  have c0 := hv1.at 0 (by omega)
  have g0 := hv1.frozen 0
  have c1 := hv1.at 1 (by omega)
  have g1 := hv1.frozen 1
  have c2 := hv1.at 2 (by omega)
  have g2 := hv1.frozen 2
  have c3 := hv1.at 3 (by omega)
  have g3 := hv1.frozen 3
  have c4 := hv1.at 4 (by omega)
  have g4 := hv1.frozen 4
  have c5 := hv1.at 5 (by omega)
  have g5 := hv1.frozen 5
  have c6 := hv1.at 6 (by omega)
  have g6 := hv1.frozen 6
  have c7 := hv1.at 7 (by omega)
  have g7 := hv1.frozen 7
  have c8 := hv1.at 8 (by omega)
  have g8 := hv1.frozen 8
  have c9 := hv1.at 9 (by omega)
  have g9 := hv1.frozen 9
  have c10 := hv1.at 10 (by omega)
  have g10 := hv1.frozen 10
  have c11 := hv1.at 11 (by omega)
  have g11 := hv1.frozen 11
  have c12 := hv1.at 12 (by omega)
  have g12 := hv1.frozen 12
  have c13 := hv1.at 13 (by omega)
  have g13 := hv1.frozen 13
  obtain ⟨A1, A2⟩ := hv1.all (fun _ => 0)
  have R : Hid (Below w.heap.size w ((((((((((((((w1.setCell ⟨w.heap.size, 0, none⟩ (.int .i64 0)).setCell ⟨w.heap.size, 1, none⟩ (.int .i64 0)).setCell ⟨w.heap.size, 2, none⟩ (.int .i64 0)).setCell ⟨w.heap.size, 3, none⟩ (.int .i64 0)).setCell ⟨w.heap.size, 4, none⟩ (.int .i64 0)).setCell ⟨w.heap.size, 5, none⟩ (.int .i64 0)).setCell ⟨w.heap.size, 6, none⟩ (.int .i64 0)).setCell ⟨w.heap.size, 7, none⟩ (.int .i64 0)).setCell ⟨w.heap.size, 8, none⟩ (.int .i64 0)).setCell ⟨w.heap.size, 9, none⟩ (.int .i64 0)).setCell ⟨w.heap.size, 10, none⟩ (.int .i64 0)).setCell ⟨w.heap.size, 11, none⟩ (.int .i64 0)).setCell ⟨w.heap.size, 12, none⟩ (.int .i64 0)).setCell ⟨w.heap.size, 13, none⟩ (.int .i64 0)) ∧ IsF ((((((((((((((w1.setCell ⟨w.heap.size, 0, none⟩ (.int .i64 0)).setCell ⟨w.heap.size, 1, none⟩ (.int .i64 0)).setCell ⟨w.heap.size, 2, none⟩ (.int .i64 0)).setCell ⟨w.heap.size, 3, none⟩ (.int .i64 0)).setCell ⟨w.heap.size, 4, none⟩ (.int .i64 0)).setCell ⟨w.heap.size, 5, none⟩ (.int .i64 0)).setCell ⟨w.heap.size, 6, none⟩ (.int .i64 0)).setCell ⟨w.heap.size, 7, none⟩ (.int .i64 0)).setCell ⟨w.heap.size, 8, none⟩ (.int .i64 0)).setCell ⟨w.heap.size, 9, none⟩ (.int .i64 0)).setCell ⟨w.heap.size, 10, none⟩ (.int .i64 0)).setCell ⟨w.heap.size, 11, none⟩ (.int .i64 0)).setCell ⟨w.heap.size, 12, none⟩ (.int .i64 0)).setCell ⟨w.heap.size, 13, none⟩ (.int .i64 0)) v 0 62) := ⟨(BZ.out.trans (b1.mono (by omega))).trans (A2.below (by have := b1.size; omega) (Nat.le_refl _)), hF.but A2 (u := w.alloc (.cells #[.int .i64 0, .int .i64 0, .int .i64 0, .int .i64 0, .int .i64 0, .int .i64 0, .int .i64 0, .int .i64 0, .int .i64 0, .int .i64 0, .int .i64 0, .int .i64 0, .int .i64 0, .int .i64 0] 52)) (by omega) hb⟩
  have q0 := A1.at 0 (by omega)
  have q1 := A1.at 1 (by omega)
  have q2 := A1.at 2 (by omega)
  have q3 := A1.at 3 (by omega)
  have q4 := A1.at 4 (by omega)
  have q5 := A1.at 5 (by omega)
  have q6 := A1.at 6 (by omega)
  have q7 := A1.at 7 (by omega)
  have q8 := A1.at 8 (by omega)
  have q9 := A1.at 9 (by omega)
  have q10 := A1.at 10 (by omega)
  have q11 := A1.at 11 (by omega)
  have q12 := A1.at 12 (by omega)
  have q13 := A1.at 13 (by omega)
  clear hF b1 hb hv1 A1 A2
  go_wp2
  refine bodyPost_ret (v := .tuple #[.agg #[.int .i64 0, .int .i64 0, .int .i64 0, .int .i64 0, .int .i64 0, .int .i64 0, .int .i64 0, .int .i64 0, .int .i64 0, .int .i64 0, .int .i64 0, .int .i64 0, .int .i64 0, .int .i64 0], v]) (by simp [results, Tryd.results23, go_sem, q0, q1, q2, q3, q4, q5, q6, q7, q8, q9, q10, q11, q12, q13]) rfl ?_
  exact HQ.out _ _ ⟨R.out.1, .inl ⟨rfl, v, rfl, R.out.2⟩⟩

end Go.Proofs.YtibnlfdnnlbeeaaDoor
