/-
  WireItems.
-/
import Derived.Test.YtibnlfdnnlbeeaaDoorVm
namespace Go.Proofs.YtibnlfdnnlbeeaaDoor
open Go.RowKit
set_option linter.unusedVariables false

/-- An item in memory. -/
def XB (w : World) (b : Nat) (x : It) : Prop := w.heap[b]? = some (.cells #[.int .i64 x.kind, .int .i64 x.epoch, .int .i64 x.tag, .int .i64 x.ok, .int .i64 x.pos, .int .u8 x.ch, .int .i64 x.cl, .int .i64 x.sq] 26 (0, 0))
theorem XB.at {w : World} {b : Nat} {x : It} (h : XB w b x) : w.cell? ⟨b, 0, none⟩ = some (.int .i64 x.kind) ∧ w.cell? ⟨b, 1, none⟩ = some (.int .i64 x.epoch) ∧ w.cell? ⟨b, 2, none⟩ = some (.int .i64 x.tag) ∧ w.cell? ⟨b, 3, none⟩ = some (.int .i64 x.ok) ∧ w.cell? ⟨b, 4, none⟩ = some (.int .i64 x.pos) ∧ w.cell? ⟨b, 5, none⟩ = some (.int .u8 x.ch) ∧ w.cell? ⟨b, 6, none⟩ = some (.int .i64 x.cl) ∧ w.cell? ⟨b, 7, none⟩ = some (.int .i64 x.sq) := by
  refine ⟨?_, ?_, ?_, ?_, ?_, ?_, ?_, ?_⟩ <;> (rw [cell_row h]; rfl)
theorem XB.below {w w' : World} {b : Nat} {x : It} (h : XB w b x) (hb : Below w.heap.size w w') : XB w' b x := (hb.block b (block_lt h)).trans h
theorem XB.all {w : World} {b : Nat} {x : It} (h : XB w b x) (y : It) : XB ((((((((w.setCell ⟨b, 0, none⟩ (.int .i64 y.kind)).setCell ⟨b, 1, none⟩ (.int .i64 y.epoch)).setCell ⟨b, 2, none⟩ (.int .i64 y.tag)).setCell ⟨b, 3, none⟩ (.int .i64 y.ok)).setCell ⟨b, 4, none⟩ (.int .i64 y.pos)).setCell ⟨b, 5, none⟩ (.int .u8 y.ch)).setCell ⟨b, 6, none⟩ (.int .i64 y.cl)).setCell ⟨b, 7, none⟩ (.int .i64 y.sq)) b y ∧ But b w ((((((((w.setCell ⟨b, 0, none⟩ (.int .i64 y.kind)).setCell ⟨b, 1, none⟩ (.int .i64 y.epoch)).setCell ⟨b, 2, none⟩ (.int .i64 y.tag)).setCell ⟨b, 3, none⟩ (.int .i64 y.ok)).setCell ⟨b, 4, none⟩ (.int .i64 y.pos)).setCell ⟨b, 5, none⟩ (.int .u8 y.ch)).setCell ⟨b, 6, none⟩ (.int .i64 y.cl)).setCell ⟨b, 7, none⟩ (.int .i64 y.sq)) := by
  constructor
  · have h0 := set_row h 0 (.int .i64 y.kind)
    have h1 := set_row h0 1 (.int .i64 y.epoch)
    have h2 := set_row h1 2 (.int .i64 y.tag)
    have h3 := set_row h2 3 (.int .i64 y.ok)
    have h4 := set_row h3 4 (.int .i64 y.pos)
    have h5 := set_row h4 5 (.int .u8 y.ch)
    have h6 := set_row h5 6 (.int .i64 y.cl)
    have h7 := set_row h6 7 (.int .i64 y.sq)
    refine h7.trans ?_
    simp
  · exact (((((((But.setCell b _ 0 _).trans (But.setCell b _ 1 _)).trans (But.setCell b _ 2 _)).trans (But.setCell b _ 3 _)).trans (But.setCell b _ 4 _)).trans (But.setCell b _ 5 _)).trans (But.setCell b _ 6 _)).trans (But.setCell b _ 7 _)

theorem RdR.of_rel {w : World} {bs : List Int} {V : Nat → Int} {v : Value} {x : It} (h : RdR w bs V v) (hr : Rel x bs) : v = .nilIface ∧ itOf V = x := by
  obtain ⟨h1, h2, h3, h4, h5, h6⟩ := read_of_rel hr
  rcases h with ⟨-, q, -⟩ | ⟨-, -, q, -⟩ | ⟨-, -, -, q, -⟩ | ⟨-, -, -, -, k, q1, -, q3, q4, -⟩ | ⟨rfl, q, -⟩
  · exact absurd q h2
  · exact absurd q h3
  · exact absurd h4 q
  · have := h5 k q1 q3
    rw [q4] at this
    exact absurd this (by decide)
  · exact ⟨q, h6⟩
theorem rel_len {x : It} {bs : List Int} (h : Rel x bs) : bs.length ≤ 9 := by
  rcases h with ⟨e, -, -, -, rfl⟩ | ⟨t, k, p, c, l, s, -, -, -, -, -, -, -, -, -, -, -, -, -, rfl⟩ <;> simp

set_option maxRecDepth 100000 in
set_option maxHeartbeats 8000000 in
theorem wireItems_any (a : Option Addr) (n c : Nat) (bs : List Int) (x : It) (w : World) (hB : IsB w a n c bs) (hR : Rng bs) (hn : n ≤ 140737488351232) (hX : OkX x) (hL : Lims w) (hH : Handle w) :
    Calls Tryd.prog 3 #[.slice a n c, x.val] w fun e w' => e = .returned (.bool true) ∧ Below w.heap.size w w' := by
  show Calls Tryd.prog 3 #[.slice a n c, .agg #[.int .i64 x.kind, .int .i64 x.epoch, .int .i64 x.tag, .int .i64 x.ok, .int .i64 x.pos, .int .u8 x.ch, .int .i64 x.cl, .int .i64 x.sq]] w fun e w' => e = .returned (.bool true) ∧ Below w.heap.size w w'
  have bz : Below w.heap.size w (w.alloc (.cells #[.int .i64 x.kind, .int .i64 x.epoch, .int .i64 x.tag, .int .i64 x.ok, .int .i64 x.pos, .int .u8 x.ch, .int .i64 x.cl, .int .i64 x.sq] 26)) := (Below.refl _ _).alloc (Nat.le_refl _) _
  have hxb : XB (w.alloc (.cells #[.int .i64 x.kind, .int .i64 x.epoch, .int .i64 x.tag, .int .i64 x.ok, .int .i64 x.pos, .int .u8 x.ch, .int .i64 x.cl, .int .i64 x.sq] 26)) w.heap.size x := heap_alloc_new _ _
  have BZ := hd bz
  have HX := hd hxb
  have HB := hd (hB.below bz)
  have HL := hd (hL.below bz hL.lt)
  have HH := hd (hH.below bz hH.pos)
  have hlt : 1 < w.heap.size := hL.lt
  clear hB hL hH bz hxb
  go_enter Tryd.func3, Tryd.ntmps3
  go_wp2_with fail
  generalize w.alloc (.cells #[.int .i64 x.kind, .int .i64 x.epoch, .int .i64 x.tag, .int .i64 x.ok, .int .i64 x.pos, .int .u8 x.ch, .int .i64 x.cl, .int .i64 x.sq] 26) = w0 at *
  refine (oneItem_any a n c bs _ HB.out hR hn HL.out HH.out).mono ?_
  rintro e w1 ⟨rfl, b1⟩
  have B1 := hd (BZ.out.trans (b1.mono BZ.out.size))
  have X1 := hd (HX.out.below b1)
  have L1 := hd (HL.out.below b1 HL.out.lt)
  clear b1 BZ HX HB HL HH
  obtain ⟨c0, c1, c2, c3, c4, c5, c6, c7⟩ := X1.out.at
  go_wp2_with fail
  refine (litem_any x _ hX).mono ?_
  rintro e w2 ⟨rfl, b2⟩
  have X2 := X1.out.below b2
  obtain ⟨bs', hrel⟩ := rel_itemP x
  generalize itemP x = y at *
  obtain ⟨A1, A2⟩ := X2.all y
  have B2 := B1.out.trans (b2.mono B1.out.size)
  have B3 := hd (B2.trans (A2.below B2.size (Nat.le_refl _)))
  have X3 := hd A1
  have L3 := hd ((L1.out.below b2 L1.out.lt).but A2 (by omega))
  have HREL := hd hrel
  have hok := (write_of_rel hrel).2.2.2
  obtain ⟨d0, d1, d2, d3, d4, d5, d6, d7⟩ := X2.at
  have f0 := frozen_row X2 0
  have f1 := frozen_row X2 1
  have f2 := frozen_row X2 2
  have f3 := frozen_row X2 3
  have f4 := frozen_row X2 4
  have f5 := frozen_row X2 5
  have f6 := frozen_row X2 6
  have f7 := frozen_row X2 7
  obtain ⟨q0, q1, q2, q3, q4, q5, q6, q7⟩ := A1.at
  clear A1 A2 X2 B1 B2 b2 X1 L1 hrel c0 c1 c2 c3 c4 c5 c6 c7 hX
  unfold It.val
  go_wp2_with fail
  generalize ((((((((w2.setCell ⟨w.heap.size, 0, none⟩ (.int .i64 y.kind)).setCell ⟨w.heap.size, 1, none⟩ (.int .i64 y.epoch)).setCell ⟨w.heap.size, 2, none⟩ (.int .i64 y.tag)).setCell ⟨w.heap.size, 3, none⟩ (.int .i64 y.ok)).setCell ⟨w.heap.size, 4, none⟩ (.int .i64 y.pos)).setCell ⟨w.heap.size, 5, none⟩ (.int .u8 y.ch)).setCell ⟨w.heap.size, 6, none⟩ (.int .i64 y.cl)).setCell ⟨w.heap.size, 7, none⟩ (.int .i64 y.sq)) = w3 at *
  refine (encode_any y _ hok L3.out).mono ?_
  rintro e w4 hE
  obtain ⟨b4, u, rfl, ho⟩ := hE.good HREL.out
  obtain ⟨a', c', rfl, hB4⟩ := ho.isB
  have B4 := hd (B3.out.trans (b4.mono B3.out.size))
  have X4 := hd (X3.out.below b4)
  have L4 := hd (L3.out.below b4 L3.out.lt)
  have HB4 := hd hB4
  have hln := rel_len HREL.out
  clear hE ho hB4 b4 B3 X3 L3 d0 d1 d2 d3 d4 d5 d6 d7 q0 q1 q2 q3 q4 q5 q6 q7 f0 f1 f2 f3 f4 f5 f6 f7
  generalize bs'.length = n' at *
  go_wp2_with fail
  refine (decode_any a' n' c' bs' _ HB4.out (read_of_rel HREL.out).1 (by omega) L4.out).mono ?_
  rintro e w5 ⟨V, v, rfl, hr, -, b5⟩
  obtain ⟨rfl, hV⟩ := hr.of_rel HREL.out
  have X5 := hd (X4.out.below b5)
  have B5 := hd (B4.out.trans (b5.mono B4.out.size))
  subst hV
  have b6 : Below w5.heap.size w5 (w5.alloc (.cells #[.int .i64 (V 0), .int .i64 (V 1), .int .i64 (V 8), .int .i64 (V 9), .int .i64 (V 10), .int .u8 (V 11), .int .i64 (V 12), .int .i64 (V 13)] 26)) := (Below.refl _ _).alloc (Nat.le_refl _) _
  have hx6 := (X5.out.below b6).at
  simp only [itOf] at hx6
  obtain ⟨c0, c1, c2, c3, c4, c5, c6, c7⟩ := hx6
  have R := hd (B5.out.trans (b6.mono B5.out.size))
  clear hr b5 b6 B4 X4 L4 HB4 B5 X5 hok HREL
  go_wp2
  go_ret
  exact ⟨by first | rfl | simp, R.out⟩

end Go.Proofs.YtibnlfdnnlbeeaaDoor
