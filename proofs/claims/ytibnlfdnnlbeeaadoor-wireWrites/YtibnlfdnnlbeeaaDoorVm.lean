/-
  oneItem.
-/
import Derived.Test.YtibnlfdnnlbeeaaDoorVl
import Derived.Deep.RegionHeld3
namespace Go.Proofs.YtibnlfdnnlbeeaaDoor
open Go.RowKit
set_option linter.unusedVariables false

theorem IsF.code {w : World} {v : Value} {p c : Int} (h : IsF w v p c) (hg : Handle w) :
    Calls Tryd.prog 16 #[v] w fun e w' => e = .returned (.int .i64 c) ∧ Below w.heap.size w w' := by
  obtain ⟨b, rfl, hh⟩ := h
  exact code_any b 0 c w hg (by rw [cell_row hh]; rfl)
theorem IsF.place {w : World} {v : Value} {p c : Int} (h : IsF w v p c) (hg : Handle w) :
    Calls Tryd.prog 17 #[v] w fun e w' => e = .returned (.int .i64 p) ∧ Below w.heap.size w w' := by
  obtain ⟨b, rfl, hh⟩ := h
  exact place_any b 0 p w hg (by rw [cell_row hh]; rfl)

/-- The errors of DecodeItem have a number from 61 to 63, and a place in the bytes. -/
theorem RdR.split {w : World} {bs : List Int} {V : Nat → Int} {v : Value} (h : RdR w bs V v) (hR : Rng bs) :
    (V = (fun _ => 0) ∧ ∃ p c, IsF w v p c ∧ 61 ≤ c ∧ c ≤ 63 ∧ 0 ≤ p ∧ p ≤ bs.length) ∨ (v = .nilIface ∧ Rel (itOf V) bs) := by
  rcases h with ⟨h1, h2, h3⟩ | ⟨h1, h2, h3, h4⟩ | ⟨h1, h2, h3, h4, h5⟩ | ⟨h1, h2, h3, h4, k, q1, q2, q3, q4, q5⟩ | ⟨rfl, h2, h3, h4, h5, h6⟩
  · exact .inl ⟨h1, _, _, h3, by omega, by omega, by omega, by omega⟩
  · exact .inl ⟨h1, _, _, h4, by omega, by omega, by omega, by omega⟩
  · exact .inl ⟨h1, _, _, h5, by omega, by omega, by omega, by omega⟩
  · have : posAt (nmP (bs.getD 0 0)) k ≤ bs.length := by rw [h4]; exact posAt_mono _ (by omega)
    exact .inl ⟨h1, _, _, q5, by omega, by omega, by omega, by omega⟩
  · exact .inr ⟨h2, rel_of_read bs hR h4 h5 h6⟩

theorem EncO.good {w w' : World} {x : It} {bs : List Int} {e : Ending} (h : EncO w x e w') (hr : Rel x bs) : Below w.heap.size w w' ∧ ∃ v, e = .returned (.tuple #[v, .nilIface]) ∧ OwnB w' w.heap.size v bs.length bs := by
  obtain ⟨h1, h2, h3, -⟩ := write_of_rel hr
  refine ⟨h.1, ?_⟩
  rcases h.2 with ⟨q, -⟩ | ⟨-, -, v, he, ho⟩ | ⟨-, k, hk, -, q1, q2, -⟩
  · exact absurd q h1
  · rw [h3] at ho
    exact ⟨v, he, ho⟩
  · have := h2 k hk q1
    rw [q2] at this
    exact absurd this (by decide)

theorem okx_rel {x : It} {bs : List Int} (h : Rel x bs) : OkX x := by
  rcases h with ⟨e, h1, h2, rfl, rfl⟩ | ⟨t, k, p, c, l, s, t1, t2, k1, k2, l1, l2, s1, s2, q1, q2, q3, q4, rfl, rfl⟩
  · constructor <;> simp [I64] <;> omega
  · have hp0 : 0 ≤ p ∧ p ≤ 4095 := by
      by_cases hk : k = 0
      · have := q1 hk; omega
      · exact q2 hk
    have hc0 : 0 ≤ c ∧ c ≤ 126 := by
      by_cases hk : k = 1
      · have := q3 hk; omega
      · have := q4 hk; omega
    constructor <;> simp [I64] <;> omega

set_option maxRecDepth 100000 in
set_option maxHeartbeats 8000000 in
theorem oneItem_any (a : Option Addr) (n c : Nat) (bs : List Int) (w : World) (hB : IsB w a n c bs) (hR : Rng bs) (hn : n ≤ 140737488351232) (hL : Lims w) (hH : Handle w) :
    Calls Tryd.prog 6 #[.slice a n c] w fun e w' => e = .returned (.bool true) ∧ Below w.heap.size w w' := by
  have HB := hd hB
  have HL := hd hL
  have HH := hd hH
  have hbn := hB.1
  clear hB hL hH
  go_enter Tryd.func6, Tryd.ntmps6
  go_wp2_with fail
  refine (decode_any a n c bs _ HB.out hR hn HL.out).mono ?_
  rintro e w1 ⟨V, v, rfl, hr, h11, b1⟩
  have b2 : Below w1.heap.size w1 (w1.alloc (.cells #[.int .i64 (V 0), .int .i64 (V 1), .int .i64 (V 8), .int .i64 (V 9), .int .i64 (V 10), .int .u8 (V 11), .int .i64 (V 12), .int .i64 (V 13)] 26)) := (Below.refl _ _).alloc (Nat.le_refl _) _
  have hx : (w1.alloc (.cells #[.int .i64 (V 0), .int .i64 (V 1), .int .i64 (V 8), .int .i64 (V 9), .int .i64 (V 10), .int .u8 (V 11), .int .i64 (V 12), .int .i64 (V 13)] 26)).heap[w1.heap.size]? = some (.cells #[.int .i64 (V 0), .int .i64 (V 1), .int .i64 (V 8), .int .i64 (V 9), .int .i64 (V 10), .int .u8 (V 11), .int .i64 (V 12), .int .i64 (V 13)] 26 (0, 0)) := heap_alloc_new _ _
  have B2 := hd (b1.trans (b2.mono b1.size))
  have HX := hd hx
  have L2 := hd (HL.out.below B2.out HL.out.lt)
  have H2 := hd (HH.out.below B2.out HH.out.pos)
  have IB2 := hd (HB.out.below B2.out)
  have c0 := (cell_row hx 0).trans (show _ = some (.int .i64 (V 0)) from rfl)
  have c1 := (cell_row hx 1).trans (show _ = some (.int .i64 (V 1)) from rfl)
  have c2 := (cell_row hx 2).trans (show _ = some (.int .i64 (V 8)) from rfl)
  have c3 := (cell_row hx 3).trans (show _ = some (.int .i64 (V 9)) from rfl)
  have c4 := (cell_row hx 4).trans (show _ = some (.int .i64 (V 10)) from rfl)
  have c5 := (cell_row hx 5).trans (show _ = some (.int .u8 (V 11)) from rfl)
  have c6 := (cell_row hx 6).trans (show _ = some (.int .i64 (V 12)) from rfl)
  have c7 := (cell_row hx 7).trans (show _ = some (.int .i64 (V 13)) from rfl)
  rcases (hr.below b2).split hR with ⟨hV, p, cd, hF, p1, p2, p3, p4⟩ | ⟨rfl, hrel⟩
  · have HF := hd hF
    obtain ⟨fb, hfb, -⟩ := hF
    subst hV
    subst hfb
    have p5 : p ≤ n := by omega
    clear hr b1 b2 hx h11 hR c0 c1 c2 c3 c4 c5 c6 c7
    go_wp2_with fail
    generalize w1.alloc (.cells #[.int .i64 0, .int .i64 0, .int .i64 0, .int .i64 0, .int .i64 0, .int .u8 0, .int .i64 0, .int .i64 0] 26) = w2 at *
    generalize w1.heap.size = xb at *
    refine (HF.out.code H2.out).mono ?_
    rintro e w3 ⟨rfl, b3⟩
    have F3 := hd (HF.out.below b3)
    have H3 := hd (H2.out.below b3 H2.out.pos)
    have B3 := hd (B2.out.trans (b3.mono B2.out.size))
    have X3 := hd ((b3.block _ (block_lt HX.out)).trans HX.out)
    clear b3 B2 HF H2 HX
    go_wp2_with fail
    refine (F3.out.place H3.out).mono ?_
    rintro e w4 ⟨rfl, b4⟩
    have B4 := hd (B3.out.trans (b4.mono B3.out.size))
    have hx4 := (b4.block _ (block_lt X3.out)).trans X3.out
    have c0 := (cell_row hx4 0).trans (show _ = some (.int .i64 0) from rfl)
    have c1 := (cell_row hx4 1).trans (show _ = some (.int .i64 0) from rfl)
    have c2 := (cell_row hx4 2).trans (show _ = some (.int .i64 0) from rfl)
    have c3 := (cell_row hx4 3).trans (show _ = some (.int .i64 0) from rfl)
    have c4 := (cell_row hx4 4).trans (show _ = some (.int .i64 0) from rfl)
    have c5 := (cell_row hx4 5).trans (show _ = some (.int .u8 0) from rfl)
    have c6 := (cell_row hx4 6).trans (show _ = some (.int .i64 0) from rfl)
    have c7 := (cell_row hx4 7).trans (show _ = some (.int .i64 0) from rfl)
    clear b4 hx4
    go_wp2
    go_ret
    exact ⟨by first | rfl | simp, B4.out⟩
  · have HREL := hd hrel
    have hok := (write_of_rel hrel).2.2.2
    have hokx := okx_rel hrel
    have hit := itemP_rel hrel
    clear hr b1 b2 hx hrel
    go_wp2_with fail
    generalize w1.alloc (.cells #[.int .i64 (V 0), .int .i64 (V 1), .int .i64 (V 8), .int .i64 (V 9), .int .i64 (V 10), .int .u8 (V 11), .int .i64 (V 12), .int .i64 (V 13)] 26) = w2 at *
    generalize w1.heap.size = xb at *
    refine (encode_any (itOf V) _ hok L2.out).mono ?_
    rintro e w3 hE
    obtain ⟨b3, u, rfl, ho⟩ := hE.good HREL.out
    obtain ⟨a', c', rfl, hB3⟩ := ho.isB
    rw [hbn] at hB3 ⊢
    have hx3 := (b3.block _ (block_lt HX.out)).trans HX.out
    have B3 := hd (B2.out.trans (b3.mono B2.out.size))
    have CE : Hid (∀ U, Below w3.heap.size w3 U → Calls Tryd.prog 12 #[.slice a' n c', .slice a n c] U fun e w' => e = .returned (.bool true) ∧ Below w3.heap.size w3 w') := fun U hU => by
      refine (eq_true a' a n c' c bs U (hB3.below hU) ((IB2.out.below b3).below hU)).mono ?_
      rintro e w' ⟨rfl, m, rfl⟩
      exact ⟨rfl, below_drewN hU m⟩
    have CI : Hid (∀ U, Below w3.heap.size w3 U → Calls Tryd.prog 7 #[.agg #[.int .i64 (V 0), .int .i64 (V 1), .int .i64 (V 8), .int .i64 (V 9), .int .i64 (V 10), .int .u8 (V 11), .int .i64 (V 12), .int .i64 (V 13)]] U fun e w' => e = .returned (.agg #[.int .i64 (V 0), .int .i64 (V 1), .int .i64 (V 8), .int .i64 (V 9), .int .i64 (V 10), .int .u8 (V 11), .int .i64 (V 12), .int .i64 (V 13)]) ∧ Below w3.heap.size w3 w') := fun U hU => by
      refine (litem_any (itOf V) U hokx).mono ?_
      rintro e w' ⟨rfl, b⟩
      rw [hit]
      exact ⟨rfl, hU.trans (b.mono hU.size)⟩
    have HX3 := hd hx3
    clear hE ho hB3 b3 hok hokx hit L2 H2 IB2 HX HREL c0 c1 c2 c3 c4 c5 c6 c7
    have c0 := (cell_row hx3 0).trans (show _ = some (.int .i64 (V 0)) from rfl)
    have c1 := (cell_row hx3 1).trans (show _ = some (.int .i64 (V 1)) from rfl)
    have c2 := (cell_row hx3 2).trans (show _ = some (.int .i64 (V 8)) from rfl)
    have c3 := (cell_row hx3 3).trans (show _ = some (.int .i64 (V 9)) from rfl)
    have c4 := (cell_row hx3 4).trans (show _ = some (.int .i64 (V 10)) from rfl)
    have c5 := (cell_row hx3 5).trans (show _ = some (.int .u8 (V 11)) from rfl)
    have c6 := (cell_row hx3 6).trans (show _ = some (.int .i64 (V 12)) from rfl)
    have c7 := (cell_row hx3 7).trans (show _ = some (.int .i64 (V 13)) from rfl)
    clear hx3
    go_wp2_with fail
    go_region_held3 (fun U => U.cell? ⟨xb, 0, none⟩ = some (.int .i64 (V 0)) ∧ U.cell? ⟨xb, 1, none⟩ = some (.int .i64 (V 1)) ∧ U.cell? ⟨xb, 2, none⟩ = some (.int .i64 (V 8)) ∧ U.cell? ⟨xb, 3, none⟩ = some (.int .i64 (V 9)) ∧ U.cell? ⟨xb, 4, none⟩ = some (.int .i64 (V 10)) ∧ U.cell? ⟨xb, 5, none⟩ = some (.int .u8 (V 11)) ∧ U.cell? ⟨xb, 6, none⟩ = some (.int .i64 (V 12)) ∧ U.cell? ⟨xb, 7, none⟩ = some (.int .i64 (V 13))) (first | (with_reducible exact ⟨by assumption, by assumption, by assumption, by assumption, by assumption, by assumption, by assumption, by assumption⟩) | (go_keep; done)) (first | (go_at_call 12; refine (CE.out _ ?_).mono ?_; (first | exact Below.refl _ _ | exact (Below.refl _ _).drew | exact below_drewN (Below.refl _ _) _); rintro e u1 ⟨rfl, bu1⟩; have hx5 := (bu1.block _ (block_lt HX3.out)).trans HX3.out; have d0 := (cell_row hx5 0).trans (show _ = some (.int .i64 (V 0)) from rfl); have d1 := (cell_row hx5 1).trans (show _ = some (.int .i64 (V 1)) from rfl); have d2 := (cell_row hx5 2).trans (show _ = some (.int .i64 (V 8)) from rfl); have d3 := (cell_row hx5 3).trans (show _ = some (.int .i64 (V 9)) from rfl); have d4 := (cell_row hx5 4).trans (show _ = some (.int .i64 (V 10)) from rfl); have d5 := (cell_row hx5 5).trans (show _ = some (.int .u8 (V 11)) from rfl); have d6 := (cell_row hx5 6).trans (show _ = some (.int .i64 (V 12)) from rfl); have d7 := (cell_row hx5 7).trans (show _ = some (.int .i64 (V 13)) from rfl)) | (go_at_call 7; refine (CI.out _ ?_).mono ?_; (first | exact Below.refl _ _ | exact (Below.refl _ _).drew | exact below_drewN (Below.refl _ _) _ | exact bu1 | exact bu1.drew | exact below_drewN bu1 _); rintro e u2 ⟨rfl, bu2⟩; have hx6 := (bu2.block _ (block_lt HX3.out)).trans HX3.out; have z0 := (cell_row hx6 0).trans (show _ = some (.int .i64 (V 0)) from rfl); have z1 := (cell_row hx6 1).trans (show _ = some (.int .i64 (V 1)) from rfl); have z2 := (cell_row hx6 2).trans (show _ = some (.int .i64 (V 8)) from rfl); have z3 := (cell_row hx6 3).trans (show _ = some (.int .i64 (V 9)) from rfl); have z4 := (cell_row hx6 4).trans (show _ = some (.int .i64 (V 10)) from rfl); have z5 := (cell_row hx6 5).trans (show _ = some (.int .u8 (V 11)) from rfl); have z6 := (cell_row hx6 6).trans (show _ = some (.int .i64 (V 12)) from rfl); have z7 := (cell_row hx6 7).trans (show _ = some (.int .i64 (V 13)) from rfl)))
    all_goals
      have R := hd (B3.out.trans (bu2.mono B3.out.size))
      clear bu1 bu2
      go_wp2
      go_ret
      exact ⟨by first | rfl | simp, R.out⟩

end Go.Proofs.YtibnlfdnnlbeeaaDoor
