/-
  OtShifts.
-/
import Derived.Test.YtmkgkgdngjmcmaaDoorWg
import Derived.Test.YtmkgkgdngjmcmaaDoorTa
namespace Go.Proofs.YtmkgkgdngjmcmaaDoor
open Go.RowKit
set_option linter.unusedVariables false

structure TwoE where
  a : OpE
  b : OpE
  f : Bool

def twc (x : TwoE) : List Value := [.int .i64 x.a.kind, .int .i64 x.a.pos, .int .u8 x.a.ch, .int .i64 x.a.cl, .int .i64 x.a.sq, .int .i64 x.b.kind, .int .i64 x.b.pos, .int .u8 x.b.ch, .int .i64 x.b.cl, .int .i64 x.b.sq, .bool x.f]

/-- The slice value at a, of n pairs, holds T. -/
def IsT (w : World) (a : Option Addr) (n c : Nat) (T : Nat → TwoE) : Prop :=
  n ≤ c ∧ c ≤ 9223372036854775807 ∧
  (0 < n → ∃ b off, a = some ⟨b, off, none⟩ ∧ b < w.heap.size ∧ ∀ i, i < n → ∀ j v, (twc (T i))[j]? = some v → w.cell? ⟨b, off + i * 11 + j, none⟩ = some v)

theorem below_undrew {W w1 : World} (h : Below W.drew.heap.size W.drew w1) : Below W.heap.size W w1 := ((Below.refl W.heap.size W).drew).trans h

set_option maxRecDepth 100000 in
set_option maxHeartbeats 8000000 in
theorem otShifts_any (a : Option Addr) (n c : Nat) (T : Nat → TwoE) (w : World) (hT : Table w) (hE : IsT w a n c T) :
    Calls Tryd.prog 4 #[.slice a n c] w fun e w' => e = .returned (.bool true) ∧ Below w.heap.size w w' := by
  have hc := hE.1
  have hc' := hE.2.1
  have HE := hd hE
  have HT := hd hT
  clear hE hT
  go_enter Tryd.func4, Tryd.ntmps4
  go_wp2
  go_loopw [3] (fun i wr => ∃ k : Nat, k ≤ n ∧ i = .int .i64 k ∧ Hid (Below w.heap.size w wr)) (fun i _ => n - (intOf i).toNat)
  case atStart => exact ⟨0, Nat.zero_le _, rfl, Below.refl _ _⟩
  case round =>
    obtain ⟨k, hk, rfl, hB⟩ := hrel
    by_cases hlt : k < n
    · obtain ⟨b, off, rfl, hb, hcell⟩ := HE.out.2.2 (by omega)
      have i1 : (k : Int) < (n : Int) := by omega
      have hl := Nat.lt_of_lt_of_le hb hB.out.size
      have fact : ∀ j v, (twc (T k))[j]? = some v → wr.cell? ⟨b, off + k * 11 + j, none⟩ = some v := fun j v h => (hB.out.cell (p := ⟨b, off + k * 11 + j, none⟩) hb).trans (hcell k hlt j v h)
      generalize T k = x at *
      obtain ⟨⟨ak, ap, ac, al, aq⟩, ⟨bk, bp, bc, bl, bq⟩, f⟩ := x
      have e0 := fact 0 _ rfl
      have e1 := fact 1 _ rfl
      have e2 := fact 2 _ rfl
      have e3 := fact 3 _ rfl
      have e4 := fact 4 _ rfl
      have e5 := fact 5 _ rfl
      have e6 := fact 6 _ rfl
      have e7 := fact 7 _ rfl
      have e8 := fact 8 _ rfl
      have e9 := fact 9 _ rfl
      have e10 := fact 10 _ rfl
      simp only [Nat.add_zero] at e0
      clear fact hcell
      go_wp2_with fail
      go_region_held3 (fun W => W.cell? ⟨b, off + k * 11, none⟩ = some (.int .i64 ak) ∧ W.cell? ⟨b, off + k * 11 + 1, none⟩ = some (.int .i64 ap) ∧ W.cell? ⟨b, off + k * 11 + 2, none⟩ = some (.int .u8 ac) ∧ W.cell? ⟨b, off + k * 11 + 3, none⟩ = some (.int .i64 al) ∧ W.cell? ⟨b, off + k * 11 + 4, none⟩ = some (.int .i64 aq) ∧ W.cell? ⟨b, off + k * 11 + 5, none⟩ = some (.int .i64 bk) ∧ W.cell? ⟨b, off + k * 11 + 6, none⟩ = some (.int .i64 bp) ∧ W.cell? ⟨b, off + k * 11 + 7, none⟩ = some (.int .u8 bc) ∧ W.cell? ⟨b, off + k * 11 + 8, none⟩ = some (.int .i64 bl) ∧ W.cell? ⟨b, off + k * 11 + 9, none⟩ = some (.int .i64 bq) ∧ W.cell? ⟨b, off + k * 11 + 10, none⟩ = some (.bool f)) (first | (with_reducible exact ⟨by assumption, by assumption, by assumption, by assumption, by assumption, by assumption, by assumption, by assumption, by assumption, by assumption, by assumption⟩) | (go_keep; done)) (fail)
      · obtain ⟨V, hV⟩ : ∃ V, V = ((wr.alloc (.cells #[.int .i64 ak, .int .i64 ap, .int .u8 ac, .int .i64 al, .int .i64 aq] 23 (0, 0))).alloc (.cells #[.int .i64 bk, .int .i64 bp, .int .u8 bc, .int .i64 bl, .int .i64 bq] 23 (0, 0))).drew := ⟨_, rfl⟩
        have F : Hid (∀ w1, Below V.heap.size V w1 → w1.heap[wr.heap.size]? = some (.cells #[.int .i64 ak, .int .i64 ap, .int .u8 ac, .int .i64 al, .int .i64 aq] 23 (0, 0)) ∧ w1.heap[wr.heap.size + 1]? = some (.cells #[.int .i64 bk, .int .i64 bp, .int .u8 bc, .int .i64 bl, .int .i64 bq] 23 (0, 0)) ∧ Below w.heap.size w w1 ∧ wr.heap.size + 2 ≤ w1.heap.size) := fun w1 h => by
          subst hV
          obtain ⟨h1, h2, h3, h4⟩ := two_cells (w := wr) (below_undrew h)
          exact ⟨h1, h2, hB.out.trans (h3.mono hB.out.size), h4⟩
        rw [← hV]
        obtain ⟨pa, pb, pB, pz⟩ := F.out V (Below.refl _ _)
        obtain ⟨⟨a0, a1, a2, a3, a4⟩, -⟩ := cells5 pa
        obtain ⟨⟨d0, d1, d2, d3, d4⟩, -⟩ := cells5 pb
        have TV := hd (HT.out.below pB HT.out.1)
        clear hV pa pb pB pz e0 e1 e2 e3 e4 e5 e6 e7 e8 e9 e10
        go_wp2_with fail
        obtain ⟨⟨xk, xp, xc, xl, xq⟩, hX⟩ : ∃ X, shiftP ⟨ak, ap, ac, al, aq⟩ ⟨bk, bp, bc, bl, bq⟩ f = X := ⟨_, rfl⟩
        have HX := hd hX
        clear hX
        go_region_held3 (fun W => W.cell? ⟨wr.heap.size, 0, none⟩ = some (.int .i64 ak) ∧ W.cell? ⟨wr.heap.size, 1, none⟩ = some (.int .i64 ap) ∧ W.cell? ⟨wr.heap.size, 2, none⟩ = some (.int .u8 ac) ∧ W.cell? ⟨wr.heap.size, 3, none⟩ = some (.int .i64 al) ∧ W.cell? ⟨wr.heap.size, 4, none⟩ = some (.int .i64 aq) ∧ W.cell? ⟨wr.heap.size + 1, 0, none⟩ = some (.int .i64 bk) ∧ W.cell? ⟨wr.heap.size + 1, 1, none⟩ = some (.int .i64 bp) ∧ W.cell? ⟨wr.heap.size + 1, 2, none⟩ = some (.int .u8 bc) ∧ W.cell? ⟨wr.heap.size + 1, 3, none⟩ = some (.int .i64 bl) ∧ W.cell? ⟨wr.heap.size + 1, 4, none⟩ = some (.int .i64 bq)) (first | (with_reducible exact ⟨by assumption, by assumption, by assumption, by assumption, by assumption, by assumption, by assumption, by assumption, by assumption, by assumption⟩) | (go_keep; done)) (first | (go_at_call 9; refine (shift_any ⟨ak, ap, ac, al, aq⟩ ⟨bk, bp, bc, bl, bq⟩ f _ (TV.out.heap ?_)).mono ?_; exact rfl; rintro e w1 ⟨rfl, b1'⟩; rw [HX.out]; simp only [OpE.val]; have b1 : Below V.heap.size V w1 := (below_drewN (Below.refl V.heap.size V) 1).trans b1'; obtain ⟨pa, pb, pB, pz⟩ := F.out w1 b1; obtain ⟨⟨a0, a1, a2, a3, a4⟩, -⟩ := cells5 pa; obtain ⟨⟨d0, d1, d2, d3, d4⟩, -⟩ := cells5 pb; have B1 := hd b1; clear pa pb pB pz b1 b1') | (go_at_call 10; refine (rshift_any ⟨ak, ap, ac, al, aq⟩ ⟨bk, bp, bc, bl, bq⟩ f _).mono ?_; rintro e w2 ⟨rfl, b2'⟩; rw [HX.out]; simp only [OpE.val]; have b2 : Below V.heap.size V w2 := B1.out.trans (b2'.mono B1.out.size); obtain ⟨pa, pb, pB, pz⟩ := F.out w2 b2; obtain ⟨⟨a0, a1, a2, a3, a4⟩, -⟩ := cells5 pa; obtain ⟨⟨d0, d1, d2, d3, d4⟩, -⟩ := cells5 pb; have T2 := hd (HT.out.below pB HT.out.1); have B2 := hd b2; clear pa pb pB pz b2 b2'))
        go_wp2_with fail
        obtain ⟨⟨yk, yp, yc, yl, yq⟩, hY⟩ : ∃ X, shiftP ⟨ak, ap, ac, al, aq⟩ ⟨bk, bp, bc, bl, bq⟩ true = X := ⟨_, rfl⟩
        obtain ⟨⟨zk, zp, zc, zl, zq⟩, hZ⟩ : ∃ X, shiftP ⟨bk, bp, bc, bl, bq⟩ ⟨ak, ap, ac, al, aq⟩ false = X := ⟨_, rfl⟩
        have HY := hd hY
        have HZ := hd hZ
        clear hY hZ a0 a1 a2 a3 a4 d0 d1 d2 d3 d4
        refine (cross_of ⟨ak, ap, ac, al, aq⟩ ⟨bk, bp, bc, bl, bq⟩ _ _ w2 T2.out HY.out HZ.out).mono ?_
        rintro e w3 ⟨rfl, b3'⟩
        simp only [OpE.val]
        have b3 := B2.out.trans (b3'.mono B2.out.size)
        obtain ⟨pa, pb, pB, pz⟩ := F.out w3 b3
        obtain ⟨⟨a0, a1, a2, a3, a4⟩, -⟩ := cells5 pa
        obtain ⟨⟨d0, d1, d2, d3, d4⟩, -⟩ := cells5 pb
        have T3 := hd (HT.out.below pB HT.out.1)
        have n0 : wr.heap.size < w3.heap.size := by omega
        have n1 : wr.heap.size + 1 < w3.heap.size := by omega
        have B3 := hd b3
        clear pa pb pB pz b3 b3' T2 B2
        go_wp2_with fail
        refine (rcross_of ⟨ak, ap, ac, al, aq⟩ ⟨bk, bp, bc, bl, bq⟩ _ _ _ HY.out HZ.out).mono ?_
        rintro e w4 ⟨rfl, b4'⟩
        simp only [OpE.val]
        obtain ⟨py, pz, pB, pn⟩ := two_cells b4'
        obtain ⟨⟨y0, y1, y2, y3, y4⟩, -⟩ := cells5 py
        obtain ⟨⟨z0, z1, z2, z3, z4⟩, -⟩ := cells5 pz
        obtain ⟨-, -, qB, -⟩ := F.out w4 (B3.out.trans (pB.mono B3.out.size))
        have B4 := hd qB
        have m0 : w3.heap.size < w4.heap.size := by omega
        have m1 : w3.heap.size + 1 < w4.heap.size := by omega
        clear py pz pB pn b4' qB a0 a1 a2 a3 a4 d0 d1 d2 d3 d4 T3 B3 n0 n1
        go_wp2
        exact ⟨⟨k + 1, by omega, by go_num, ((B4.out.alloc (by have := B4.out.size; omega) _).alloc (by have := B4.out.size; simp; omega) _)⟩, by simp [intOf]; omega⟩
      · obtain ⟨V, hV⟩ : ∃ V, V = ((wr.alloc (.cells #[.int .i64 bk, .int .i64 bp, .int .u8 bc, .int .i64 bl, .int .i64 bq] 23 (0, 0))).alloc (.cells #[.int .i64 ak, .int .i64 ap, .int .u8 ac, .int .i64 al, .int .i64 aq] 23 (0, 0))).drew := ⟨_, rfl⟩
        have F : Hid (∀ w1, Below V.heap.size V w1 → w1.heap[wr.heap.size + 1]? = some (.cells #[.int .i64 ak, .int .i64 ap, .int .u8 ac, .int .i64 al, .int .i64 aq] 23 (0, 0)) ∧ w1.heap[wr.heap.size]? = some (.cells #[.int .i64 bk, .int .i64 bp, .int .u8 bc, .int .i64 bl, .int .i64 bq] 23 (0, 0)) ∧ Below w.heap.size w w1 ∧ wr.heap.size + 2 ≤ w1.heap.size) := fun w1 h => by
          subst hV
          obtain ⟨h1, h2, h3, h4⟩ := two_cells (w := wr) (below_undrew h)
          exact ⟨h2, h1, hB.out.trans (h3.mono hB.out.size), h4⟩
        rw [← hV]
        obtain ⟨pa, pb, pB, pz⟩ := F.out V (Below.refl _ _)
        obtain ⟨⟨a0, a1, a2, a3, a4⟩, -⟩ := cells5 pa
        obtain ⟨⟨d0, d1, d2, d3, d4⟩, -⟩ := cells5 pb
        have TV := hd (HT.out.below pB HT.out.1)
        clear hV pa pb pB pz e0 e1 e2 e3 e4 e5 e6 e7 e8 e9 e10
        go_wp2_with fail
        obtain ⟨⟨xk, xp, xc, xl, xq⟩, hX⟩ : ∃ X, shiftP ⟨ak, ap, ac, al, aq⟩ ⟨bk, bp, bc, bl, bq⟩ f = X := ⟨_, rfl⟩
        have HX := hd hX
        clear hX
        go_region_held3 (fun W => W.cell? ⟨wr.heap.size + 1, 0, none⟩ = some (.int .i64 ak) ∧ W.cell? ⟨wr.heap.size + 1, 1, none⟩ = some (.int .i64 ap) ∧ W.cell? ⟨wr.heap.size + 1, 2, none⟩ = some (.int .u8 ac) ∧ W.cell? ⟨wr.heap.size + 1, 3, none⟩ = some (.int .i64 al) ∧ W.cell? ⟨wr.heap.size + 1, 4, none⟩ = some (.int .i64 aq) ∧ W.cell? ⟨wr.heap.size, 0, none⟩ = some (.int .i64 bk) ∧ W.cell? ⟨wr.heap.size, 1, none⟩ = some (.int .i64 bp) ∧ W.cell? ⟨wr.heap.size, 2, none⟩ = some (.int .u8 bc) ∧ W.cell? ⟨wr.heap.size, 3, none⟩ = some (.int .i64 bl) ∧ W.cell? ⟨wr.heap.size, 4, none⟩ = some (.int .i64 bq)) (first | (with_reducible exact ⟨by assumption, by assumption, by assumption, by assumption, by assumption, by assumption, by assumption, by assumption, by assumption, by assumption⟩) | (go_keep; done)) (first | (go_at_call 9; refine (shift_any ⟨ak, ap, ac, al, aq⟩ ⟨bk, bp, bc, bl, bq⟩ f _ (TV.out.heap ?_)).mono ?_; exact rfl; rintro e w1 ⟨rfl, b1'⟩; rw [HX.out]; simp only [OpE.val]; have b1 : Below V.heap.size V w1 := (below_drewN (Below.refl V.heap.size V) 1).trans b1'; obtain ⟨pa, pb, pB, pz⟩ := F.out w1 b1; obtain ⟨⟨a0, a1, a2, a3, a4⟩, -⟩ := cells5 pa; obtain ⟨⟨d0, d1, d2, d3, d4⟩, -⟩ := cells5 pb; have B1 := hd b1; clear pa pb pB pz b1 b1') | (go_at_call 10; refine (rshift_any ⟨ak, ap, ac, al, aq⟩ ⟨bk, bp, bc, bl, bq⟩ f _).mono ?_; rintro e w2 ⟨rfl, b2'⟩; rw [HX.out]; simp only [OpE.val]; have b2 : Below V.heap.size V w2 := B1.out.trans (b2'.mono B1.out.size); obtain ⟨pa, pb, pB, pz⟩ := F.out w2 b2; obtain ⟨⟨a0, a1, a2, a3, a4⟩, -⟩ := cells5 pa; obtain ⟨⟨d0, d1, d2, d3, d4⟩, -⟩ := cells5 pb; have T2 := hd (HT.out.below pB HT.out.1); have B2 := hd b2; clear pa pb pB pz b2 b2'))
        go_wp2_with fail
        obtain ⟨⟨yk, yp, yc, yl, yq⟩, hY⟩ : ∃ X, shiftP ⟨ak, ap, ac, al, aq⟩ ⟨bk, bp, bc, bl, bq⟩ true = X := ⟨_, rfl⟩
        obtain ⟨⟨zk, zp, zc, zl, zq⟩, hZ⟩ : ∃ X, shiftP ⟨bk, bp, bc, bl, bq⟩ ⟨ak, ap, ac, al, aq⟩ false = X := ⟨_, rfl⟩
        have HY := hd hY
        have HZ := hd hZ
        clear hY hZ a0 a1 a2 a3 a4 d0 d1 d2 d3 d4
        refine (cross_of ⟨ak, ap, ac, al, aq⟩ ⟨bk, bp, bc, bl, bq⟩ _ _ w2 T2.out HY.out HZ.out).mono ?_
        rintro e w3 ⟨rfl, b3'⟩
        simp only [OpE.val]
        have b3 := B2.out.trans (b3'.mono B2.out.size)
        obtain ⟨pa, pb, pB, pz⟩ := F.out w3 b3
        obtain ⟨⟨a0, a1, a2, a3, a4⟩, -⟩ := cells5 pa
        obtain ⟨⟨d0, d1, d2, d3, d4⟩, -⟩ := cells5 pb
        have T3 := hd (HT.out.below pB HT.out.1)
        have n0 : wr.heap.size + 1 < w3.heap.size := by omega
        have n1 : wr.heap.size < w3.heap.size := by omega
        have B3 := hd b3
        clear pa pb pB pz b3 b3' T2 B2
        go_wp2_with fail
        refine (rcross_of ⟨ak, ap, ac, al, aq⟩ ⟨bk, bp, bc, bl, bq⟩ _ _ _ HY.out HZ.out).mono ?_
        rintro e w4 ⟨rfl, b4'⟩
        simp only [OpE.val]
        obtain ⟨py, pz, pB, pn⟩ := two_cells b4'
        obtain ⟨⟨y0, y1, y2, y3, y4⟩, -⟩ := cells5 py
        obtain ⟨⟨z0, z1, z2, z3, z4⟩, -⟩ := cells5 pz
        obtain ⟨-, -, qB, -⟩ := F.out w4 (B3.out.trans (pB.mono B3.out.size))
        have B4 := hd qB
        have m0 : w3.heap.size < w4.heap.size := by omega
        have m1 : w3.heap.size + 1 < w4.heap.size := by omega
        clear py pz pB pn b4' qB a0 a1 a2 a3 a4 d0 d1 d2 d3 d4 T3 B3 n0 n1
        go_wp2
        exact ⟨⟨k + 1, by omega, by go_num, ((B4.out.alloc (by have := B4.out.size; omega) _).alloc (by have := B4.out.size; simp; omega) _)⟩, by simp [intOf]; omega⟩
    · obtain rfl : k = n := by omega
      go_wp2
      go_ret
      exact ⟨rfl, hB.out⟩
end Go.Proofs.YtmkgkgdngjmcmaaDoor
