/-
  Cross, both.
-/
import Derived.Test.YtmkgkgdngjmcmaaDoorWe
namespace Go.Proofs.YtmkgkgdngjmcmaaDoor
open Go.RowKit
set_option linter.unusedVariables false

theorem Table.heap {w w' : World} (h : Table w) (e : w'.heap = w.heap) : Table w' := by
  have hc : ∀ a, w'.cell? a = w.cell? a := fun a => by simp [World.cell?, e]
  unfold Table
  rw [e]
  simp only [hc]
  exact h

/-- Four blocks that the call has made, of which nothing has changed since. -/
theorem four_cells {w w1 : World} {ca cb cr cs : Array Value} {t : TypeId} (b : Below ((((w.alloc (.cells ca t (0, 0))).alloc (.cells cb t (0, 0))).alloc (.cells cr t (0, 0))).alloc (.cells cs t (0, 0))).heap.size ((((w.alloc (.cells ca t (0, 0))).alloc (.cells cb t (0, 0))).alloc (.cells cr t (0, 0))).alloc (.cells cs t (0, 0))) w1) :
    w1.heap[w.heap.size]? = some (.cells ca t (0, 0)) ∧ w1.heap[w.heap.size + 1]? = some (.cells cb t (0, 0)) ∧ w1.heap[w.heap.size + 1 + 1]? = some (.cells cr t (0, 0)) ∧ w1.heap[w.heap.size + 1 + 1 + 1]? = some (.cells cs t (0, 0)) ∧ Below w.heap.size w w1 ∧ w.heap.size + 4 ≤ w1.heap.size := by
  have hs : ∀ (w : World) o, (w.alloc o).heap.size = w.heap.size + 1 := fun w o => by simp
  have k : ∀ (w : World) o i, i < w.heap.size → (w.alloc o).heap[i]? = w.heap[i]? := fun w o i hi => ((Below.refl w.heap.size w).alloc (Nat.le_refl _) o).block i hi
  refine ⟨?_, ?_, ?_, ?_, ?_, ?_⟩
  · rw [b.block _ (by simp only [hs]; omega), k _ _ _ (by simp only [hs]; omega), k _ _ _ (by simp only [hs]; omega), k _ _ _ (by simp only [hs]; omega)]
    exact heap_alloc_new w _
  · rw [b.block _ (by simp only [hs]; omega), k _ _ _ (by simp only [hs]; omega), k _ _ _ (by simp only [hs]; omega)]
    have := heap_alloc_new (w.alloc (.cells ca t (0, 0))) (.cells cb t (0, 0))
    rwa [hs] at this
  · rw [b.block _ (by simp only [hs]; omega), k _ _ _ (by simp only [hs]; omega)]
    have := heap_alloc_new ((w.alloc (.cells ca t (0, 0))).alloc (.cells cb t (0, 0))) (.cells cr t (0, 0))
    rwa [hs, hs] at this
  · rw [b.block _ (by simp only [hs]; omega)]
    have := heap_alloc_new (((w.alloc (.cells ca t (0, 0))).alloc (.cells cb t (0, 0))).alloc (.cells cr t (0, 0))) (.cells cs t (0, 0))
    rwa [hs, hs, hs] at this
  · have b0 : Below w.heap.size w ((((w.alloc (.cells ca t (0, 0))).alloc (.cells cb t (0, 0))).alloc (.cells cr t (0, 0))).alloc (.cells cs t (0, 0))) := ((((Below.refl _ _).alloc (Nat.le_refl _) _).alloc (by simp only [hs]; omega) _).alloc (by simp only [hs]; omega) _).alloc (by simp only [hs]; omega) _
    exact b0.trans (b.mono (by simp only [hs]; omega))
  · have := b.size
    simp only [hs] at this
    omega

theorem cells5 {w : World} {g : Nat} {a b c d e : Value} {t : TypeId} (h : w.heap[g]? = some (.cells #[a, b, c, d, e] t (0, 0))) :
    (w.cell? ⟨g, 0, none⟩ = some a ∧ w.cell? ⟨g, 1, none⟩ = some b ∧ w.cell? ⟨g, 2, none⟩ = some c ∧ w.cell? ⟨g, 3, none⟩ = some d ∧ w.cell? ⟨g, 4, none⟩ = some e) ∧
    (w.frozen? ⟨g, 0, none⟩ = false ∧ w.frozen? ⟨g, 1, none⟩ = false ∧ w.frozen? ⟨g, 2, none⟩ = false ∧ w.frozen? ⟨g, 3, none⟩ = false ∧ w.frozen? ⟨g, 4, none⟩ = false) := by
  simp [World.cell?, World.frozen?, h]

set_option maxHeartbeats 4000000 in
theorem rcross_of (a b x y : OpE) (w : World) (hx : shiftP a b true = x) (hy : shiftP b a false = y) : Calls Tryd.prog 12 #[a.val, b.val] w fun e w' =>
    e = .returned (.tuple #[x.val, y.val]) ∧ Below w.heap.size w w' := by
  obtain ⟨k, p, c, q, s⟩ := a
  obtain ⟨k', p', c', q', s'⟩ := b
  obtain ⟨xk, xp, xc, xq, xs⟩ := x
  obtain ⟨yk, yp, yc, yq, ys⟩ := y
  have HX := hd hx
  have HY := hd hy
  clear hx hy
  simp only [OpE.val]
  go_enter Tryd.func12, Tryd.ntmps12
  go_wp2_with fail
  refine (rshift_any ⟨k, p, c, q, s⟩ ⟨k', p', c', q', s'⟩ true _).mono ?_
  rintro e w1 ⟨rfl, b1⟩
  rw [HX.out]
  obtain ⟨ha, hb, hr, hs, hB, hz⟩ := four_cells b1
  obtain ⟨⟨a0, a1, a2, a3, a4⟩, -⟩ := cells5 ha
  obtain ⟨⟨d0, d1, d2, d3, d4⟩, -⟩ := cells5 hb
  have B1 := hd b1
  have n0 : w.heap.size < w1.heap.size := by omega
  have n1 : w.heap.size + 1 < w1.heap.size := by omega
  have HZ := hd hz
  clear ha hb hr hs hB b1 hz
  simp only [OpE.val]
  go_wp2_with fail
  refine (rshift_any ⟨k', p', c', q', s'⟩ ⟨k, p, c, q, s⟩ false _).mono ?_
  rintro e w2 ⟨rfl, b2⟩
  rw [HY.out]
  have z2 := b2.size
  have X2 : w2.heap[w1.heap.size]? = some (.cells #[.int .i64 xk, .int .i64 xp, .int .u8 xc, .int .i64 xq, .int .i64 xs] 23 (0, 0)) := (b2.block _ (by simp)).trans (heap_alloc_new w1 _)
  have b12 := B1.out.trans ((((Below.refl w1.heap.size w1).alloc (Nat.le_refl _) _).trans (b2.mono (by simp))).mono B1.out.size)
  obtain ⟨ha, hb, hr, hs, hB, hz⟩ := four_cells b12
  obtain ⟨⟨r0, r1, r2, r3, r4⟩, ⟨g0, g1, g2, g3, g4⟩⟩ := cells5 hr
  obtain ⟨⟨s0, s1, s2, s3, s4⟩, ⟨e0, e1, e2, e3, e4⟩⟩ := cells5 hs
  obtain ⟨⟨x0, x1, x2, x3, x4⟩, -⟩ := cells5 X2
  have HB := hd hB
  simp at z2
  have m1 : w.heap.size + 1 + 1 < w2.heap.size := by have := HZ.out; omega
  have m2 : w.heap.size + 1 + 1 + 1 < w2.heap.size := by have := HZ.out; omega
  have m3 : w1.heap.size < w2.heap.size := by omega
  have m4 : ¬ (w.heap.size + 1 + 1 = w1.heap.size) := by have := HZ.out; omega
  have m5 : ¬ (w.heap.size + 1 + 1 + 1 = w1.heap.size) := by have := HZ.out; omega
  have m6 : ¬ (w1.heap.size = w.heap.size + 1 + 1) := by have := HZ.out; omega
  have m7 : ¬ (w1.heap.size = w.heap.size + 1 + 1 + 1) := by have := HZ.out; omega
  have Z2 := hd z2
  clear ha hb hr hs hB b2 hz b12 X2 B1 a0 a1 a2 a3 a4 d0 d1 d2 d3 d4 z2
  simp only [OpE.val]
  go_wp2_with fail
  go_region
  go_wp2
  refine bodyPost_ret (v := .tuple #[.agg #[.int .i64 xk, .int .i64 xp, .int .u8 xc, .int .i64 xq, .int .i64 xs], .agg #[.int .i64 yk, .int .i64 yp, .int .u8 yc, .int .i64 yq, .int .i64 ys]]) (by simp [results, Tryd.results12, go_sem, m1, m2, r0, r1, r2, r3, r4, s0, s1, s2, s3, s4]) rfl ?_
  refine ⟨rfl, (Below.alloc (?_ : Below w.heap.size w _) (by simp; have := HB.out.size; omega) _).drew⟩
  exact (((((((((HB.out.setCell (by simp; omega) _).setCell (by simp; omega) _).setCell (by simp; omega) _).setCell (by simp; omega) _).setCell (by simp; omega) _).setCell (by simp; omega) _).setCell (by simp; omega) _).setCell (by simp; omega) _).setCell (by simp; omega) _).setCell (by simp; omega) _
end Go.Proofs.YtmkgkgdngjmcmaaDoor
