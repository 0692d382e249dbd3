/-
  line: the walk.
-/
import Derived.Test.YtmkgkgdngjmcmabDoorQc
namespace Go.Proofs.YtmkgkgdngjmcmabDoor
open Go.RowKit
set_option linter.unusedVariables false

/-- The line as far as it is made, at block g; N is how long the text then is. -/
def LM (w wr : World) (g m : Nat) (d : List El) (cl : Int) (j N : Nat) : Prop := ∃ L, RowO wr g j m L ∧ LineP d cl L ∧ (runP d L).length = N ∧ Below w.heap.size w wr ∧ N ≤ d.length + j

theorem keep3 {W : World} {b o : Nat} {u0 u1 u2 : Value} (h0 : W.cell? ⟨b, o, none⟩ = some u0) (h1 : W.cell? ⟨b, o + 1, none⟩ = some u1) (h2 : W.cell? ⟨b, o + 2, none⟩ = some u2) (g : Nat) (z : OpE) (hb : b ≠ g) :
    (((((W.setCell ⟨g, 0, none⟩ (.int .i64 z.kind)).setCell ⟨g, 1, none⟩ (.int .i64 z.pos)).setCell ⟨g, 2, none⟩ (.int .u8 z.ch)).setCell ⟨g, 3, none⟩ (.int .i64 z.cl)).setCell ⟨g, 4, none⟩ (.int .i64 z.sq)).cell? ⟨b, o, none⟩ = some u0 ∧
    (((((W.setCell ⟨g, 0, none⟩ (.int .i64 z.kind)).setCell ⟨g, 1, none⟩ (.int .i64 z.pos)).setCell ⟨g, 2, none⟩ (.int .u8 z.ch)).setCell ⟨g, 3, none⟩ (.int .i64 z.cl)).setCell ⟨g, 4, none⟩ (.int .i64 z.sq)).cell? ⟨b, o + 1, none⟩ = some u1 ∧
    (((((W.setCell ⟨g, 0, none⟩ (.int .i64 z.kind)).setCell ⟨g, 1, none⟩ (.int .i64 z.pos)).setCell ⟨g, 2, none⟩ (.int .u8 z.ch)).setCell ⟨g, 3, none⟩ (.int .i64 z.cl)).setCell ⟨g, 4, none⟩ (.int .i64 z.sq)).cell? ⟨b, o + 2, none⟩ = some u2 := by
  have k : ∀ a u, a.block = b → W.cell? a = some u → (((((W.setCell ⟨g, 0, none⟩ (.int .i64 z.kind)).setCell ⟨g, 1, none⟩ (.int .i64 z.pos)).setCell ⟨g, 2, none⟩ (.int .u8 z.ch)).setCell ⟨g, 3, none⟩ (.int .i64 z.cl)).setCell ⟨g, 4, none⟩ (.int .i64 z.sq)).cell? a = some u := fun a u ha h => by
    have hne : a.block ≠ g := by rw [ha]; exact hb
    exact keep_cell (keep_cell (keep_cell (keep_cell (keep_cell h hne) hne) hne) hne) hne
  exact ⟨k _ _ rfl h0, k _ _ rfl h1, k _ _ rfl h2⟩

set_option maxRecDepth 100000 in
set_option maxHeartbeats 8000000 in
theorem line_any (a : Option Addr) (m c : Nat) (M : Nat → Bool × Int × Int) (d : List El) (n : Nat) (cl : Int) (w : World) (hM : IsM w a m c M) (hd' : d.length = n) (hn : n ≤ 4096) (hm : m ≤ 5864062014634) :
    Calls Tryd.prog 18 #[.slice a m c, .int .i64 n, .int .i64 cl] w fun e w' => ∃ g L, e = .returned (.slice (some ⟨g, 0, none⟩) m m) ∧ w.heap.size ≤ g ∧ RowO w' g m m L ∧ LineP d cl L ∧ Below w.heap.size w w' := by
  obtain ⟨i0, hi0, hz0, hz1, hz2⟩ := info_parts Tryd.infoO
  have HM := hd hM
  have hc := hM.1
  have hc63 := hM.2.1
  have HD := hd hd'
  clear hM hd'
  go_enter Tryd.func18, Tryd.ntmps18
  go_wp2_with (first | (at_make; refine wpList_make_k _ rfl _ _ 24 rfl 23 i0 _ Tryd.underlying24 hi0 hz0 _ _ _ _ 0 m rfl rfl (by go_num) (by go_num) (by omega) (by rw [hz2]; omega) (by omega) ?_; intro w3 cur hg3 hcur hb3) | fail)
  have S0 : Hid (LM w w3 w.heap.size m d cl 0 n) := ⟨[], (row_made hg3.out (by have := hcur.out; rw [hz1] at this; exact this) (by omega)).2, ⟨trivial, fun i h => by simp at h⟩, HD.out, hb3.out, by have := HD.out; omega⟩
  clear hg3 hcur hb3 hi0 hz0 hz1 hz2
  go_wp2
  go_loopw [1, 7, 8] (fun nv v i wr => ∃ j N : Nat, j ≤ m ∧ nv = .int .i64 N ∧ v = .slice (some ⟨w.heap.size, 0, none⟩) j m ∧ i = .int .i64 j ∧ Hid (LM w wr w.heap.size m d cl j N)) (fun _ _ i _ => m - (intOf i).toNat)
  case atStart => exact ⟨0, n, Nat.zero_le _, rfl, rfl, rfl, S0⟩
  case round =>
    obtain ⟨j, N, hj, rfl, rfl, rfl, hr⟩ := hrel
    clear S0
    obtain ⟨L, hR, hP, hN, hB, hNb⟩ := hr.out
    by_cases hlt : j < m
    · obtain ⟨b, off, rfl, hb0, hcell⟩ := HM.out.2.2 (by omega)
      have hb := Nat.lt_of_lt_of_le hb0 hB.size
      have m0 := (hB.cell (p := ⟨b, off + j * 3, none⟩) hb0).trans (hcell j hlt).1
      have m1 := (hB.cell (p := ⟨b, off + j * 3 + 1, none⟩) hb0).trans (hcell j hlt).2.1
      have m2 := (hB.cell (p := ⟨b, off + j * 3 + 2, none⟩) hb0).trans (hcell j hlt).2.2
      generalize M j = mv at *
      obtain ⟨md, ma, mc⟩ := mv
      simp only [] at m0 m1 m2
      have i3 : (j : Int) < (m : Int) := by omega
      have NB : Hid (N ≤ 100000000000000) := by have := HD.out; show N ≤ _; omega
      have HR := hd hR
      have HP := hd hP
      have HN := hd hN
      have HB := hd hB
      have hNb' : N ≤ 4096 + j := by have := HD.out; omega
      have JL := hd hR.isO.1
      have HNb := hd hNb
      clear hr hR hP hN hB hNb hcell
      go_wp2_with fail
      refine (made_any md ma mc cl ((j : Int) + 1) N _ NB.out).mono ?_
      rintro e w1 ⟨⟨rk, rp, rc, rq, rs⟩, rfl, hO, b1⟩
      have bA : Below w1.heap.size w1 (w1.alloc (.cells (opc ⟨rk, rp, rc, rq, rs⟩).toArray 23)) := (Below.refl _ _).alloc (Nat.le_refl _) _
      have bw := b1.trans (bA.mono b1.size)
      obtain ⟨w5, hap, hR5, hF5⟩ := run_app1O (w1.alloc (.cells (opc ⟨rk, rp, rc, rq, rs⟩).toArray 23)) w.heap.size j m L (HR.out.fr (S := fun _ => False) (Fr.of_below bw) (fun h => h)) ⟨rk, rp, rc, rq, rs⟩ (by omega)
      have hx5 : w5.heap[w1.heap.size]? = some (.cells #[.int .i64 rk, .int .i64 rp, .int .u8 rc, .int .i64 rq, .int .i64 rs] 23 (0, 0)) := hF5.keeps (heap_alloc_new w1 _) (fun h => by have := HR.out.lt; have := b1.size; omega)
      obtain ⟨⟨p0, p1, p2, p3, p4⟩, -⟩ := cellsF hx5
      have B5 : Below w.heap.size w w5 := (HB.out.trans (bw.mono HB.out.size)).trans (hF5.below (Nat.le_trans HB.out.size bw.size) (fun k h => by omega))
      have hO' : MadeO (runP d L).length cl ((L.length : Int) + 1) ⟨rk, rp, rc, rq, rs⟩ := by rw [HN.out, JL.out]; exact hO
      have P5 := HP.out.snoc hO'
      have G : Hid (∀ N', (runP d (L ++ [⟨rk, rp, rc, rq, rs⟩])).length = N' → N' ≤ d.length + (j + 1) → LM w w5 w.heap.size m d cl (j + 1) N') := fun N' h1 h2 => ⟨_, hR5, P5, h1, B5, h2⟩
      have LE := put_len HN.out hO
      rw [← runP_snoc] at LE
      have hDD := HD.out
      have LE' := hd LE
      simp only [opc, OpE.val, World.size_alloc] at hap ⊢
      clear hR5 hF5 hx5 B5 hO' P5 hO bw bA b1 HR HP HN HB LE
      rcases LE'.out with ⟨h1, h2⟩ | ⟨h1, h0, h2⟩
      · simp only at h1
        subst h1
        have Z := hd (G.out (N + 1) h2 (by have := HNb.out; omega))
        clear G h2 LE'
        go_wp2_with (at_builtin; refine wpList_append_k _ rfl _ _ 24 24 rfl _ _ rfl rfl (hap _) ?_)
        exact ⟨⟨j + 1, N + 1, by omega, by go_num, rfl, by go_num, Z⟩, by simp [intOf]; omega⟩
      · simp only at h1
        subst h1
        obtain ⟨N', rfl⟩ : ∃ N', N = N' + 1 := ⟨N - 1, by omega⟩
        have Z := hd (G.out N' (by simpa using h2) (by have := HNb.out; omega))
        clear G h2 LE'
        go_wp2_with (at_builtin; refine wpList_append_k _ rfl _ _ 24 24 rfl _ _ rfl rfl (hap _) ?_)
        exact ⟨⟨j + 1, N', by omega, rfl, rfl, by go_num, Z⟩, by simp [intOf]; omega⟩
    · obtain rfl : j = m := by omega
      have G : Hid (∃ L, RowO wr w.heap.size j j L ∧ LineP d cl L ∧ Below w.heap.size w wr) := ⟨L, hR, hP, hB⟩
      clear hr hR hP hN hB hNb
      go_wp2
      go_ret
      obtain ⟨L, h1, h2, h3⟩ := G.out
      exact ⟨w.heap.size, L, rfl, Nat.le_refl _, h1, h2, h3⟩

end Go.Proofs.YtmkgkgdngjmcmabDoor
