/-
  Through.
-/
import Derived.Test.YtmbnimlibnheeaaDoorNb
import Derived.Deep.RegionHeld3
namespace Go.Proofs.YtmbnimlibnheeaaDoor
open Go.RowKit
set_option linter.unusedVariables false

theorem two_of {w w1 : World} {ca cb : Array Value} {t : TypeId} (b : Below ((w.alloc (.cells ca t (0, 0))).alloc (.cells cb t (0, 0))).heap.size ((w.alloc (.cells ca t (0, 0))).alloc (.cells cb t (0, 0))) w1) :
    w1.heap[w.heap.size]? = some (.cells ca t (0, 0)) ∧ w1.heap[w.heap.size + 1]? = some (.cells cb t (0, 0)) ∧ Below w.heap.size w w1 ∧ w.heap.size + 2 ≤ w1.heap.size := by
  have hs : ∀ (w : World) o, (w.alloc o).heap.size = w.heap.size + 1 := fun w o => by simp
  have k : ∀ (w : World) o i, i < w.heap.size → (w.alloc o).heap[i]? = w.heap[i]? := fun w o i hi => ((Below.refl w.heap.size w).alloc (Nat.le_refl _) o).block i hi
  refine ⟨?_, ?_, ?_, ?_⟩
  · rw [b.block _ (by simp only [hs]; omega), k _ _ _ (by simp only [hs]; omega)]
    exact heap_alloc_new w _
  · rw [b.block _ (by simp only [hs]; omega)]
    have := heap_alloc_new (w.alloc (.cells ca t (0, 0))) (.cells cb t (0, 0))
    rwa [hs] at this
  · have b0 : Below w.heap.size w ((w.alloc (.cells ca t (0, 0))).alloc (.cells cb t (0, 0))) := ((Below.refl _ _).alloc (Nat.le_refl _) _).alloc (by simp only [hs]; omega) _
    exact b0.trans (b.mono (by simp only [hs]; omega))
  · have := b.size
    simp only [hs] at this
    omega

set_option maxHeartbeats 4000000 in
theorem through_bad (op : OpE) (a : Option Addr) (n c : Nat) (f : Bool) (w : World) (hn : 4096 < n) :
    Calls Tryd.prog 43 #[op.val, .slice a n c, .bool f] w fun e w' => e = .returned (.tuple #[zop.val, .slice none 0 0, .int .i64 50]) ∧ Below w.heap.size w w' := by
  obtain ⟨k, p, c', q, s⟩ := op
  have i1 : (n : Int) > 4096 := by omega
  simp only [OpE.val, zop]
  go_enter Tryd.func43, Tryd.ntmps43
  go_wp2
  refine bodyPost_ret (v := .tuple #[.agg #[.int .i64 0, .int .i64 0, .int .u8 0, .int .i64 0, .int .i64 0], .slice none 0 0, .int .i64 50]) (by simp [results, Tryd.results43, go_sem]) rfl ?_
  exact ⟨rfl, ((Below.refl _ _).alloc (Nat.le_refl _) _).alloc (by simp) _⟩

set_option maxHeartbeats 4000000 in
theorem through_any (op : OpE) (a : Option Addr) (n c : Nat) (xs : List OpE) (f : Bool) (w : World) (hT : Table w) (hE : IsO w a n c xs) (hn : n ≤ 4096) :
    Calls Tryd.prog 43 #[op.val, .slice a n c, .bool f] w fun e w' => ∃ v, e = .returned (.tuple #[(throughP op xs f).1.val, v, .int .i64 0]) ∧ OwnO w' w.heap.size v (throughP op xs f).2 ∧ Below w.heap.size w w' := by
  have i1 : ¬ (n : Int) > 4096 := by omega
  have HE := hd hE
  have HT := hd hT
  clear hT hE
  obtain ⟨⟨rk, rp, rc, rq, rs⟩, h1⟩ : ∃ R, (throughP op xs f).1 = R := ⟨_, rfl⟩
  obtain ⟨R2, h2⟩ : ∃ R, (throughP op xs f).2 = R := ⟨_, rfl⟩
  have H1 := hd h1
  have H2 := hd h2
  rw [h1, h2]
  clear h1 h2
  obtain ⟨k, p, c', q, s⟩ := op
  simp only [OpE.val]
  go_enter Tryd.func43, Tryd.ntmps43
  go_wp2_with fail
  refine (copied_any a n c xs _ (HE.out.below (((Below.refl _ _).alloc (Nat.le_refl _) _).alloc (by simp) _)) (by omega)).mono ?_
  rintro e w1 ⟨v, rfl, hO, b1⟩
  obtain ⟨hp, hr, hB, hz⟩ := two_of b1
  obtain ⟨g, cg, hg, rfl, hR⟩ := hO
  obtain ⟨⟨p0, p1, p2, p3, p4⟩, -⟩ := cellsF hp
  simp at hg
  rw [HE.out.1] at hR ⊢
  have T1 := hd (HT.out.below hB HT.out.1)
  have HR := hd hR
  have HB := hd hB
  have HZ := hd hr
  have g0 : 0 < g := by have := HT.out.1; omega
  clear hp hr hR hB hz b1
  go_wp2_with fail
  refine (carry_any ⟨k, p, c', q, s⟩ g n cg xs f w1 T1.out g0 HR.out).mono ?_
  rintro e w2 ⟨rfl, hR2, hF2⟩
  rw [H1.out]
  rw [H2.out] at hR2
  simp only [OpE.val]
  have hr2 := hF2.keeps HZ.out (by omega)
  obtain ⟨⟨r0, r1, r2, r3, r4⟩, ⟨f0, f1, f2, f3, f4⟩⟩ := cellsF hr2
  have hl := hR2.isO.1
  have G : Hid (∀ W, Fr (· = w.heap.size + 1) w2 W → OwnO W w.heap.size (.slice (some ⟨g, 0, none⟩) n cg) R2 ∧ Below w.heap.size w W) := fun W h =>
    ⟨⟨g, cg, by omega, by rw [hl], by rw [hl]; exact hR2.fr h (by omega)⟩, (HB.out.trans (hF2.below HB.out.size (fun k h => by omega))).trans (h.below (Nat.le_trans HB.out.size hF2.size) (fun k h => by omega))⟩
  clear hR2 hF2 hr2 hl p0 p1 p2 p3 p4
  go_wp2
  refine bodyPost_ret (v := .tuple #[.agg #[.int .i64 rk, .int .i64 rp, .int .u8 rc, .int .i64 rq, .int .i64 rs], .slice (some ⟨g, 0, none⟩) n cg, .int .i64 0]) (by simp [results, Tryd.results43, go_sem, r0, r1, r2, r3, r4]) rfl ?_
  exact ⟨_, rfl, G.out _ (Fr.set5 w2 (w.heap.size + 1) 0 rk rp rc rq rs)⟩

end Go.Proofs.YtmbnimlibnheeaaDoor
