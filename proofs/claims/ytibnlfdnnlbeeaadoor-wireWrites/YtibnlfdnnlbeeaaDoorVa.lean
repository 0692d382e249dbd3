/-
  wire: what fields hold, without memory; has, itemLayout, Wrap, OnesCount16, size.
-/
import Derived.Test.YtibnlfdnnlbeeaaDoorWalkE
import Derived.Test.YtibnlfdnnlbeeaaDoorRTold
import Derived.Test.YtibnlfdnnlbeeaaDoorRWalkU
namespace Go.Proofs.YtibnlfdnnlbeeaaDoor
open Go.RowKit
set_option linter.unusedVariables false

/-- Is field f in the set s? -/
def hasP (s f : Nat) : Bool := s / 2 ^ f % 2 == 1
def lo (f : Nat) : Int := [0, 1, 1, 0, 1, 1, 0, 1, 0, 0, 0, 32, 1, 1].getD f 0
def hi (f : Nat) : Int := [0, 255, 64, 4096, 65, 4096, 4096, 4096, 4096, 2, 4095, 126, 64, 64].getD f 0
/-- The layout of a kind of items. -/
def nmP (k : Int) : Nat := if k = 1 then 2 else if k = 2 then 16128 else 0
/-- May field f hold what it holds? -/
def allowsP (nm : Nat) (V : Nat → Int) (f : Nat) : Bool :=
  if (!hasP nm f) || (f == 10 && V 9 == 0) || (f == 11 && !(V 9 == 1)) then V f == 0 else decide (lo f ≤ V f ∧ V f ≤ hi f)
/-- The variable limits. -/
def Lims (w : World) : Prop := ∃ t fr, w.heap[1]? = some (.cells #[.int .i64 0, .int .i64 0, .int .i64 1, .int .i64 255, .int .i64 1, .int .i64 64, .int .i64 0, .int .i64 4096, .int .i64 1, .int .i64 65, .int .i64 1, .int .i64 4096, .int .i64 0, .int .i64 4096, .int .i64 1, .int .i64 4096, .int .i64 0, .int .i64 4096, .int .i64 0, .int .i64 2, .int .i64 0, .int .i64 4095, .int .i64 32, .int .i64 126, .int .i64 1, .int .i64 64, .int .i64 1, .int .i64 64] t fr)
theorem Lims.lt {w : World} (h : Lims w) : 1 < w.heap.size := by
  obtain ⟨t, fr, h⟩ := h
  exact block_lt h
theorem Lims.below {w w' : World} {B : Nat} (h : Lims w) (hb : Below B w w') (hB : 1 < B) : Lims w' := by
  obtain ⟨t, fr, h⟩ := h
  exact ⟨t, fr, (hb.block 1 hB).trans h⟩

set_option maxHeartbeats 1000000 in
theorem has_any (s f : Nat) (w : World) (hs : s = 2 ∨ s = 16128 ∨ s = 16130 ∨ s = 1512) (hf : f < 14) :
    Calls Tryd.prog 36 #[.int .u16 s, .int .i64 f] w fun e w' => e = .returned (.bool (hasP s f)) ∧ w' = w := by
  have h1 : ¬ (f : Int) < 0 := by omega
  have h2 : (bits .and .u16 ((s : Int) / 2 ^ f) 1 == 1) = hasP s f := by
    have : f = 0 ∨ f = 1 ∨ f = 2 ∨ f = 3 ∨ f = 4 ∨ f = 5 ∨ f = 6 ∨ f = 7 ∨ f = 8 ∨ f = 9 ∨ f = 10 ∨ f = 11 ∨ f = 12 ∨ f = 13 := by omega
    rcases hs with rfl | rfl | rfl | rfl <;> rcases this with rfl | rfl | rfl | rfl | rfl | rfl | rfl | rfl | rfl | rfl | rfl | rfl | rfl | rfl <;> decide
  have H2 := hd h2
  clear hs h2
  go_enter Tryd.func36, Tryd.ntmps36
  go_wp2
  rw [H2.out]
  go_ret
  exact ⟨rfl, rfl⟩

set_option maxHeartbeats 1000000 in
theorem layout_any (k : Int) (w : World) :
    Calls Tryd.prog 22 #[.int .i64 k] w fun e w' => e = .returned (.agg #[.int .u16 (nmP k), .bool false]) ∧ Below w.heap.size w w' := by
  by_cases h1 : k = 1
  · subst h1
    go_enter Tryd.func22, Tryd.ntmps22
    go_wp2
    refine bodyPost_ret (v := .agg #[.int .u16 2, .bool false]) (by simp [results, Tryd.results22, go_sem]) rfl ?_
    exact ⟨rfl, by repeat (first | exact Below.refl _ _ | refine Below.alloc ?_ (by simp) _ | refine Below.setCell ?_ (by simp) _)⟩
  · by_cases h2 : k = 2
    · subst h2
      go_enter Tryd.func22, Tryd.ntmps22
      go_wp2
      refine bodyPost_ret (v := .agg #[.int .u16 16128, .bool false]) (by simp [results, Tryd.results22, go_sem]) rfl ?_
      exact ⟨rfl, by repeat (first | exact Below.refl _ _ | refine Below.alloc ?_ (by simp) _ | refine Below.setCell ?_ (by simp) _)⟩
    · have h3 : nmP k = 0 := by simp [nmP, h1, h2]
      rw [h3]
      go_enter Tryd.func22, Tryd.ntmps22
      go_wp2
      refine bodyPost_ret (v := .agg #[.int .u16 0, .bool false]) (by simp [results, Tryd.results22, go_sem]) rfl ?_
      exact ⟨rfl, by repeat (first | exact Below.refl _ _ | refine Below.alloc ?_ (by simp) _ | refine Below.setCell ?_ (by simp) _)⟩

/-- A Fault in a block of its own. -/
def IsF (w : World) (v : Value) (at' code : Int) : Prop := ∃ b, v = .iface 74 (.pointer (some ⟨b, 0, none⟩)) ∧ w.heap[b]? = some (.cells #[.int .i64 at', .iface 45 (.int .i64 code)] 77 (0, 0))
theorem IsF.below {w w' : World} {v : Value} {p c : Int} (h : IsF w v p c) (hb : Below w.heap.size w w') : IsF w' v p c := by
  obtain ⟨b, e, hh⟩ := h
  exact ⟨b, e, (hb.block b (block_lt hh)).trans hh⟩

set_option maxHeartbeats 1000000 in
theorem wrap_any (p c : Int) (w : World) :
    Calls Tryd.prog 34 #[.int .i64 p, .int .i64 c] w fun e w' => ∃ v, e = .returned v ∧ IsF w' v p c ∧ Below w.heap.size w w' := by
  have hn := heap_alloc_new w (.cells #[.int .i64 p, .iface 45 (.int .i64 c)] 77)
  have HN := hd hn
  clear hn
  go_enter Tryd.func34, Tryd.ntmps34
  go_wp2
  go_ret
  exact ⟨_, rfl, ⟨_, rfl, HN.out⟩, (Below.refl _ _).alloc (Nat.le_refl _) _⟩

set_option maxHeartbeats 4000000 in
theorem allows_any (nm f : Nat) (V : Nat → Int) (w : World) (hs : nm = 2 ∨ nm = 16128) (hf : f < 14) (hL : Lims w) :
    Calls Tryd.prog 37 #[.agg #[.int .u16 nm, .bool false], .agg #[.int .i64 (V 0), .int .i64 (V 1), .int .i64 (V 2), .int .i64 (V 3), .int .i64 (V 4), .int .i64 (V 5), .int .i64 (V 6), .int .i64 (V 7), .int .i64 (V 8), .int .i64 (V 9), .int .i64 (V 10), .int .i64 (V 11), .int .i64 (V 12), .int .i64 (V 13)], .int .i64 f] w fun e w' => e = .returned (.bool (allowsP nm V f)) ∧ Below w.heap.size w w' := by
  obtain ⟨tt, fr, hL0⟩ := hL
  have hL' : ∀ i, w.cell? ⟨1, i, none⟩ = #[.int .i64 0, .int .i64 0, .int .i64 1, .int .i64 255, .int .i64 1, .int .i64 64, .int .i64 0, .int .i64 4096, .int .i64 1, .int .i64 65, .int .i64 1, .int .i64 4096, .int .i64 0, .int .i64 4096, .int .i64 1, .int .i64 4096, .int .i64 0, .int .i64 4096, .int .i64 0, .int .i64 2, .int .i64 0, .int .i64 4095, .int .i64 32, .int .i64 126, .int .i64 1, .int .i64 64, .int .i64 1, .int .i64 64][i]? := fun i => by simp [World.cell?, hL0]
  have l0 : w.cell? ⟨1, f * 2, none⟩ = some (.int .i64 (lo f)) := by
    rw [hL']
    have : f = 0 ∨ f = 1 ∨ f = 2 ∨ f = 3 ∨ f = 4 ∨ f = 5 ∨ f = 6 ∨ f = 7 ∨ f = 8 ∨ f = 9 ∨ f = 10 ∨ f = 11 ∨ f = 12 ∨ f = 13 := by omega
    rcases this with rfl | rfl | rfl | rfl | rfl | rfl | rfl | rfl | rfl | rfl | rfl | rfl | rfl | rfl <;> rfl
  have l1 : w.cell? ⟨1, f * 2 + 1, none⟩ = some (.int .i64 (hi f)) := by
    rw [hL']
    have : f = 0 ∨ f = 1 ∨ f = 2 ∨ f = 3 ∨ f = 4 ∨ f = 5 ∨ f = 6 ∨ f = 7 ∨ f = 8 ∨ f = 9 ∨ f = 10 ∨ f = 11 ∨ f = 12 ∨ f = 13 := by omega
    rcases this with rfl | rfl | rfl | rfl | rfl | rfl | rfl | rfl | rfl | rfl | rfl | rfl | rfl | rfl <;> rfl
  have hb : 1 < w.heap.size := block_lt hL0
  have bz : Below w.heap.size w ((w.alloc (.cells #[.int .u16 nm, .bool false] 79)).alloc (.cells #[.int .i64 (V 0), .int .i64 (V 1), .int .i64 (V 2), .int .i64 (V 3), .int .i64 (V 4), .int .i64 (V 5), .int .i64 (V 6), .int .i64 (V 7), .int .i64 (V 8), .int .i64 (V 9), .int .i64 (V 10), .int .i64 (V 11), .int .i64 (V 12), .int .i64 (V 13)] 52)) := ((Below.refl _ _).alloc (Nat.le_refl _) _).alloc (by simp) _
  have hv : ((w.alloc (.cells #[.int .u16 nm, .bool false] 79)).alloc (.cells #[.int .i64 (V 0), .int .i64 (V 1), .int .i64 (V 2), .int .i64 (V 3), .int .i64 (V 4), .int .i64 (V 5), .int .i64 (V 6), .int .i64 (V 7), .int .i64 (V 8), .int .i64 (V 9), .int .i64 (V 10), .int .i64 (V 11), .int .i64 (V 12), .int .i64 (V 13)] 52)).heap[w.heap.size + 1]? = some (.cells #[.int .i64 (V 0), .int .i64 (V 1), .int .i64 (V 2), .int .i64 (V 3), .int .i64 (V 4), .int .i64 (V 5), .int .i64 (V 6), .int .i64 (V 7), .int .i64 (V 8), .int .i64 (V 9), .int .i64 (V 10), .int .i64 (V 11), .int .i64 (V 12), .int .i64 (V 13)] 52 (0, 0)) := by
    have := heap_alloc_new (w.alloc (.cells #[.int .u16 nm, .bool false] 79)) (.cells #[.int .i64 (V 0), .int .i64 (V 1), .int .i64 (V 2), .int .i64 (V 3), .int .i64 (V 4), .int .i64 (V 5), .int .i64 (V 6), .int .i64 (V 7), .int .i64 (V 8), .int .i64 (V 9), .int .i64 (V 10), .int .i64 (V 11), .int .i64 (V 12), .int .i64 (V 13)] 52)
    rwa [World.size_alloc] at this
  have hv9 : ((w.alloc (.cells #[.int .u16 nm, .bool false] 79)).alloc (.cells #[.int .i64 (V 0), .int .i64 (V 1), .int .i64 (V 2), .int .i64 (V 3), .int .i64 (V 4), .int .i64 (V 5), .int .i64 (V 6), .int .i64 (V 7), .int .i64 (V 8), .int .i64 (V 9), .int .i64 (V 10), .int .i64 (V 11), .int .i64 (V 12), .int .i64 (V 13)] 52)).cell? ⟨w.heap.size + 1, 9, none⟩ = some (.int .i64 (V 9)) := by rw [cell_row hv]; rfl
  have hvf : ((w.alloc (.cells #[.int .u16 nm, .bool false] 79)).alloc (.cells #[.int .i64 (V 0), .int .i64 (V 1), .int .i64 (V 2), .int .i64 (V 3), .int .i64 (V 4), .int .i64 (V 5), .int .i64 (V 6), .int .i64 (V 7), .int .i64 (V 8), .int .i64 (V 9), .int .i64 (V 10), .int .i64 (V 11), .int .i64 (V 12), .int .i64 (V 13)] 52)).cell? ⟨w.heap.size + 1, f, none⟩ = some (.int .i64 (V f)) := by
    rw [cell_row hv]
    have : f = 0 ∨ f = 1 ∨ f = 2 ∨ f = 3 ∨ f = 4 ∨ f = 5 ∨ f = 6 ∨ f = 7 ∨ f = 8 ∨ f = 9 ∨ f = 10 ∨ f = 11 ∨ f = 12 ∨ f = 13 := by omega
    rcases this with rfl | rfl | rfl | rfl | rfl | rfl | rfl | rfl | rfl | rfl | rfl | rfl | rfl | rfl <;> rfl
  have l0' := (bz.cell (p := ⟨1, f * 2, none⟩) hb).trans l0
  have l1' := (bz.cell (p := ⟨1, f * 2 + 1, none⟩) hb).trans l1
  have hn0 : ((w.alloc (.cells #[.int .u16 nm, .bool false] 79)).alloc (.cells #[.int .i64 (V 0), .int .i64 (V 1), .int .i64 (V 2), .int .i64 (V 3), .int .i64 (V 4), .int .i64 (V 5), .int .i64 (V 6), .int .i64 (V 7), .int .i64 (V 8), .int .i64 (V 9), .int .i64 (V 10), .int .i64 (V 11), .int .i64 (V 12), .int .i64 (V 13)] 52)).cell? ⟨w.heap.size, 0, none⟩ = some (.int .u16 nm) := by simp
  have hn1 : ((w.alloc (.cells #[.int .u16 nm, .bool false] 79)).alloc (.cells #[.int .i64 (V 0), .int .i64 (V 1), .int .i64 (V 2), .int .i64 (V 3), .int .i64 (V 4), .int .i64 (V 5), .int .i64 (V 6), .int .i64 (V 7), .int .i64 (V 8), .int .i64 (V 9), .int .i64 (V 10), .int .i64 (V 11), .int .i64 (V 12), .int .i64 (V 13)] 52)).cell? ⟨w.heap.size, 1, none⟩ = some (.bool false) := by simp
  have BZ := hd bz
  have i1 : (0 : Int) ≤ f := by omega
  have i2 : (f : Int) < 14 := by omega
  obtain ⟨r, hr⟩ : ∃ r, allowsP nm V f = r := ⟨_, rfl⟩
  rw [hr]
  have HR := hd hr
  clear l0 l1 hL0 hL' hv bz hr
  go_enter Tryd.func37, Tryd.ntmps37
  go_wp2_with fail
  generalize (w.alloc (.cells #[.int .u16 nm, .bool false] 79)).alloc (.cells #[.int .i64 (V 0), .int .i64 (V 1), .int .i64 (V 2), .int .i64 (V 3), .int .i64 (V 4), .int .i64 (V 5), .int .i64 (V 6), .int .i64 (V 7), .int .i64 (V 8), .int .i64 (V 9), .int .i64 (V 10), .int .i64 (V 11), .int .i64 (V 12), .int .i64 (V 13)] 52) = w0 at *
  go_quiet (fail)
  go_wp2_with fail
  refine (has_any nm f _ (by omega) hf).mono ?_
  rintro e w1 ⟨rfl, rfl⟩
  obtain ⟨bb, hbb⟩ : ∃ b, hasP nm f = b := ⟨_, rfl⟩
  have HBB := hd hbb
  rw [hbb]
  clear hbb hs
  cases bb with
  | false =>
    by_cases c1 : (0 : Int) ≤ V f
    · by_cases c2 : V f ≤ 0
      · obtain rfl : r = true := HR.out.symm.trans (by rw [allowsP, HBB.out]; simp; omega)
        go_wp2
        go_ret
        exact ⟨by first | rfl | (simp; done) | (simp; omega), below_drewN BZ.out nq⟩
      · obtain rfl : r = false := HR.out.symm.trans (by rw [allowsP, HBB.out]; simp; omega)
        go_wp2
        go_ret
        exact ⟨by first | rfl | (simp; done) | (simp; omega), below_drewN BZ.out nq⟩
    · obtain rfl : r = false := HR.out.symm.trans (by rw [allowsP, HBB.out]; simp; omega)
      go_wp2
      go_ret
      exact ⟨by first | rfl | (simp; done) | (simp; omega), below_drewN BZ.out nq⟩
  | true =>
    by_cases j10 : f = 10
    · obtain rfl : f = 10 := j10
      have el : lo 10 = 0 := rfl
      have eh : hi 10 = 4095 := rfl
      rw [el] at l0'
      rw [eh] at l1'
      simp only [el, eh]
      simp at l0' l1'
      by_cases n9 : V 9 = 0
      · by_cases c1 : (0 : Int) ≤ V 10
        · by_cases c2 : V 10 ≤ 0
          · obtain rfl : r = true := HR.out.symm.trans (by rw [allowsP, HBB.out]; simp [n9]; omega)
            go_wp2
            go_ret
            exact ⟨by first | rfl | (simp; done) | (simp; omega), below_drewN BZ.out nq⟩
          · obtain rfl : r = false := HR.out.symm.trans (by rw [allowsP, HBB.out]; simp [n9]; omega)
            go_wp2
            go_ret
            exact ⟨by first | rfl | (simp; done) | (simp; omega), below_drewN BZ.out nq⟩
        · obtain rfl : r = false := HR.out.symm.trans (by rw [allowsP, HBB.out]; simp [n9]; omega)
          go_wp2
          go_ret
          exact ⟨by first | rfl | (simp; done) | (simp; omega), below_drewN BZ.out nq⟩
      · by_cases c1 : (0 : Int) ≤ V 10
        · by_cases c2 : V 10 ≤ 4095
          · obtain rfl : r = true := HR.out.symm.trans (by rw [allowsP, HBB.out]; simp [n9, lo, hi]; omega)
            go_wp2
            go_ret
            exact ⟨by first | rfl | (simp; done) | (simp; omega), below_drewN BZ.out nq⟩
          · obtain rfl : r = false := HR.out.symm.trans (by rw [allowsP, HBB.out]; simp [n9, lo, hi]; omega)
            go_wp2
            go_ret
            exact ⟨by first | rfl | (simp; done) | (simp; omega), below_drewN BZ.out nq⟩
        · obtain rfl : r = false := HR.out.symm.trans (by rw [allowsP, HBB.out]; simp [n9, lo, hi]; omega)
          go_wp2
          go_ret
          exact ⟨by first | rfl | (simp; done) | (simp; omega), below_drewN BZ.out nq⟩
    · by_cases j11 : f = 11
      · obtain rfl : f = 11 := j11
        have el : lo 11 = 32 := rfl
        have eh : hi 11 = 126 := rfl
        rw [el] at l0'
        rw [eh] at l1'
        simp only [el, eh]
        simp at l0' l1'
        by_cases n9 : V 9 = 1
        · by_cases c1 : (32 : Int) ≤ V 11
          · by_cases c2 : V 11 ≤ 126
            · obtain rfl : r = true := HR.out.symm.trans (by rw [allowsP, HBB.out]; simp [n9, lo, hi]; omega)
              go_wp2
              go_ret
              exact ⟨by first | rfl | (simp; done) | (simp; omega), below_drewN BZ.out nq⟩
            · obtain rfl : r = false := HR.out.symm.trans (by rw [allowsP, HBB.out]; simp [n9, lo, hi]; omega)
              go_wp2
              go_ret
              exact ⟨by first | rfl | (simp; done) | (simp; omega), below_drewN BZ.out nq⟩
          · obtain rfl : r = false := HR.out.symm.trans (by rw [allowsP, HBB.out]; simp [n9, lo, hi]; omega)
            go_wp2
            go_ret
            exact ⟨by first | rfl | (simp; done) | (simp; omega), below_drewN BZ.out nq⟩
        · by_cases c1 : (0 : Int) ≤ V 11
          · by_cases c2 : V 11 ≤ 0
            · obtain rfl : r = true := HR.out.symm.trans (by rw [allowsP, HBB.out]; simp [n9]; omega)
              go_wp2
              go_ret
              exact ⟨by first | rfl | (simp; done) | (simp; omega), below_drewN BZ.out nq⟩
            · obtain rfl : r = false := HR.out.symm.trans (by rw [allowsP, HBB.out]; simp [n9]; omega)
              go_wp2
              go_ret
              exact ⟨by first | rfl | (simp; done) | (simp; omega), below_drewN BZ.out nq⟩
          · obtain rfl : r = false := HR.out.symm.trans (by rw [allowsP, HBB.out]; simp [n9]; omega)
            go_wp2
            go_ret
            exact ⟨by first | rfl | (simp; done) | (simp; omega), below_drewN BZ.out nq⟩
      · by_cases j12 : f = 12
        · obtain rfl : f = 12 := j12
          have el : lo 12 = 1 := rfl
          have eh : hi 12 = 64 := rfl
          rw [el] at l0'
          rw [eh] at l1'
          simp only [el, eh]
          simp at l0' l1'
          by_cases c1 : (1 : Int) ≤ V 12
          · by_cases c2 : V 12 ≤ 64
            · obtain rfl : r = true := HR.out.symm.trans (by rw [allowsP, HBB.out]; simp [lo, hi]; omega)
              go_wp2
              go_ret
              exact ⟨by first | rfl | (simp; done) | (simp; omega), below_drewN BZ.out nq⟩
            · obtain rfl : r = false := HR.out.symm.trans (by rw [allowsP, HBB.out]; simp [lo, hi]; omega)
              go_wp2
              go_ret
              exact ⟨by first | rfl | (simp; done) | (simp; omega), below_drewN BZ.out nq⟩
          · obtain rfl : r = false := HR.out.symm.trans (by rw [allowsP, HBB.out]; simp [lo, hi]; omega)
            go_wp2
            go_ret
            exact ⟨by first | rfl | (simp; done) | (simp; omega), below_drewN BZ.out nq⟩
        · have k10 : ¬ (f : Int) = 10 := by omega
          have k11 : ¬ (f : Int) = 11 := by omega
          have k12 : ¬ (f : Int) = 12 := by omega
          have E10 : Hid ((f == 10) = false) := hd (by simp [j10])
          have E11 : Hid ((f == 11) = false) := hd (by simp [j11])
          clear j10 j11 j12
          by_cases c1 : lo f ≤ V f
          · by_cases c2 : V f ≤ hi f
            · obtain rfl : r = true := HR.out.symm.trans (by rw [allowsP, HBB.out, E10.out, E11.out]; simp; omega)
              go_wp2
              go_ret
              exact ⟨by first | rfl | (simp; done) | (simp; omega), below_drewN BZ.out nq⟩
            · obtain rfl : r = false := HR.out.symm.trans (by rw [allowsP, HBB.out, E10.out, E11.out]; simp; omega)
              go_wp2
              go_ret
              exact ⟨by first | rfl | (simp; done) | (simp; omega), below_drewN BZ.out nq⟩
          · obtain rfl : r = false := HR.out.symm.trans (by rw [allowsP, HBB.out, E10.out, E11.out]; simp; omega)
            go_wp2
            go_ret
            exact ⟨by first | rfl | (simp; done) | (simp; omega), below_drewN BZ.out nq⟩

end Go.Proofs.YtibnlfdnnlbeeaaDoor
