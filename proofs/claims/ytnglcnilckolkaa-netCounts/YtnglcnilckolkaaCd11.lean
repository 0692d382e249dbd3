/-
  NetCounts: others, at a place.
-/
import Derived.Test.YtnglcnilckolkaaCc
import Derived.Deep.RegionHeld3
namespace Go.Proofs.Ytnglcnilckolkaa
open Go.RowKit
set_option linter.unusedVariables false


set_option maxRecDepth 100000 in
set_option maxHeartbeats 8000000 in
theorem others_out_11 (ba oa' bb ob' : Nat) (L L' : List It) (ok : Int) (ow : Bool) (oa ob : Int) (a : Option Addr) (m c : Nat) (j : Nat) (w : World) (h : IsG w (some ⟨ba, oa', none⟩) (j + 1) (j + 1) L) (h' : IsG w (some ⟨bb, ob', none⟩) j j L') (hm1 : moreP ok = -1)
    (he1 : (L.take j).map It.d = (L'.take j).map It.d) (he2 : (L.drop (j + 1)).map It.d = (L'.drop (j)).map It.d) :
    Calls Try.prog 27 #[.slice (some ⟨ba, oa', none⟩) (j + 1) (j + 1), .slice (some ⟨bb, ob', none⟩) j j, .agg #[.int .i64 ok, .bool ow, .int .i64 j, .int .i64 oa, .int .i64 ob, .slice a m c]] w fun e w' => e = .returned (.bool true) ∧ Below w.heap.size w w' := by
  have hnc : (j + 1) ≤ (j + 1) ∧ (j + 1) ≤ 9223372036854775807 := ⟨h.1.2.1, h.1.2.2.1⟩
  have hnc' : j ≤ j ∧ j ≤ 9223372036854775807 := ⟨h'.1.2.1, h'.1.2.2.1⟩
  have G1 : Hid (∀ U, KeepJ w j U → Calls Try.prog 20 #[.slice (some ⟨ba, oa', none⟩) j (j + 1), .slice (some ⟨bb, ob', none⟩) j j] U fun e w' => e = .returned (.bool true) ∧ KeepJ w j w') := fun U kU => by
    have b0 := kU.1
    exact (flights_true _ _ j (j + 1) j _ _ U ((h.below b0).take j (by omega)) ((h'.below b0).take j (by omega)) he1).mono (fun e w' h => ⟨h.1, kU.below h.2⟩)
  have hle := congrArg List.length he2
  simp only [List.length_map, List.length_drop, h.1.1, h'.1.1] at hle
  have G2 : Hid (∀ U, KeepJ w j U → Calls Try.prog 20 #[.slice (some ⟨ba, oa', none⟩) 0 0, .slice (some ⟨bb, ob', none⟩) 0 0] U fun e w' => e = .returned (.bool true) ∧ KeepJ w j w') := by
    intro U kU
    have b0 := kU.1
    have gA : IsG U (some ⟨ba, oa', none⟩) 0 0 (L.drop (j + 1)) := by
      have e0 : L.drop (j + 1) = [] := List.drop_of_length_le (by rw [h.1.1]; omega)
      rw [e0]
      exact IsG.none (by omega)
    have gB : IsG U (some ⟨bb, ob', none⟩) 0 0 (L'.drop (j)) := by
      have e0 : L'.drop (j) = [] := List.drop_of_length_le (by rw [h'.1.1]; omega)
      rw [e0]
      exact IsG.none (by omega)
    have hq : 0 = 0 := by omega
    rw [hq] at gB ⊢
    exact (flights_true _ _ _ _ _ _ _ U gA gB he2).mono (fun e w' h => ⟨h.1, kU.below h.2⟩)
  clear h h' he1 he2 hle
  have HM := hd hm1
  have hw1 : IntKind.i64.wrap ((j : Int) + 1) = (j : Int) + 1 := by rw [IntKind.wrap_i64]; omega
  have t1 : ((j : Int) + 1).toNat = j + 1 := by omega
  have u0 : (0 : Int) ≤ (j : Int) + 1 := by omega
  have u1 : (j : Int) ≤ ((j : Int) + 1) := by omega
  have u2 : j ≤ (j + 1) := by omega
  have u3 : (j : Int) ≤ (j : Int) := by omega
  have u4 : j ≤ j := by omega
  have u5 : (j : Int) + 1 ≤ ((j : Int) + 1) := by omega
  have u6 : j + 1 ≤ (j + 1) := by omega
  have u7 : (j : Int) ≤ (j : Int) := by omega
  have u8 : j ≤ j := by omega
  have u9 : (j : Int) < ((j : Int) + 1) := by omega
  have ua : ¬ ((j : Int) + 1) ≤ (j : Int) := by omega
  have ub : j + 1 ≤ (j + 1) := by omega
  have ug : ¬ (j : Int) < 0 := by omega
  have uh : (0 : Int) ≤ (j : Int) := by omega
  clear hm1
  obtain ⟨w0, hw0⟩ : ∃ w0, w0 = w.alloc (.cells #[.int .i64 ok, .bool ow, .int .i64 j, .int .i64 oa, .int .i64 ob, .slice a m c] 53) := ⟨_, rfl⟩
  have b0 : Below w.heap.size w w0 := by rw [hw0]; exact (Below.refl _ _).alloc (Nat.le_refl _) _
  have hl0 : w0.heap[w.heap.size]? = some (.cells #[.int .i64 ok, .bool ow, .int .i64 j, .int .i64 oa, .int .i64 ob, .slice a m c] 53 (0, 0)) := by rw [hw0]; exact heap_alloc_new _ _
  have c0 : w0.cell? ⟨w.heap.size, 0, none⟩ = some (.int .i64 ok) := cell_row hl0 0
  have c2 : w0.cell? ⟨w.heap.size, 2, none⟩ = some (.int .i64 j) := cell_row hl0 2
  have BB : Hid (KeepJ w j w0) := ⟨b0, c2, block_lt hl0⟩
  clear b0 hl0
  go_enter Try.func27, Try.ntmps27
  go_wp2_with fail
  rw [← hw0]
  clear hw0
  refine (more_any ok _).mono ?_
  rintro e w1 ⟨rfl, rfl⟩
  rw [HM.out]
  go_wp2_with fail
  refine (more_any ok _).mono ?_
  rintro e w2 ⟨rfl, rfl⟩
  rw [HM.out]
  go_wp2_with fail
  go_region_held3 (fun U => U.cell? ⟨w.heap.size, 2, none⟩ = some (.int .i64 j)) (first | (with_reducible assumption) | (go_keep; done)) (first | (go_at_call 20; revert Q1; intro Q1; refine (G2.out _ (by first | exact Q1.out | exact Q1.out.drew | exact Q1.out.drewN _)).mono ?_; rintro e v ⟨rfl, kv⟩; have v2 := kv.2.1; have Q3 := hd kv; clear kv) | (go_at_call 20; refine (G1.out _ (by first | exact BB.out | exact BB.out.drew | exact BB.out.drewN _)).mono ?_; rintro e u ⟨rfl, ku⟩; have u2' := ku.2.1; have Q1 := hd ku; clear ku))
  all_goals
    go_wp2
    go_ret
    exact ⟨rfl, Q3.out.1⟩

end Go.Proofs.Ytnglcnilckolkaa
