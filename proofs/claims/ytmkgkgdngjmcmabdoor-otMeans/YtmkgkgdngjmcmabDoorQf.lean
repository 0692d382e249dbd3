/-
  Whether a line has taken an element away; whether an insertion keeps its place.
-/
import Derived.Test.YtmkgkgdngjmcmabDoorQe
import Derived.Test.YtmkgkgdngjmcmabDoorUm
namespace Go.Proofs.YtmkgkgdngjmcmabDoor
open Go.RowKit
set_option linter.unusedVariables false

set_option maxRecDepth 100000 in
set_option maxHeartbeats 4000000 in
/-- lost, of an element that stands in d. -/
theorem lost_any (v : Value) (a : Option Addr) (m c : Nat) (z : El) (d : List El) (l : List OpE) (w : World) (hV : AtE w v d) (hO : IsO w a m c l) (hF : FitL d l) (hn : (d.length + m + 1) * 24 ≤ 281474976710656) (hz : z ∈ d) :
    Calls Tryd.prog 24 #[v, .slice a m c, .agg #[.int .u8 z.1, .int .i64 z.2.1, .int .i64 z.2.2]] w fun e w' => e = .returned (.bool (decide (z ∉ runP d l))) ∧ Below w.heap.size w w' := by
  have HV := hd hV
  have HO := hd hO
  have HF := hd hF
  have HN := hd hn
  have HZ := hd hz
  clear hV hO hF hn hz
  obtain ⟨z0, z1, z2⟩ := z
  simp only []
  go_enter Tryd.func24, Tryd.ntmps24
  go_wp2_with fail
  have B0 : Below w.heap.size w (w.alloc (.cells #[.int .u8 z0, .int .i64 z1, .int .i64 z2] 50)) := (Below.refl _ _).alloc (Nat.le_refl _) _
  have hz : (w.alloc (.cells #[.int .u8 z0, .int .i64 z1, .int .i64 z2] 50)).heap[w.heap.size]? = some (.cells #[.int .u8 z0, .int .i64 z1, .int .i64 z2] 50 (0, 0)) := heap_alloc_new w _
  have hs : w.heap.size < (w.alloc (.cells #[.int .u8 z0, .int .i64 z1, .int .i64 z2] 50)).heap.size := by rw [World.size_alloc]; exact Nat.lt_succ_self _
  have V1 := HV.out.below B0
  have O1 : IsO (w.alloc (.cells #[.int .u8 z0, .int .i64 z1, .int .i64 z2] 50)) a m c l := HO.out.below B0
  refine (run_fit v a m c d l _ V1 O1 HF.out HN.out).mono ?_
  rintro e w1 ⟨u, rfl, hU, b1⟩
  have V2 := hd (V1.below b1)
  have HU := hd hU
  have c0 : w1.cell? ⟨w.heap.size, 0, none⟩ = some (.int .u8 z0) := (b1.cell (p := ⟨w.heap.size, 0, none⟩) hs).trans (by simp only [World.cell?, hz]; rfl)
  have c1 : w1.cell? ⟨w.heap.size, 1, none⟩ = some (.int .i64 z1) := (b1.cell (p := ⟨w.heap.size, 1, none⟩) hs).trans (by simp only [World.cell?, hz]; rfl)
  have c2 : w1.cell? ⟨w.heap.size, 2, none⟩ = some (.int .i64 z2) := (b1.cell (p := ⟨w.heap.size, 2, none⟩) hs).trans (by simp only [World.cell?, hz]; rfl)
  have B1 := hd (B0.trans (b1.mono (Nat.le_of_lt hs)))
  have hs1 : w.heap.size < w1.heap.size := Nat.lt_of_lt_of_le hs b1.size
  clear hz hs V1 O1 b1 hU B0 HV HO
  go_wp2_with fail
  refine (place_any v (z0, z1, z2) d _ V2.out).mono ?_
  rintro e w2 ⟨rfl, b2⟩
  have p1 : placeP (z0, z1, z2) d 0 ≥ 0 := placeP_iff.mpr HZ.out
  have U2 := hd (HU.out.below b2)
  have k0 : w2.cell? ⟨w.heap.size, 0, none⟩ = some (.int .u8 z0) := (b2.cell (p := ⟨w.heap.size, 0, none⟩) hs1).trans c0
  have k1 : w2.cell? ⟨w.heap.size, 1, none⟩ = some (.int .i64 z1) := (b2.cell (p := ⟨w.heap.size, 1, none⟩) hs1).trans c1
  have k2 : w2.cell? ⟨w.heap.size, 2, none⟩ = some (.int .i64 z2) := (b2.cell (p := ⟨w.heap.size, 2, none⟩) hs1).trans c2
  have B2 := hd (B1.out.trans (b2.mono (Nat.le_of_lt hs1)))
  have hs2 : w.heap.size ≤ w2.heap.size := Nat.le_trans (Nat.le_of_lt hs1) b2.size
  clear c0 c1 c2 b2 HU V2 B1
  generalize placeP (z0, z1, z2) d 0 = P at *
  go_wp2_with fail
  refine (place_any u (z0, z1, z2) _ _ U2.out).mono ?_
  rintro e w3 ⟨rfl, b3⟩
  have B3 := hd (B2.out.trans (b3.mono hs2))
  clear b3 U2 k0 k1 k2 B2
  by_cases hm : (z0, z1, z2) ∈ runP d l
  · have p2 : ¬ placeP (z0, z1, z2) (runP d l) 0 < 0 := by have := placeP_iff.mpr hm; omega
    have R : Hid (decide (¬ (z0, z1, z2) ∈ runP d l) = false) := by simpa [Hid] using hm
    clear hm
    generalize placeP (z0, z1, z2) (runP d l) 0 = P2 at *
    go_wp2_with fail
    go_ret
    exact ⟨by rw [R.out]; simp [p2], B3.out⟩
  · have p2 : placeP (z0, z1, z2) (runP d l) 0 < 0 := by rw [placeP_not hm]; omega
    have R : Hid (decide (¬ (z0, z1, z2) ∈ runP d l) = true) := by simpa [Hid] using hm
    clear hm
    generalize placeP (z0, z1, z2) (runP d l) 0 = P2 at *
    go_wp2_with fail
    go_ret
    exact ⟨by rw [R.out]; rfl, B3.out⟩

end Go.Proofs.YtmkgkgdngjmcmabDoor
