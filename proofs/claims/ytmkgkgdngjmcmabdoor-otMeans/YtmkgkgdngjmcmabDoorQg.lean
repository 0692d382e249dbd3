/-
  meant.
-/
import Derived.Test.YtmkgkgdngjmcmabDoorQf
import Derived.Test.YtmkgkgdngjmcmabDoorUn
namespace Go.Proofs.YtmkgkgdngjmcmabDoor
open Go.RowKit
set_option linter.unusedVariables false

theorem put_at (v : Value) (o : OpE) (xs : List El) (w : World) (hV : AtE w v xs) (hn : (xs.length + 1) * 24 ≤ 281474976710656) (ho : FitO xs.length o) :
    Calls Tryd.prog 25 #[v, o.val] w fun e w' => ∃ g c, e = .returned (.tuple #[.slice (some ⟨g, 0, none⟩) (putP xs o).length c, .bool true]) ∧ AtE w' (.slice (some ⟨g, 0, none⟩) (putP xs o).length c) (putP xs o) ∧ Below w.heap.size w w' := by
  obtain ⟨b, off, c, rfl, hE⟩ := hV
  refine (put_fit b off _ c o xs w hE hn ho).mono ?_
  rintro e w' ⟨v, rfl, g, c', rfl, hg, hR, hB⟩
  exact ⟨g, c', rfl, ⟨g, 0, c', rfl, hR.isE⟩, hB⟩

set_option maxRecDepth 100000 in
set_option maxHeartbeats 4000000 in
theorem meant_any (v u : Value) (d e : List El) (p : Nat) (c : Int) (a2 : OpE) (w : World) (hV : AtE w v d) (hU : AtE w u e) (hI : InsS d p c e a2) (hN : d.Nodup) (h1 : ∀ z ∈ d, z.2.1 = 1) (hn : (e.length + 1) * 24 ≤ 281474976710656) (hl : d.length ≤ 4096) :
    Calls Tryd.prog 23 #[v, u, .agg #[.int .i64 1, .int .i64 p, .int .u8 c, .int .i64 2, .int .i64 1], a2.val] w fun r w' => r = .returned (.bool true) ∧ Below w.heap.size w w' := by
  obtain ⟨q, rfl, hF, hlen, hat, hall⟩ := meant_pure hI hN h1
  have HV := hd hV
  have HU := hd hU
  have HF := hd hF
  have HA := hd hall
  have HT := hd hat
  have HN := hd hn
  have HL := hd hlen
  clear hV hU hI hN h1 hn hF hall hat hlen
  obtain ⟨eb, eo, ec, rfl, hE⟩ := HU.out
  simp only [OpE.val]
  go_enter Tryd.func23, Tryd.ntmps23
  go_wp2_with fail
  have B0 : Below w.heap.size w ((w.alloc (.cells #[.int .i64 1, .int .i64 p, .int .u8 c, .int .i64 2, .int .i64 1] 23)).alloc (.cells #[.int .i64 1, .int .i64 q, .int .u8 c, .int .i64 2, .int .i64 1] 23)) := ((Below.refl _ _).alloc (Nat.le_refl _) _).alloc (by rw [World.size_alloc]; omega) _
  have hz : ((w.alloc (.cells #[.int .i64 1, .int .i64 p, .int .u8 c, .int .i64 2, .int .i64 1] 23)).alloc (.cells #[.int .i64 1, .int .i64 q, .int .u8 c, .int .i64 2, .int .i64 1] 23)).heap[w.heap.size]? = some (.cells #[.int .i64 1, .int .i64 p, .int .u8 c, .int .i64 2, .int .i64 1] 23 (0, 0)) := (heap_alloc_old _ _ (by rw [World.size_alloc]; omega)).trans (heap_alloc_new w _)
  have hs : w.heap.size < ((w.alloc (.cells #[.int .i64 1, .int .i64 p, .int .u8 c, .int .i64 2, .int .i64 1] 23)).alloc (.cells #[.int .i64 1, .int .i64 q, .int .u8 c, .int .i64 2, .int .i64 1] 23)).heap.size := by rw [World.size_alloc, World.size_alloc]; omega
  have V1 := HV.out.below B0
  have U1 := HU.out.below B0
  generalize (w.alloc (.cells #[.int .i64 1, .int .i64 p, .int .u8 c, .int .i64 2, .int .i64 1] 23)).alloc (.cells #[.int .i64 1, .int .i64 q, .int .u8 c, .int .i64 2, .int .i64 1] 23) = W at *
  refine (put_at _ ⟨1, (q : Int), c, 2, 1⟩ e W U1 HN.out HF.out).mono ?_
  rintro r w1 ⟨g, cf, rfl, hP, b1⟩
  have hcf := hP
  obtain ⟨_, _, _, ev, hEf⟩ := hcf
  obtain ⟨-, -, rfl⟩ := Value.slice.inj ev
  have hcf1 := hEf.2.1
  have hcf2 := hEf.2.2.1
  clear hEf ev
  rw [HL.out] at hP hcf1 ⊢
  have k1 : w1.cell? ⟨w.heap.size, 1, none⟩ = some (.int .i64 p) := (b1.cell (p := ⟨w.heap.size, 1, none⟩) hs).trans (by simp only [World.cell?, hz]; rfl)
  have k2 : w1.cell? ⟨w.heap.size, 2, none⟩ = some (.int .u8 c) := (b1.cell (p := ⟨w.heap.size, 2, none⟩) hs).trans (by simp only [World.cell?, hz]; rfl)
  have k3 : w1.cell? ⟨w.heap.size, 3, none⟩ = some (.int .i64 2) := (b1.cell (p := ⟨w.heap.size, 3, none⟩) hs).trans (by simp only [World.cell?, hz]; rfl)
  have k4 : w1.cell? ⟨w.heap.size, 4, none⟩ = some (.int .i64 1) := (b1.cell (p := ⟨w.heap.size, 4, none⟩) hs).trans (by simp only [World.cell?, hz]; rfl)
  have hs1 : w.heap.size < w1.heap.size := Nat.lt_of_lt_of_le hs b1.size
  have B1 := hd (B0.trans (b1.mono (Nat.le_of_lt hs)))
  have HP := hd hP
  have V2 := hd (V1.below b1)
  have eN : e.length < 20000000000000 := by have := HN.out; omega
  clear hP b1 V1 U1 hz hs B0 HU HF hE HV
  go_wp2_with fail
  refine (place_any _ (c, 2, 1) _ _ HP.out).mono ?_
  rintro r w2 ⟨rfl, b2⟩
  rw [HT.out]
  have j1 : w2.cell? ⟨w.heap.size, 1, none⟩ = some (.int .i64 p) := (b2.cell (p := ⟨w.heap.size, 1, none⟩) hs1).trans k1
  have hs2 : w.heap.size < w2.heap.size := Nat.lt_of_lt_of_le hs1 b2.size
  have B2 := hd (B1.out.trans (b2.mono (Nat.le_of_lt hs1)))
  have P2 := hd (HP.out.below b2)
  have V3 := hd (V2.out.below b2)
  clear b2 k1 k2 k3 k4 B1 HP V2
  have J1 := hd j1
  have HS := hd hs2
  have q0 : ¬ (q : Int) < 0 := by omega
  clear j1 hs1
  obtain ⟨vb, vo, vc, rfl, hVE⟩ := V3.out
  have vc1 := hVE.2.1
  have vc2 := hVE.2.2.1
  clear hVE
  go_wp2_with fail
  go_loopw [12] (fun i wr => ∃ k : Nat, k ≤ d.length ∧ i = .int .i64 k ∧ Hid (Below w2.heap.size w2 wr)) (fun i _ => d.length - (intOf i).toNat)
  case atStart => exact ⟨0, Nat.zero_le _, rfl, Below.refl _ _⟩
  case round =>
    obtain ⟨k, hk, rfl, hB⟩ := hrel
    by_cases hlt : k < d.length
    · have i1 : (k : Int) < (d.length : Int) := by omega
      have V4 := V3.out.below hB.out
      have P4 := hd (P2.out.below hB.out)
      obtain ⟨_, _, _, ev, hVE⟩ := V4
      obtain ⟨ev1, -, rfl⟩ := Value.slice.inj ev
      simp at ev1
      obtain ⟨rfl, rfl⟩ := ev1
      obtain ⟨x0, x1, x2⟩ := hVE.at k hlt hlt
      have A4 := hd (HA.out k hlt)
      have j4 : wr.cell? ⟨w.heap.size, 1, none⟩ = some (.int .i64 p) := (hB.out.cell (p := ⟨w.heap.size, 1, none⟩) HS.out).trans J1.out
      have hs4 : w.heap.size < wr.heap.size := Nat.lt_of_lt_of_le HS.out hB.out.size
      clear hVE ev
      generalize d[k] = X at *
      obtain ⟨xa, xb, xc⟩ := X
      simp only [] at x0 x1 x2
      go_wp2_with fail
      refine (place_any _ (xa, xb, xc) _ _ P4.out).mono ?_
      rintro r w5 ⟨rfl, b5⟩
      have j5 : w5.cell? ⟨w.heap.size, 1, none⟩ = some (.int .i64 p) := (b5.cell (p := ⟨w.heap.size, 1, none⟩) hs4).trans j4
      have B5 := hd (hB.out.trans (b5.mono hB.out.size))
      clear b5 j4 x0 x1 x2 hB
      generalize placeP (xa, xb, xc) _ 0 = Z at *
      by_cases z0 : Z ≥ 0
      · have A5 := A4.out z0
        by_cases z1 : Z < (q : Int)
        · have z2 : (k : Int) < (p : Int) := by have := A5.mp z1; omega
          clear A4 A5
          go_wp2_with fail
          exact ⟨⟨k + 1, by omega, by go_num, B5⟩, by simp [intOf]; omega⟩
        · have z2 : ¬ (k : Int) < (p : Int) := fun h => z1 (A5.mpr (by omega))
          clear A4 A5
          go_wp2_with fail
          · rename_i h
            have e1 : decide (Z < (q : Int)) = false := decide_eq_false (by omega)
            have e2 : decide (k < p) = false := decide_eq_false (by omega)
            rw [e1, e2] at h
            exact absurd h (by decide)
          exact ⟨⟨k + 1, by omega, by go_num, B5⟩, by simp [intOf]; omega⟩
      · clear A4
        go_wp2_with fail
        exact ⟨⟨k + 1, by omega, by go_num, B5⟩, by simp [intOf]; omega⟩
    · obtain rfl : k = d.length := by omega
      go_wp2_with fail
      go_ret
      exact ⟨rfl, B2.out.trans (hB.out.mono (Nat.le_of_lt HS.out))⟩

end Go.Proofs.YtmkgkgdngjmcmabDoor
