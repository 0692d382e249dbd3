/-
  The document's DropTo.
-/
import Derived.Test.YtmbnimlibnheeabDoorRc
namespace Go.Proofs.YtmbnimlibnheeabDoor
open Go.RowKit
set_option linter.unusedVariables false

theorem rdropN_up (r : Rf) (m : Int) : rdropN r m = upN ((r.own.map (·.1)).drop r.dr) m := by
  rw [← List.map_drop]
  unfold upN rdropN
  rw [List.takeWhile_map, List.length_map]
  rfl

set_option maxRecDepth 100000 in
set_option maxHeartbeats 4000000 in
theorem rdrop_any (x : Nat) (r : Rf) (m : Int) (S : Nat → Prop) (w : World) (h : RefAt w x r S) (hl : r.own.length ≤ 10000) :
    Calls Tryd.prog 27 #[.pointer (some ⟨x, 0, none⟩), .int .i64 m] w fun e w' => e = .returned (.int .i64 (rdropN r m)) ∧ RefAt w' x (rdropS r m) S ∧ Fr S w w' := by
  have HU := hd (And.intro (upN_le ((r.own.map (·.1)).drop r.dr) m) (And.intro (upN_lt ((r.own.map (·.1)).drop r.dr) m) (upN_end ((r.own.map (·.1)).drop r.dr) m)))
  rw [← rdropN_up] at HU
  have HS : Hid (rdropS r m = { r with dr := r.dr + rdropN r m }) := rfl
  have hdr := h.2.dr
  generalize rdropN r m = U at *
  have hU : U ≤ r.own.length - r.dr := by have := HU.out.1; simpa using this
  have S0 : Hid (RefAt w x { r with dr := r.dr + 0 } S ∧ Fr S w w) := ⟨h, Fr.refl _ _⟩
  obtain ⟨N, hN⟩ : ∃ N, r.own.length = N := ⟨_, rfl⟩
  have HN := hd hN
  rw [hN] at hdr hU hl
  clear h hN
  go_enter Tryd.func27, Tryd.ntmps27
  go_wp2
  go_loopw [5] (fun i wr => ∃ j : Nat, j ≤ U ∧ i = .int .i64 j ∧ Hid (RefAt wr x { r with dr := r.dr + j } S ∧ Fr S w wr)) (fun i _ => U - (intOf i).toNat)
  case atStart => exact ⟨0, Nat.zero_le _, rfl, S0⟩
  case round =>
    obtain ⟨j, hj, rfl, hr⟩ := hrel
    clear S0
    obtain ⟨hA, hF⟩ := hr.out
    have hA2 := hA
    obtain ⟨⟨vo, vf, βo, βf, hK, hSx, hSo, hSf, hS⟩, hok⟩ := hA2
    have c1 := cell_row hK.box 1
    have c3 := cell_row hK.box 3
    have f3 := frozen_row hK.box 3
    simp at c1 c3
    have hro := hK.ro
    obtain ⟨ao, co, hvo, hco1, hco2⟩ := hro.form
    simp only at hro hco1 hvo
    rw [HN.out] at hco1 hvo
    subst hvo
    obtain ⟨D, hD⟩ : ∃ D, r.dr + j = D := ⟨_, rfl⟩
    have hcD : wr.cell? ⟨x, 3, none⟩ = some (.int .i64 (D : Int)) := by rw [c3, ← hD]; simp
    clear c3
    by_cases hDN : D < N
    · have dl : D < r.own.length := by rw [HN.out]; exact hDN
      obtain ⟨g, rfl, hce⟩ : ∃ g, ao = some ⟨g, 0, none⟩ ∧ wr.cell? ⟨g, D * 6, none⟩ = some (.int .i64 r.own[D].1) := by
        cases βo with
        | none =>
          obtain ⟨-, h2⟩ := hro
          rw [h2] at dl
          simp at dl
        | some g' =>
          obtain ⟨cap, h1, hR⟩ := hro
          injection h1 with h1 h2 h3
          refine ⟨g', h1, ?_⟩
          have := hR.cell sz_mkd D 0 dl (by omega)
          simpa [mkd] using this
      have hjm : j < ((r.own.map (·.1)).drop r.dr).length := by simp; omega
      have hmj : ((r.own.map (·.1)).drop r.dr)[j] = r.own[D].1 := by simp [hD]
      have i1 : (D : Int) < (N : Int) := by omega
      by_cases hju : j < U
      · have hle := HU.out.2.1 j hju hjm
        rw [hmj] at hle
        have Z : Hid (∀ W, Below wr.heap.size wr W → RefAt (W.setCell ⟨x, 3, none⟩ (.int .i64 ((D : Int) + 1))) x { r with dr := r.dr + (j + 1) } S ∧ Fr S w (W.setCell ⟨x, 3, none⟩ (.int .i64 ((D : Int) + 1)))) := fun W hW => by
          have hW2 := hA.below hW
          obtain ⟨z1, z2⟩ := rnow_dr hW2 (r.dr + (j + 1)) (by simp only; rw [HN.out]; omega)
          have e1 : ((r.dr + (j + 1) : Nat) : Int) = (D : Int) + 1 := by omega
          rw [e1] at z1 z2
          exact ⟨z1, (hF.trans (Fr.of_below hW)).trans z2⟩
        generalize r.own[D].1 = y at *
        clear hr hA hF hK hSx hSo hSf hS hok hro hjm hmj dl
        go_wp2_with fail
        go_quiet (fail)
        go_wp2
        exact ⟨⟨j + 1, by omega, by go_num, Z.out _ (by repeat (first | exact Below.refl _ _ | refine Below.drew ?_ | refine below_drewN ?_ _))⟩, by simp [intOf]; omega⟩
      · obtain rfl : j = U := by omega
        have hgt := HU.out.2.2 j hjm rfl
        rw [hmj] at hgt
        have Z : Hid (∀ W, Below wr.heap.size wr W → RefAt W x (rdropS r m) S ∧ Fr S w W) := fun W hW => by
          rw [HS.out]
          exact ⟨hA.below hW, hF.trans (Fr.of_below hW)⟩
        generalize r.own[D].1 = y at *
        clear hr hA hF hK hSx hSo hSf hS hok hro hjm hmj dl HU
        go_wp2_with fail
        go_quiet (fail)
        go_wp2
        go_ret
        exact ⟨rfl, Z.out _ (by repeat (first | exact Below.refl _ _ | refine Below.drew ?_ | refine below_drewN ?_ _))⟩
    · obtain rfl : j = U := by omega
      have i1 : ¬ (D : Int) < (N : Int) := by omega
      have Z : Hid (∀ W, Below wr.heap.size wr W → RefAt W x (rdropS r m) S ∧ Fr S w W) := fun W hW => by
        rw [HS.out]
        exact ⟨hA.below hW, hF.trans (Fr.of_below hW)⟩
      clear hr hA hF hK hSx hSo hSf hS hok hro HU
      go_wp2_with fail
      go_quiet (fail)
      go_wp2
      go_ret
      exact ⟨rfl, Z.out _ (by repeat (first | exact Below.refl _ _ | refine Below.drew ?_ | refine below_drewN ?_ _))⟩

end Go.Proofs.YtmbnimlibnheeabDoor
