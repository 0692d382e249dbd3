/-
  whole.
-/
import Derived.Test.YtdlelbdhcpjdfabOc
import Derived.Deep.RegionHeld3
namespace Go.Proofs.Ytdlelbdhcpjdfab
open Go.RowKit
set_option linter.unusedVariables false

theorem SRow.get {w : World} {β : Option Nat} {v : Value} {vs : List Value} (h : SRow w 22 β v vs) (i : Nat) (hi : i < vs.length) : ∃ g cap u, β = some g ∧ v = .slice (some ⟨g, 0, none⟩) vs.length cap ∧ vs[i]? = some u ∧ w.cell? ⟨g, i, none⟩ = some u ∧ vs.length ≤ cap := by
  cases β with
  | none =>
    obtain ⟨_, rfl⟩ := h
    simp at hi
  | some g =>
    obtain ⟨cap, hv, hR⟩ := h
    have hc : vs.length ≤ cap := by
      obtain ⟨_, _, _, _, h, _⟩ := hR
      exact h
    obtain ⟨u, hu⟩ : ∃ u, vs[i]? = some u := ⟨_, List.getElem?_eq_getElem hi⟩
    exact ⟨g, cap, u, rfl, hv, hu, (hR.cell i hi).trans hu, hc⟩

set_option maxRecDepth 100000 in
set_option maxHeartbeats 4000000 in
theorem whole_any {w : World} {K rd rx : Nat} {ρd ρw βL βW : Option Nat} {td tw : FS} {Lv Wv : Value} {LL WW : List Value} {tag : Nat → Nat} (wr : World) (h : KSt w wr K rd rx ρd ρw βL βW td tw Lv Wv LL WW tag) (hl : LL.length = WW.length) (hN : LL.length ≤ 9223372036854775806) :
    Calls Try.prog 17 #[.pointer (some ⟨K, 0, none⟩)] wr fun x w' => x = .returned (.bool true) ∧ ∃ m, w' = wr.drewN m := by
  have H := hd h
  have c0 := cell_row h.cells 0
  have c1 := cell_row h.cells 1
  simp at c0 c1
  obtain ⟨aL, cL, eL⟩ := h.rowL.form
  obtain ⟨aW, cW, eW⟩ := h.rowW.form
  have EL := hd eL
  have EW := hd eW
  have HL := hd hl
  rw [eL] at c0
  rw [eW, ← hl] at c1
  clear h eL eW hl
  obtain ⟨N, hNe⟩ : ∃ N, N = LL.length := ⟨_, rfl⟩
  rw [← hNe] at c0 c1 hN
  have HNE := hd hNe
  clear hNe
  go_enter Try.func17, Try.ntmps17
  go_wp2
  go_loopw [3] (fun i w' => ∃ k m : Nat, k ≤ N ∧ i = .int .i64 k ∧ w' = wr.drewN m) (fun i _ => N - (intOf i).toNat)
  case atStart => exact ⟨0, 0, Nat.zero_le _, rfl, rfl⟩
  case round =>
    obtain ⟨k, m, hk, rfl, rfl⟩ := hrel
    by_cases hlt : k < N
    · have i1 : (k : Int) < (N : Int) := by omega
      obtain ⟨gL, capL, u, eb1, ev1, eu, cu, hc1⟩ := H.out.rowL.get k (by have := HNE.out; omega)
      obtain ⟨gW, capW, v, eb2, ev2, evv, cv, hc2⟩ := H.out.rowW.get k (by have := HNE.out; have := HL.out; omega)
      obtain ⟨xs, ⟨a1, n1, k1, rfl, B1, -⟩, ⟨a2, n2, k2, rfl, B2, -⟩⟩ := H.out.pairs k u v eu evv
      obtain rfl : n1 = n2 := by rw [← B1.1, ← B2.1]
      have x1 := EL.out.symm.trans ev1
      have x2 := EW.out.symm.trans ev2
      simp at x1 x2
      obtain ⟨rfl, -⟩ := x1
      obtain ⟨rfl, -⟩ := x2
      have BB1 := hd (B1.below (below_drewN (Below.refl wr.heap.size wr) (m + 1)))
      have BB2 := hd (B2.below (below_drewN (Below.refl wr.heap.size wr) (m + 1)))
      clear eb1 ev1 eu hc1 eb2 ev2 evv hc2 B1 B2
      go_wp2_with fail
      go_region_held3 (fun w' => w'.cell? ⟨K, 0, none⟩ = some (.slice (some ⟨gL, 0, none⟩) N cL) ∧ w'.cell? ⟨K, 1, none⟩ = some (.slice (some ⟨gW, 0, none⟩) N cW) ∧ w'.cell? ⟨gL, k, none⟩ = some (.slice a1 n1 k1) ∧ w'.cell? ⟨gW, k, none⟩ = some (.slice a2 n1 k2)) (go_keep) (first | (go_at_call 9; refine (same_true a1 a2 n1 k1 k2 xs _ BB1.out BB2.out).mono ?_; rintro e w4 ⟨rfl, m4, rfl⟩))
      go_wp2
      exact ⟨⟨k + 1, _, by omega, by go_num, rfl⟩, by simp [intOf]; omega⟩
    · have i1 : ¬ (k : Int) < (N : Int) := by omega
      go_wp2
      go_ret
      exact ⟨rfl, m, rfl⟩

end Go.Proofs.Ytdlelbdhcpjdfab
