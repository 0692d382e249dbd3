/-
  calm.
-/
import Derived.Test.YtpjnhjijipcjkaaPf
import Derived.Deep.DeepCutAuto
namespace Go.Proofs.Ytpjnhjijipcjkaa
open Go.RowKit
set_option linter.unusedVariables false

/-- What calm reads. -/
theorem pb_lists {G : Thg} {w0 w : World} {K : Nat → Prop} {x a b r q : Nat} {A B A' B' : Rb} {m : Nat} (h : MO w0 w K (FP G x a b r q A B A' B' m)) : ∃ aL cL aW cW, w.cell? ⟨x, 4, none⟩ = some (.slice aL m cL) ∧ w.cell? ⟨x, 5, none⟩ = some (.slice aW m cW) ∧ m ≤ cL ∧ cL ≤ 9223372036854775807 ∧ m ≤ cW ∧ cW ≤ 9223372036854775807 ∧
    ∀ j, j < m → ∃ gL gW a1 n1 c1 a2 n2 c2 e, aL = some ⟨gL, 0, none⟩ ∧ aW = some ⟨gW, 0, none⟩ ∧ w.cell? ⟨gL, j, none⟩ = some (.slice a1 n1 c1) ∧ w.cell? ⟨gW, j, none⟩ = some (.slice a2 n2 c2) ∧ IsL w (.slice a1 n1 c1) e ∧ IsL w (.slice a2 n2 c2) e := by
  obtain ⟨S, h1, -⟩ := h.now 4
  obtain ⟨vL, βL, SL, vW, βW, SW, E, K0⟩ := h1
  have hSLm : SL.length = m := by rw [K0.ke.1]; exact K0.len
  have hSWm : SW.length = m := by rw [K0.ke.2.1]; exact K0.len
  obtain ⟨aL, cL, rfl, hL1, hL2⟩ := K0.rowL.form
  obtain ⟨aW, cW, rfl, hW1, hW2⟩ := K0.rowW.form
  have c4 := cell_row K0.box 4
  have c5 := cell_row K0.box 5
  simp at c4 c5
  rw [hSLm] at c4 hL1
  rw [hSWm] at c5 hW1
  refine ⟨aL, cL, aW, cW, c4, c5, hL1, hL2, hW1, hW2, fun j hj => ?_⟩
  have gt : ∀ {β : Option Nat} {ad : Option Addr} {c : Nat} {L : List SV}, SF sv 1 w 22 β (.slice ad L.length c) L → ∀ (hjl : j < L.length), ∃ g, ad = some ⟨g, 0, none⟩ ∧ w.cell? ⟨g, j, none⟩ = some (.slice (L[j]).a (L[j]).n (L[j]).c) := by
    intro β ad c L hS hjl
    cases β with
    | none =>
      rw [hS.2] at hjl
      simp at hjl
    | some g =>
      obtain ⟨cap, h1, hR⟩ := hS
      injection h1 with h1
      refine ⟨g, h1, ?_⟩
      have := hR.cell sz_sv j 0 hjl (by omega)
      simpa [sv] using this
  obtain ⟨gL, e1, e2⟩ := gt K0.rowL (by omega)
  obtain ⟨gW, e3, e4⟩ := gt K0.rowW (by omega)
  have hE : j < E.length := by rw [K0.len]; exact hj
  obtain ⟨k1, k2⟩ := K0.ke.2.2 j _ _ E[j] (List.getElem?_eq_getElem (by omega)) (List.getElem?_eq_getElem (by omega)) (List.getElem?_eq_getElem hE)
  exact ⟨gL, gW, _, _, _, _, _, _, E[j], e1, e3, e2, e4, k1.isL, k2.isL⟩

set_option maxRecDepth 100000 in
set_option maxHeartbeats 4000000 in
theorem calm_any {G : Thg} {w0 w : World} {x a b r q : Nat} {A B : Rb} {m : Nat} (h : PB G w0 w NoK x a b r q A B m) (hm : m ≤ 44) :
    Calls Try.prog 27 #[pt x] w fun ex w' => ex = .returned (.bool true) ∧ ∃ z, w' = w.drewN z := by
  obtain ⟨aL, cL, aW, cW, c4, c5, l1, l2, l3, l4, hl⟩ := pb_lists h
  have HL := hd hl
  clear hl h
  go_enter Try.func27, Try.ntmps27
  go_wp2_with fail
  go_loopw [3] (fun i wr => ∃ j : Nat, j ≤ m ∧ i = .int .i64 j ∧ ∃ z, wr = w.drewN z) (fun i _ => m - (intOf i).toNat)
  case atStart => exact ⟨0, Nat.zero_le _, rfl, 0, rfl⟩
  case round =>
    obtain ⟨j, hj, rfl, hz⟩ := hrel
    have hcell : ∀ p, wr.cell? p = w.cell? p := fun p => by obtain ⟨z, rfl⟩ := hz; rfl
    have HZ := hd hz
    clear hz
    by_cases hlt : j < m
    · obtain ⟨gL, gW, a1, n1, c1, a2, n2, c2, e, rfl, rfl, q1, q2, q3, q4⟩ := HL.out j hlt
      have d4 := (hcell _).trans c4
      have d5 := (hcell _).trans c5
      have d1 := (hcell _).trans q1
      have d2 := (hcell _).trans q2
      have B0 : RowKit.Below w.heap.size w wr := by obtain ⟨z, rfl⟩ := HZ.out; exact below_drewN' _ _
      have X1 := hd (fun k => (q3.below B0).below (below_drewN' wr k))
      have X2 := hd (fun k => (q4.below B0).below (below_drewN' wr k))
      have i1 : (j : Int) < (m : Int) := by omega
      clear HL hcell q1 q2 q3 q4 c4 c5 B0
      go_wp2_with fail
      go_quiet (first | (go_at_call 18; exact Calls.quiet_of (eq_true _ _ e _ (X1.out _) (X2.out _))))
      go_wp2_with fail
      refine ⟨⟨j + 1, by omega, by go_num, ?_⟩, by simp [intOf]; omega⟩
      obtain ⟨z, rfl⟩ := HZ.out
      exact ⟨_, World.drewN_drewN _ _ _⟩
    · have i1 : ¬ (j : Int) < (m : Int) := by omega
      have d4 := (hcell _).trans c4
      clear HL hcell c4 c5
      go_wp2_with fail
      go_ret
      exact ⟨rfl, HZ.out⟩

end Go.Proofs.Ytpjnhjijipcjkaa
