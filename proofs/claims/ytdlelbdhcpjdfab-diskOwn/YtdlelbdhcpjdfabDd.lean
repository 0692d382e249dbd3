/-
  widen, Append.
-/
import Derived.Test.YtdlelbdhcpjdfabDc
namespace Go.Proofs.Ytdlelbdhcpjdfab
open Go.RowKit
set_option linter.unusedVariables false

/-- A file whose room is told. -/
def DKR (w : World) (r : Nat) (ρ : Option Nat) (R B : List Int) (s : Nat) : Prop :=
  w.heap[r]? = some (.cells #[.slice (roomA ρ) R.length R.length, .int .i64 B.length, .int .i64 s] 56 (0, 0)) ∧ Room w r ρ R ∧ B = R.take B.length ∧ B.length ≤ R.length ∧ s ≤ B.length ∧ R.length ≤ 262144

/-- The room stays where it was, or is new. -/
def Moved (w : World) (ρ ρ' : Option Nat) : Prop := ρ' = ρ ∨ ∃ p, ρ' = some p ∧ w.heap.size ≤ p

theorem len_app (B : List Int) (m : Nat) : (B ++ (List.replicate m (0 : Int)).drop B.length).length = max B.length m := by simp; omega

set_option maxRecDepth 100000 in
set_option maxHeartbeats 2000000 in
theorem widen_any (r : Nat) (ρ : Option Nat) (B : List Int) (s N : Nat) (w : World) (h : DK w r ρ B s) (hN : N ≤ 262144) (hBN : B.length ≤ N) :
    Calls Try.prog 27 #[.pointer (some ⟨r, 0, none⟩), .int .i64 N] w fun x w' => (∃ v, x = .returned v) ∧ ∃ ρ' R, DKR w' r ρ' R B s ∧ N ≤ R.length ∧ Moved w ρ ρ' ∧ Fr (· = r) w w' := by
  obtain ⟨i0, hi, hz0, hz1, hz2⟩ := info_parts Try.info5
  have H := hd h
  have hlt := hd h.lt
  obtain ⟨R, hh, hR, h1, h2, h3, h4⟩ := h
  have c0 := cell_row hh 0
  simp at c0
  have HH := hd hh
  have hRR := hd hR
  have hB1 := hd h1
  clear hh hR h1
  generalize hK : R.length = K at *
  by_cases hNK : N ≤ K
  · have i1 : (N : Int) ≤ (K : Int) := by omega
    subst hK
    have Z : Hid (DKR w r ρ R B s) := ⟨HH.out, hRR.out, hB1.out, h2, h3, h4⟩
    go_enter Try.func27, Try.ntmps27
    go_wp2
    first | go_end0 | refine bodyPost_ret (results_none rfl _ _ _) rfl ?_
    exact ⟨⟨_, rfl⟩, ρ, R, Z.out, hNK, .inl rfl, Fr.refl _ _⟩
  · have i1 : ¬ (N : Int) ≤ (K : Int) := by omega
    have hw : IntKind.i64.wrap (2 * (K : Int)) = 2 * (K : Int) := by
      rw [IntKind.wrap_i64]
      omega
    obtain ⟨M, hM, hMl⟩ : ∃ M : Nat, ((262144 : Int) < 2 * (K : Int) ∧ (N : Int) < 262144 ∧ (M : Int) = 262144 ∨ (262144 : Int) < 2 * (K : Int) ∧ ¬ (N : Int) < 262144 ∧ (M : Int) = N ∨ ¬ (262144 : Int) < 2 * (K : Int) ∧ (N : Int) < 2 * (K : Int) ∧ (M : Int) = 2 * (K : Int) ∨
        ¬ (262144 : Int) < 2 * (K : Int) ∧ ¬ (N : Int) < 2 * (K : Int) ∧ (M : Int) = N) ∧ N ≤ M ∧ M ≤ 262144 := ⟨max N (min (2 * K) 262144), by omega, by omega⟩
    have hML := hd hMl
    clear hMl
    rcases hM with ⟨q1, q2, q3⟩ | ⟨q1, q2, q3⟩ | ⟨q1, q2, q3⟩ | ⟨q1, q2, q3⟩
    all_goals (
      have Q3 := hd q3
      clear q3
      go_enter Try.func27, Try.ntmps27
      go_wp2_with (first | (at_make; refine wpList_make_b _ rfl _ _ 22 rfl 5 i0 Try.underlying22 hi hz0 hz1 hz2 _ _ _ _ M rfl rfl Q3.out.symm Q3.out.symm (by have := hML.out; omega) ?_; intro w1 G1 B1 hsz) | fail)
      have H1 := hd (H.out.below B1.out)
      go_wp2_with fail
      refine (lay_any r ρ B s w.heap.size M _ _ H1.out G1.out (fun hk => Nat.lt_irrefl _ (hlt.out _ hk)) (by simp) (Nat.le_trans hBN hML.out.1) (by have := hML.out; omega)).mono ?_
      rintro x w2 ⟨⟨v, rfl⟩, hG, hF⟩
      have hr0 : r < w.heap.size := block_lt HH.out
      have hr1 : w2.heap[r]? = some (.cells #[.slice (roomA ρ) K K, .int .i64 B.length, .int .i64 s] 56 (0, 0)) := hF.keeps (hd (show w1.heap[r]? = _ from (B1.out.block r hr0).trans HH.out)).out (by omega)
      have f0 := frozen_row hr1 0
      have d0 := cell_row hr1 0
      simp at d0
      have Z : Hid (DKR (w2.setCell ⟨r, 0, none⟩ (.slice (some ⟨w.heap.size, 0, none⟩) M M)) r (some w.heap.size) (B ++ (List.replicate M (0 : Int)).drop B.length) B s ∧ Fr (· = r) w (w2.setCell ⟨r, 0, none⟩ (.slice (some ⟨w.heap.size, 0, none⟩) M M))) := by
        have hml := hML.out
        have el : (B ++ (List.replicate M (0 : Int)).drop B.length).length = M := by rw [len_app]; omega
        refine ⟨⟨?_, ⟨by omega, ?_⟩, by simp, by omega, h3, by omega⟩, ((Fr.of_below B1.out).next hF (fun i hi e => by omega)).trans (Fr.setCell _ _ _ rfl)⟩
        · rw [set_row hr1 0 _, el]
          rfl
        · rw [Below.heap_setCell _ _ _ _ (by simp; omega)]
          exact hG
      clear hG hF hr1
      go_wp2
      go_end0
      refine ⟨⟨_, rfl⟩, _, _, Z.out.1, ?_, .inr ⟨_, rfl, Nat.le_refl _⟩, Z.out.2⟩
      have hml := hML.out
      rw [len_app]
      omega)

end Go.Proofs.Ytdlelbdhcpjdfab
