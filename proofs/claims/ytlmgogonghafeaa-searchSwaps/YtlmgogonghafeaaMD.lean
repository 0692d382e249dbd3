/-
  Texts put together: Md Me.
-/
import Derived.Test.YtlmgogonghafeaaIn
import Derived.Test.YtlmgogonghafeaaFn
import Derived.Deep.RegionLaw
/-! Md -/
namespace Go.Proofs.Ytlmgogonghafeaa
open Go.RowKit Go.Lib
set_option linter.unusedVariables false

/-- The step as an operation. -/
def mdP (out : Bool) (N ch : Int) (n : Nat) : OpE :=
  if out = true ∧ 0 < n then ⟨2, (((N % (n : Int)).toNat : Nat) : Int), 0, 64, 64⟩ else ⟨1, (((N % ((n + 1 : Nat) : Int)).toNat : Nat) : Int), 32 + ch % 95, 64, 64⟩

set_option maxRecDepth 100000 in
set_option maxHeartbeats 4000000 in
theorem made_del (N ch : Int) (n : Nat) (w : World) (hn : n < 100000) (hn0 : 0 < n) :
    Calls Try.prog 27 #[.agg #[.bool true, .int .i64 N, .int .u8 ch], .int .i64 n] w fun e w' => e = .returned (mdP true N ch n).val ∧ Below w.heap.size w w' := by
  have E : Hid (mdP true N ch n = ⟨2, (((N % (n : Int)).toNat : Nat) : Int), 0, 64, 64⟩) := by show _ = _; unfold mdP; rw [if_pos ⟨rfl, hn0⟩]
  have CI := hd (fun W => into_any N n W hn0 (by omega))
  obtain ⟨V, hV⟩ : ∃ V : Int, (((N % (n : Int)).toNat : Nat) : Int) = V := ⟨_, rfl⟩
  simp only [hV] at CI
  rw [hV] at E
  clear hV
  go_enter Try.func27, Try.ntmps27
  go_wp2_with (go_at_call 16; refine (CI.out _).mono ?_; rintro e w2 ⟨rfl, rfl⟩)
  refine bodyPost_ret (v := .agg #[.int .i64 2, .int .i64 V, .int .u8 0, .int .i64 64, .int .i64 64]) (by simp [results, Try.results27, go_sem]) rfl ?_
  rw [E.out]
  exact ⟨rfl, ((Below.refl _ _).alloc (Nat.le_refl _) _).alloc (by simp) _⟩
end Go.Proofs.Ytlmgogonghafeaa

/-! Me -/
namespace Go.Proofs.Ytlmgogonghafeaa
open Go.RowKit Go.Lib
set_option linter.unusedVariables false

theorem md_val (C : Nat) (h : C < 256) : IntKind.u8.wrap (32 + (C : Int).tmod 95) = 32 + (C : Int) % 95 := by
  rw [Int.tmod_eq_emod_of_nonneg (by omega)]
  show (32 + (C : Int) % 95) % 256 = _
  omega
set_option maxRecDepth 100000 in
set_option maxHeartbeats 1000000 in
theorem made_ins (out : Bool) (N : Int) (C n : Nat) (w : World) (hC : C < 256) (hn : n < 100000) (ho : ¬ (out = true ∧ 0 < n)) :
    Calls Try.prog 27 #[.agg #[.bool out, .int .i64 N, .int .u8 C], .int .i64 n] w fun e w' => e = .returned (mdP out N C n).val ∧ Below w.heap.size w w' := by
  have E : Hid (mdP out N C n = ⟨1, (((N % ((n + 1 : Nat) : Int)).toNat : Nat) : Int), 32 + (C : Int) % 95, 64, 64⟩) := by show _ = _; unfold mdP; rw [if_neg ho]
  have CI := hd (fun W => into_any N (n + 1) W (by omega) (by omega))
  obtain ⟨V, hV⟩ : ∃ V : Int, (((N % ((n + 1 : Nat) : Int)).toNat : Nat) : Int) = V := ⟨_, rfl⟩
  simp only [hV] at CI
  rw [hV] at E
  rw [show ((n + 1 : Nat) : Int) = (n : Int) + 1 by omega] at CI
  clear hV
  have hw1 : IntKind.i64.wrap ((n : Int) + 1) = (n : Int) + 1 := by rw [IntKind.wrap_i64]; omega
  have hv := md_val C hC
  cases out with
  | false =>
    clear ho
    go_enter Try.func27, Try.ntmps27
    go_wp2_with fail
    go_region_law (first | (go_simp; go_at_call 16; refine (CI.out _).mono ?_; rintro e w2 ⟨rfl, rfl⟩))
    all_goals
      go_wp2
      refine bodyPost_ret (v := .agg #[.int .i64 1, .int .i64 V, .int .u8 (32 + (C : Int) % 95), .int .i64 64, .int .i64 64]) (by simp [results, Try.results27, go_sem]) rfl ?_
      rw [E.out]
      exact ⟨rfl, (((Below.refl _ _).alloc (Nat.le_refl _) _).alloc (by simp) _).trans ((below_drew _).mono (by simp; omega))⟩
  | true =>
    obtain rfl : n = 0 := by
      apply Classical.byContradiction
      intro h
      exact ho ⟨rfl, by omega⟩
    clear ho
    go_enter Try.func27, Try.ntmps27
    go_wp2_with fail
    go_region_law (first | (go_simp; go_at_call 16; refine (CI.out _).mono ?_; rintro e w2 ⟨rfl, rfl⟩))
    all_goals
      go_wp2
      refine bodyPost_ret (v := .agg #[.int .i64 1, .int .i64 V, .int .u8 (32 + (C : Int) % 95), .int .i64 64, .int .i64 64]) (by simp [results, Try.results27, go_sem]) rfl ?_
      rw [E.out]
      exact ⟨rfl, (((Below.refl _ _).alloc (Nat.le_refl _) _).alloc (by simp) _).trans ((below_drew _).mono (by simp; omega))⟩

theorem made_any (out : Bool) (N : Int) (C n : Nat) (w : World) (hC : C < 256) (hn : n < 100000) :
    Calls Try.prog 27 #[.agg #[.bool out, .int .i64 N, .int .u8 C], .int .i64 n] w fun e w' => e = .returned (mdP out N C n).val ∧ Below w.heap.size w w' := by
  by_cases ho : out = true ∧ 0 < n
  · obtain ⟨rfl, h0⟩ := ho
    exact made_del N C n w hn h0
  · exact made_ins out N C n w hC hn ho
/-- What is made fits. -/
theorem md_fits (out : Bool) (N : Int) (C n : Nat) (hC : C < 256) (hn : n < 4096) : fitsP (n : Int) (mdP out N C n) = 0 := by
  by_cases ho : out = true ∧ 0 < n
  · have h1 := Int.emod_nonneg N (show ((n : Nat) : Int) ≠ 0 by omega)
    have h2 := Int.emod_lt_of_pos N (show (0 : Int) < ((n : Nat) : Int) by omega)
    unfold mdP
    rw [if_pos ho]
    generalize N % (n : Int) = r at *
    simp [fitsP, validP, holdP, pointP, inR]
    omega
  · have h1 := Int.emod_nonneg N (show ((n + 1 : Nat) : Int) ≠ 0 by omega)
    have h2 := Int.emod_lt_of_pos N (show (0 : Int) < ((n + 1 : Nat) : Int) by omega)
    unfold mdP
    rw [if_neg ho]
    generalize N % ((n + 1 : Nat) : Int) = r at *
    simp [fitsP, validP, holdP, pointP, inR]
    omega
end Go.Proofs.Ytlmgogonghafeaa
