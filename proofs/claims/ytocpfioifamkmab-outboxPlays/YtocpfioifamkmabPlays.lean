/-
  OutboxPlays.
-/
import Derived.Test.YtocpfioifamkmabPd
namespace Go.Proofs.Ytocpfioifamkmab
open Go.RowKit
set_option linter.unusedVariables false

set_option maxRecDepth 100000 in
set_option maxHeartbeats 8000000 in
theorem outboxPlays_any (a1 : Option Addr) (n1 c1 : Nat) (O : Nat → OpV) (w : World) (hS : IsS w a1 n1 c1 O) :
    Calls Try.prog 3 #[.slice a1 n1 c1] w fun e w' => e = .returned (.bool true) ∧ Below w.heap.size w w' := by
  have HS := hd hS
  have n1c := hS.1
  have n1m := hS.2.1
  clear hS
  go_enter Try.func3, Try.ntmps3
  go_wp2_with fail
  refine (begun_any w).mono ?_
  rintro e w1 ⟨P, rfl, h1⟩
  have S0 := hd h1
  clear h1
  go_wp2_with fail
  go_loopw [5] (fun v wr => ∃ i : Nat, i ≤ n1 ∧ v = .int .i64 i ∧ Hid (∃ X Y p, PP w wr P (· = P) X Y p p)) (fun v _ => n1 - (intOf v).toNat)
  case atStart => exact ⟨0, Nat.zero_le _, rfl, S0⟩
  case round =>
    obtain ⟨i, hi, rfl, HT⟩ := hrel
    clear S0
    by_cases hlt : i < n1
    · obtain ⟨X, Y, p, hP⟩ := HT.out
      obtain ⟨b, off, rfl, -, hc⟩ := (HS.out.below hP.pa.base (Nat.le_refl _)).2.2 (by omega)
      obtain ⟨k0, k1, k2⟩ := hc i hlt
      generalize O i = o at k0 k1 k2
      obtain ⟨ko, so, no⟩ := o
      simp only at k0 k1 k2
      have HP := hd hP
      have i1 : (i : Int) < (n1 : Int) := by omega
      clear hP hc HT
      go_wp2_with fail
      refine (step_any w P X Y p ko so no wr HP.out).mono ?_
      rintro e w2 ⟨rfl, h2⟩
      have Z := hd h2
      clear h2 HP k0 k1 k2
      go_wp2_with fail
      exact ⟨⟨i + 1, by omega, by go_num, Z⟩, by simp [intOf]; omega⟩
    · have i1 : ¬ (i : Int) < (n1 : Int) := by omega
      clear HS
      go_wp2_with fail
      go_loopw [6] (fun v wq => ∃ j : Nat, j ≤ 2 ∧ v = .int .i64 j ∧ Hid (∃ X Y p, PP w wq P (· = P) X Y p p)) (fun v _ => 2 - (intOf v).toNat)
      case atStart => exact ⟨0, by omega, rfl, HT⟩
      case round =>
        obtain ⟨j, hj, rfl, HJ⟩ := hrel
        clear HT
        by_cases hjl : j < 2
        · have j1 : (j : Int) < 2 := by omega
          go_wp2_with fail
          go_loopw [7] (fun v wq => ∃ k : Nat, 5 ≤ k ∧ k ≤ 8 ∧ v = .int .i64 k ∧ Hid (∃ X Y p, PP w wq P (· = P) X Y p p)) (fun v _ => 8 - (intOf v).toNat)
          case atStart => exact ⟨5, by omega, by omega, rfl, HJ⟩
          case round =>
            obtain ⟨k, hk5, hk8, rfl, HK⟩ := hrel
            clear HJ
            obtain ⟨X, Y, p, hP⟩ := HK.out
            have HP := hd hP
            clear hP HK
            by_cases hkl : k ≤ 7
            · have k1 : (k : Int) ≤ 7 := by omega
              go_wp2_with fail
              refine (step_any w P X Y p k j 0 _ HP.out).mono ?_
              rintro e w2 ⟨rfl, h2⟩
              have Z := hd h2
              clear h2 HP
              go_wp2_with fail
              exact ⟨⟨k + 1, by omega, by omega, by go_num, Z⟩, by simp [intOf]; omega⟩
            · have k1 : ¬ (k : Int) ≤ 7 := by omega
              go_wp2_with fail
              refine (lists_any w P X Y p 4 j 0 _ HP.out).mono ?_
              rintro e w2 ⟨rfl, p2, h2⟩
              have H2 := hd h2
              clear h2 HP
              go_wp2_with fail
              refine (lists_any w P X Y p2 2 j 0 _ H2.out).mono ?_
              rintro e w3 ⟨rfl, p3, h3⟩
              have Z : Hid (∃ X Y p, PP w w3 P (· = P) X Y p p) := ⟨_, _, _, h3⟩
              clear h3 H2
              go_wp2_with fail
              exact ⟨⟨j + 1, by omega, by go_num, Z⟩, by simp [intOf]; omega⟩
        · have j1 : ¬ (j : Int) < 2 := by omega
          obtain ⟨X, Y, p, hP⟩ := HJ.out
          have Z := hd hP.pa.base
          clear hP HJ
          go_wp2
          go_ret
          exact ⟨rfl, Z.out⟩

end Go.Proofs.Ytocpfioifamkmab
