/-
  NetFresh: fill.
-/
import Derived.Test.YtnglcnilckolkaaGd
namespace Go.Proofs.Ytnglcnilckolkaa
open Go.RowKit
set_option linter.unusedVariables false

set_option maxRecDepth 100000 in
/-- fill of the first n bytes of a list: they are the mark, the rest of the row is as it was. -/
theorem fill_any (γ : Option Nat) (n c c' : Nat) (ys : List Int) (mk : Int) (w : World) (hT : TR w γ c ys) (hn : n ≤ ys.length) (hc : n ≤ c') (hm : c' ≤ 9223372036854775807) :
    Calls Try.prog 23 #[.slice (at0 γ) n c', .int .u8 mk] w fun e w' => e = .returned (.tuple #[]) ∧ TR w' γ c (List.replicate n mk ++ ys.drop n) ∧ Fr (fun q => γ = some q) w w' := by
  have S0 : Hid (TR w γ c (List.replicate 0 mk ++ ys.drop 0) ∧ Fr (fun q => γ = some q) w w) := ⟨by simpa using hT, Fr.refl _ _⟩
  have HN := hd hn
  clear hT hn
  generalize ha : at0 γ = a
  have HA := hd ha
  clear ha
  go_enter Try.func23, Try.ntmps23
  go_wp2
  go_loopw [4] (fun i wr => ∃ k : Nat, k ≤ n ∧ i = .int .i64 k ∧ Hid (TR wr γ c (List.replicate k mk ++ ys.drop k) ∧ Fr (fun q => γ = some q) w wr)) (fun i _ => n - (intOf i).toNat)
  case atStart => exact ⟨0, Nat.zero_le _, rfl, S0⟩
  case round =>
    obtain ⟨k, hk, rfl, hq⟩ := hrel
    clear S0
    by_cases hkn : k < n
    · have i1 : (k : Int) < (n : Int) := by omega
      have kl : k < (List.replicate k mk ++ ys.drop k).length := by
        rw [List.length_append, List.length_replicate, List.length_drop]
        have := HN.out
        omega
      obtain ⟨g, hgg, d0, f0⟩ := hq.out.1.cell k kl
      subst hgg
      have HA' := HA.out
      simp only [at0, Option.map] at HA'
      subst HA'
      have st := hq.out.1.set k kl mk
      rw [mark_step _ _ _ (Nat.lt_of_lt_of_le hkn HN.out)] at st
      have F : Fr (fun q => some g = some q) wr (wr.setCell ⟨g, k, none⟩ (.int .u8 mk)) := Fr.setCell wr ⟨g, k, none⟩ (.int .u8 mk) rfl
      have S2 := hd (And.intro st (hq.out.2.trans F))
      generalize (List.replicate k mk ++ ys.drop k).getD k 0 = old at d0
      clear hq kl st F
      go_wp2
      exact ⟨⟨k + 1, by omega, by go_num, S2⟩, by simp [intOf]; omega⟩
    · have i1 : ¬ (k : Int) < (n : Int) := by omega
      obtain rfl : k = n := by omega
      go_wp2
      (try simp only [Exit.inBlock, Exit.then])
      refine bodyPost_end (results_none rfl _ _ _) rfl ?_
      exact ⟨rfl, hq.out.1, hq.out.2⟩

end Go.Proofs.Ytnglcnilckolkaa
