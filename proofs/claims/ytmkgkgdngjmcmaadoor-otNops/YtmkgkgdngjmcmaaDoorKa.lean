/-
  acting: a line without its Nops.
-/
import Derived.Test.YtmkgkgdngjmcmaaDoorNp
import Derived.Test.YtmkgkgdngjmcmaaDoorUc
namespace Go.Proofs.YtmkgkgdngjmcmaaDoor
open Go.RowKit
set_option linter.unusedVariables false

theorem act_len (l : List OpE) : (act l).length ≤ l.length := List.length_filter_le _ _

set_option maxRecDepth 100000 in
set_option maxHeartbeats 4000000 in
theorem acting_any (a : Option Addr) (n c : Nat) (xs : List OpE) (w : World) (hE : IsO w a n c xs) (hn : n ≤ 4096) :
    Calls Tryd.prog 18 #[.slice a n c] w fun e w' => ∃ v, e = .returned v ∧ FRel w w' w.heap.size v (act xs) := by
  have HE := hd hE
  have HL := hd hE.1
  have hc := hE.2.1
  have hc63 := hE.2.2.1
  have S0 : Hid (FRel w w w.heap.size (.slice none 0 0) (act (xs.take 0))) := ⟨none, ⟨rfl, rfl⟩, fun g hg => by (cases hg), Below.refl _ _⟩
  clear hE
  go_enter Tryd.func18, Tryd.ntmps18
  go_wp2
  go_loopw [3, 4] (fun v i wr => ∃ j : Nat, j ≤ n ∧ i = .int .i64 j ∧ Hid (FRel w wr w.heap.size v (act (xs.take j)))) (fun _ i _ => n - (intOf i).toNat)
  case atStart => exact ⟨0, Nat.zero_le _, rfl, S0⟩
  case round =>
    obtain ⟨j, hj, rfl, hr⟩ := hrel
    clear S0
    obtain ⟨N, hN⟩ : ∃ N, N = (act (xs.take j)).length := ⟨_, rfl⟩
    obtain ⟨av, cv, rfl, hI, hB⟩ := hr.out.form hN.symm
    by_cases hlt : j < n
    · have jx : j < xs.length := by have := HL.out; omega
      have E2 := HE.out.below hB
      obtain ⟨bl, ol, rfl, hbl⟩ := E2.addr (by omega)
      obtain ⟨x0, x1, x2, x3, x4⟩ := E2.at j hlt jx
      have i3 : (j : Int) < (n : Int) := by omega
      have hNl : N ≤ 4096 := by rw [hN]; have := act_len (xs.take j); simp at this; omega
      have e1 := act_take xs j jx
      obtain ⟨v5, w5, hap, hF5, hk5, -⟩ := hr.out.push (Below.refl wr.heap.size wr) (Nat.le_refl _) hB.size xs[j] (by omega)
      generalize xs[j] = x at *
      obtain ⟨uk, up, uc, uq, us⟩ := x
      simp only [opc] at hap x0 x1 x2 x3 x4 e1
      have HR := hr
      clear hk5 hI hB E2 hr hN hNl
      by_cases hz : uk = 0
      · subst hz
        simp only [if_true, List.append_nil] at e1
        have Z : Hid (FRel w wr w.heap.size (.slice av N cv) (act (xs.take (j + 1)))) := by rw [e1]; exact HR.out
        clear hap hF5 HR e1
        go_wp2
        exact ⟨⟨j + 1, by omega, by go_num, Z⟩, by simp [intOf]; omega⟩
      · rw [if_neg hz] at e1
        rw [← e1] at hF5
        have Z5 := hd hF5
        have hz' : (uk != 0) = true := by simpa using hz
        clear hF5 HR e1 hz
        go_wp2_with (at_builtin; refine wpList_append_k _ rfl _ _ 32 32 rfl _ _ rfl rfl (hap _) ?_)
        exact ⟨⟨j + 1, by omega, by go_num, Z5⟩, by simp [intOf]; omega⟩
    · obtain rfl : j = n := by omega
      have G : Hid (FRel w wr w.heap.size (.slice av N cv) (act xs)) := by
        have h := hr.out
        rw [List.take_of_length_le (by have := HL.out; omega)] at h
        exact h
      clear hr hI hB hN
      go_wp2
      go_ret
      exact ⟨_, rfl, G.out⟩

end Go.Proofs.YtmkgkgdngjmcmaaDoor
