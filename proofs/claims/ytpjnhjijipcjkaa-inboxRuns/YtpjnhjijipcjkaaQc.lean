/-
  Run, as an iterator, at one invariant.
-/
import Derived.Test.YtpjnhjijipcjkaaQb
import Derived.LoopNIn
import Derived.LoopIn
import Derived.Shelf.Abstract
namespace Go.Proofs.Ytpjnhjijipcjkaa
open Go.RowKit Go.Shelf
set_option linter.unusedVariables false
attribute [local go_sem] Oper.semAt_some

theorem least {p : Nat → Prop} (h : ∃ k, p k) : ∃ k, p k ∧ ∀ j, p j → k ≤ j := by
  obtain ⟨k, hk⟩ := h
  induction k using Nat.strongRecOn with
  | _ k ih =>
    by_cases h : ∃ j, j < k ∧ p j
    · obtain ⟨j, h1, h2⟩ := h
      exact ih j h1 h2
    · exact ⟨k, hk, fun j hj => by
        by_cases hlt : j < k
        · exact absurd ⟨j, hlt, hj⟩ h
        · omega⟩
open Classical in
/-- How many rounds are left at most. -/
noncomputable def rk (I : Nat → World → Prop) (W : World) : Nat := if h : ∃ k, I k W then Classical.choose (least h) else 0
theorem rk_spec {I : Nat → World → Prop} {W : World} (h : ∃ k, I k W) : I (rk I W) W ∧ ∀ j, I j W → rk I W ≤ j := by
  unfold rk
  rw [dif_pos h]
  exact Classical.choose_spec (least h)

/-- One round: Head, Pop, yield. -/
def RunAt (n l bx a : Nat) (I : Nat → World → Prop) (E X : World → Prop) : Prop := ∀ k W, I k W → W.cell? ⟨bx, 0, none⟩ = some (pt a) ∧
  ((∃ v, Calls Try.prog 15 #[pt a] W fun e W' => e = .returned (.tuple #[v, .bool false]) ∧ E W') ∨
   ∃ z c, Calls Try.prog 15 #[pt a] W fun e W1 => e = .returned (.tuple #[.int .i64 z, .bool true]) ∧ W1.cell? ⟨bx, 0, none⟩ = some (pt a) ∧
     Calls Try.prog 16 #[pt a] W1 fun e W2 => (∃ v, e = .returned v) ∧ W2.cell? ⟨bx, 0, none⟩ = some (pt a) ∧ W2.cell? ⟨a, 1, none⟩ = some (.int .i64 c) ∧
       YieldAt Fence.wide (n - 1) Try.prog l #[.int .i64 c, .int .i64 z] W2 fun e W3 => (e = .returned (.bool true) ∧ ∃ k', k' < k ∧ I k' W3) ∨ (e = .returned (.bool false) ∧ X W3))

set_option maxRecDepth 100000 in
set_option maxHeartbeats 4000000 in
theorem run1_at (n l bx a : Nat) (hn : 2 ≤ n) (I : Nat → World → Prop) (E X : World → Prop) (hI : RunAt n l bx a I E X) (W : World) (h : ∃ k, I k W) :
    CallsIn Fence.wide n Try.prog 52 #[.func (.yield l) #[] #[], .pointer (some ⟨bx, 0, none⟩)] W fun e W' => (∃ v, e = .returned v) ∧ (E W' ∨ X W') := by
  have hf1 : Fence.wide.fn 15 := trivial
  have hf2 : Fence.wide.fn 16 := trivial
  have hn1 : 1 ≤ n := by omega
  have HI := hd hI
  have H0 := hd h
  clear hI h
  refine callsIn_of_wp Try.func52 rfl trivial ?_ rfl
  simp only [Try.ntmps52, List.size_toArray, List.length_cons, List.length_nil, Nat.reduceAdd, Nat.reduceSub, Array.replicate_succ, Array.replicate_zero, List.push_toArray, List.append_toArray, List.nil_append, List.cons_append]
  gi_wp2_with fail
  gi_loopw [] (fun wr => Hid (∃ k, I k wr)) (fun wr => rk I wr)
  case atStart => exact H0
  case round =>
    obtain ⟨hk, hmin⟩ := rk_spec hrel.out
    have HM := hd hmin
    clear hmin hrel H0
    obtain ⟨c0, h1⟩ := HI.out _ _ hk
    have HK := hd hk
    clear hk
    rcases h1 with ⟨v, hc⟩ | ⟨z, c, hc⟩
    · gi_wp2_with (gi_at_call 15; refine (callsIn_wide.2 hc).mono ?_; clear hc; rintro e w' ⟨rfl, hE⟩)
      refine bodyPost_ret (results_none rfl _ _ _) rfl ?_
      exact ⟨⟨_, rfl⟩, .inl hE⟩
    · gi_wp2_with (first | (gi_at_call 15; refine (callsIn_wide.2 hc).mono ?_; clear hc; rintro e w1 ⟨rfl, c1, hp⟩) | (gi_at_call 16; refine (callsIn_wide.2 hp).mono ?_; clear hp; rintro e w2 ⟨⟨v, rfl⟩, c2, d2, hy2⟩; obtain ⟨fn, tmps, assign, body, hy, hR⟩ := hy2))
      refine hR.mono ?_
      rintro e W3 (⟨rfl, k', hk', hJ3⟩ | ⟨rfl, hX⟩)
      · have Z : Hid (∃ k, I k W3) := ⟨k', hJ3⟩
        have hlt : rk I W3 < rk I wr := Nat.lt_of_le_of_lt ((rk_spec Z.out).2 k' hJ3) hk'
        clear hJ3
        gi_wp2_with fail
        go_roundw
        case rel => exact Z
        case measure => exact hlt
      · gi_wp2_with fail
        refine bodyPost_ret (results_none rfl _ _ _) rfl ?_
        exact ⟨⟨_, rfl⟩, .inr hX⟩

end Go.Proofs.Ytpjnhjijipcjkaa
