/-
  rest, all: every operation that fits a text of n elements.
-/
import Derived.Test.YtmkgkgdngjmcmaaDoorNp
import Derived.Test.YtmkgkgdngjmcmaaDoorUb
namespace Go.Proofs.YtmkgkgdngjmcmaaDoor
open Go.RowKit
set_option linter.unusedVariables false

set_option maxHeartbeats 1000000 in
theorem rest_any (x : Int) (M : Nat) (w : World) (h0 : 0 < M) (h1 : M ≤ 1000000) :
    Calls Tryd.prog 19 #[.int .i64 x, .int .i64 M] w fun e w' => ∃ p : Nat, e = .returned (.int .i64 p) ∧ p < M ∧ w = w' := by
  have b1 : x.tmod M < M := Int.tmod_lt_of_pos _ (by omega)
  have b2 : -(M : Int) < x.tmod M := by
    have := Int.lt_tmod_of_pos x (b := (M : Int)) (by omega)
    omega
  have hM : ¬ ((M : Int) = 0) := by omega
  obtain ⟨r, hr⟩ : ∃ r, r = x.tmod M := ⟨_, rfl⟩
  rw [← hr] at b1 b2
  have ht : x.tmod (M : Int) = r := hr.symm
  clear hr
  by_cases hn : r < 0
  · obtain ⟨p, hp⟩ : ∃ p : Nat, r + (M : Int) = (p : Int) := ⟨(r + (M : Int)).toNat, by omega⟩
    have R : Hid (p < M) := by
      show _ < _
      omega
    go_enter Tryd.func19, Tryd.ntmps19
    go_wp2
    go_ret
    exact ⟨p, by first | rfl | (simp; omega), R.out, rfl⟩
  · obtain ⟨p, hp⟩ : ∃ p : Nat, r = (p : Int) := ⟨r.toNat, by omega⟩
    have R : Hid (p < M) := by
      show _ < _
      omega
    go_enter Tryd.func19, Tryd.ntmps19
    go_wp2
    go_ret
    exact ⟨p, by first | rfl | (simp; omega), R.out, rfl⟩

/-- Every operation of L fits a text of n elements and is the client's. -/
def AllP (n : Nat) (cl : Int) (L : List OpE) : Prop := ∀ o ∈ L, FitO n o ∧ o.cl = cl

theorem AllP.more {n : Nat} {cl : Int} {L : List OpE} (h : AllP n cl L) {o : OpE} (h1 : FitO n o) (h2 : o.cl = cl) : AllP n cl (L ++ [o]) := by
  intro x hx
  rcases List.mem_append.1 hx with hx | hx
  · exact h x hx
  · rw [List.mem_singleton.1 hx]
    exact ⟨h1, h2⟩

/-- A row of the call's own, all of it fits. -/
def ARl (w wr : World) (v : Value) (n : Nat) (cl : Int) (k : Nat) : Prop := ∃ L, FRel w wr w.heap.size v L ∧ AllP n cl L ∧ L.length = k

theorem ARl.push {w wr : World} {v : Value} {n k : Nat} {cl : Int} (h : ARl w wr v n cl k) (hk : k ≤ 4096) (o : OpE) (h1 : FitO n o) (h2 : o.cl = cl) :
    ∃ v' w3, (∀ ty, (Builtin.append_ #[32, 32] ty #[v, .slice (some ⟨wr.heap.size, 0, none⟩) 1 1]).run Tryd.prog (wr.alloc (.cells (opc o).toArray 23)) = .ok v' w3) ∧ ARl w w3 v' n cl (k + 1) := by
  obtain ⟨L, hF, hA, hl⟩ := h
  obtain ⟨β, hS, hβ, hB⟩ := hF
  obtain ⟨v', w3, hr, hF3, -, -⟩ := FRel.push ⟨β, hS, hβ, hB⟩ (Below.refl wr.heap.size wr) (Nat.le_refl _) hB.size o (by omega)
  exact ⟨v', w3, hr, L ++ [o], hF3, hA.more h1 h2, by simp [hl]⟩

set_option maxRecDepth 100000 in
set_option maxHeartbeats 4000000 in
theorem all_any (n : Nat) (cl : Int) (w : World) (hn : n ≤ 40) :
    Calls Tryd.prog 21 #[.int .i64 n, .int .i64 cl] w fun e w' => ∃ v, e = .returned v ∧ ARl w w' v n cl (n + 1 + n + 1) := by
  have S0 : Hid (ARl w w (.slice none 0 0) n cl 0) := ⟨[], ⟨none, ⟨rfl, rfl⟩, fun g hg => by (cases hg), Below.refl _ _⟩, fun o ho => by (cases ho), rfl⟩
  go_enter Tryd.func21, Tryd.ntmps21
  go_wp2
  go_loopw [5, 6] (fun v i wr => ∃ j : Nat, j ≤ n + 1 ∧ i = .int .i64 j ∧ Hid (ARl w wr v n cl j)) (fun _ i _ => n + 1 - (intOf i).toNat)
  case atStart => exact ⟨0, Nat.zero_le _, rfl, S0⟩
  case round =>
    obtain ⟨j, hj, rfl, hr⟩ := hrel
    clear S0
    obtain ⟨L, hF, hA, hl⟩ := hr.out
    obtain ⟨av, cv, rfl, -, hB⟩ := hF.form hl
    clear hF hA hl
    by_cases hlt : j < n + 1
    · have i3 : (j : Int) ≤ (n : Int) := by omega
      obtain ⟨v5, w5, hap, hZ⟩ := hr.out.push (by omega) ⟨1, j, 35, cl, 1⟩ (.inr (.inl ⟨rfl, j, rfl, by omega⟩)) rfl
      have Z := hd hZ
      simp only [opc] at hap
      clear hr hZ hB
      go_wp2_with (at_builtin; refine wpList_append_k _ rfl _ _ 32 32 rfl _ _ rfl rfl (hap _) ?_)
      exact ⟨⟨j + 1, by omega, by go_num, Z⟩, by simp [intOf]; omega⟩
    · obtain rfl : j = n + 1 := by omega
      have i4 : ¬ ((n : Int) + 1 ≤ (n : Int)) := by omega
      have S1 := hr
      clear hr hB
      obtain ⟨wE, hwE⟩ : ∃ wE, wE = wr := ⟨_, rfl⟩
      subst hwE
      go_wp2
      go_loopw [5, 7] (fun v i wr => ∃ k : Nat, k ≤ n ∧ i = .int .i64 k ∧ Hid (ARl w wr v n cl (n + 1 + k))) (fun _ i _ => n - (intOf i).toNat)
      case atStart => exact ⟨0, Nat.zero_le _, rfl, S1⟩
      case round =>
        obtain ⟨k, hk, rfl, hr⟩ := hrel
        clear S1
        obtain ⟨L, hF, hA, hl⟩ := hr.out
        obtain ⟨au, cu, rfl, -, hB⟩ := hF.form hl
        clear hF hA hl
        by_cases hlt2 : k < n
        · have i3 : (k : Int) < (n : Int) := by omega
          obtain ⟨v5, w5, hap, hZ⟩ := hr.out.push (by omega) ⟨2, k, 0, cl, 1⟩ (.inr (.inr ⟨rfl, k, rfl, hlt2⟩)) rfl
          have Z := hd hZ
          simp only [opc] at hap
          clear hr hZ hB
          go_wp2_with (at_builtin; refine wpList_append_k _ rfl _ _ 32 32 rfl _ _ rfl rfl (hap _) ?_)
          exact ⟨⟨k + 1, by omega, by go_num, Z⟩, by simp [intOf]; omega⟩
        · obtain rfl : k = n := by omega
          obtain ⟨v5, w5, hap, hZ⟩ := hr.out.push (by omega) ⟨0, 0, 0, cl, 1⟩ (.inl ⟨rfl, rfl, rfl⟩) rfl
          have Z := hd hZ
          simp only [opc] at hap
          clear hr hZ hB
          go_wp2_with (at_builtin; refine wpList_append_k _ rfl _ _ 32 32 rfl _ _ rfl rfl (hap _) ?_)
          go_ret
          exact ⟨_, rfl, Z.out⟩

end Go.Proofs.YtmkgkgdngjmcmaaDoor
