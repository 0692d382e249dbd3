/-
  DiskPlays: the walk.
-/
import Derived.Test.YtdlelbdhcpjdfabPc
import Derived.Test.YtdlelbdhcpjdfabPe
namespace Go.Proofs.Ytdlelbdhcpjdfab
open Go.RowKit
set_option linter.unusedVariables false

theorem QS.below {w wr : World} {P : Nat} (h : QS w wr P) : Below w.heap.size w wr := by
  obtain ⟨F, D, ρ, R, β, tag, h⟩ := h
  exact h.below

set_option maxRecDepth 100000 in
set_option maxHeartbeats 4000000 in
theorem plays_any (al : Option Addr) (nl cl : Nat) (O : Nat → OpV) (A : Nat → Option Addr) (N C : Nat → Nat) (w : World) (hl : IsOps w al nl cl O A N C) :
    Calls Try.prog 5 #[.slice al nl cl] w fun x w' => x = .returned (.bool true) ∧ Below w.heap.size w w' := by
  obtain ⟨l1, l2, l3⟩ := hl
  have L3 := hd l3
  clear l3
  go_enter Try.func5, Try.ntmps5
  go_wp2_with fail
  refine (begun_any _).mono ?_
  rintro e w1 ⟨P, rfl, hQ⟩
  have S0 := hd hQ
  clear hQ
  go_wp2
  go_loopw [5] (fun i wr => ∃ k : Nat, k ≤ nl ∧ i = .int .i64 k ∧ Hid (QS w wr P)) (fun i _ => nl - (intOf i).toNat)
  case atStart => exact ⟨0, Nat.zero_le _, rfl, S0⟩
  case round =>
    obtain ⟨k, hk, rfl, hr⟩ := hrel
    clear S0
    by_cases hlt : k < nl
    · have hbl : Below w.heap.size w wr := hr.out.below
      obtain ⟨b, off, rfl, hbb, hc⟩ := L3.out (by omega)
      obtain ⟨c0, c1, c2, c3, c4, c5, hX, hXn⟩ := hc k hlt
      have d0 := (hbl.cell (p := ⟨b, off + k * 6, none⟩) hbb).trans c0
      have d1 := (hbl.cell (p := ⟨b, off + k * 6 + 1, none⟩) hbb).trans c1
      have d2 := (hbl.cell (p := ⟨b, off + k * 6 + 2, none⟩) hbb).trans c2
      have d3 := (hbl.cell (p := ⟨b, off + k * 6 + 3, none⟩) hbb).trans c3
      have d4 := (hbl.cell (p := ⟨b, off + k * 6 + 4, none⟩) hbb).trans c4
      have d5 := (hbl.cell (p := ⟨b, off + k * 6 + 5, none⟩) hbb).trans c5
      have XO := hd hX
      have i1 : (k : Int) < (nl : Int) := by omega
      clear hc c0 c1 c2 c3 c4 c5 hX hbb hbl
      generalize O k = o at *
      generalize A k = xa at *
      generalize N k = xn at *
      generalize C k = xc at *
      obtain ⟨kind, site, oa, ob, oc, ys⟩ := o
      simp only [] at d0 d1 d2 d3 d4
      go_wp2_with fail
      refine (step_any P kind site oa ob oc ys xa xn xc w _ hr.out XO.out hXn).mono ?_
      rintro e w4 ⟨rfl, hQ⟩
      have S9 := hd hQ
      clear hQ hr XO d0 d1 d2 d3 d4 d5
      go_wp2
      exact ⟨⟨k + 1, by omega, by go_num, S9⟩, by simp [intOf]; omega⟩
    · have i1 : ¬ (k : Int) < (nl : Int) := by omega
      obtain ⟨M, hM⟩ : ∃ M : Nat, M = 2 := ⟨_, rfl⟩
      have HM := hd hM
      have T0 := hd hr.out
      clear hM hr
      go_wp2
      go_loopw [6] (fun i wr => ∃ k : Nat, k ≤ M ∧ i = .int .i64 k ∧ Hid (QS w wr P)) (fun i _ => M - (intOf i).toNat)
      case atStart => exact ⟨0, Nat.zero_le _, rfl, T0⟩
      case round =>
        obtain ⟨q, hq, rfl, hr⟩ := hrel
        clear T0
        by_cases hlt2 : q < M
        · obtain ⟨F, hF⟩ := hr.out
          have PF := hd hF
          clear hF hr
          have j1 : (q : Int) < 2 := by have := HM.out; omega
          go_wp2_with fail
          refine (asked_any P F 7 q 0 0 0 none 0 0 w _ PF.out).mono ?_
          rintro e w2 ⟨rfl, hP⟩
          have P2 := hd hP
          clear hP PF
          go_wp2_with fail
          refine (asked_any P F 8 q 0 0 0 none 0 0 w _ P2.out).mono ?_
          rintro e w3 ⟨rfl, hP⟩
          have P3 := hd hP
          clear hP P2
          go_wp2_with fail
          refine (asked_any P F 9 q 0 0 0 none 0 0 w _ P3.out).mono ?_
          rintro e w4 ⟨rfl, hP⟩
          have P4 : Hid (QS w w4 P) := ⟨F, hP⟩
          clear hP P3
          go_wp2
          have hm := HM.out
          exact ⟨⟨q + 1, by omega, by go_num, P4⟩, by simp [intOf]; omega⟩
        · have j1 : ¬ (q : Int) < 2 := by have := HM.out; omega
          go_wp2
          go_ret
          exact ⟨rfl, hr.out.below⟩

end Go.Proofs.Ytdlelbdhcpjdfab
