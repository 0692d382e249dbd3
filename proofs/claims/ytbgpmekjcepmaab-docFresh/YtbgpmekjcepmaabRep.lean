/-
  Replay.
-/
import Derived.Test.YtbgpmekjcepmaabOps
import Derived.OwnWalk
namespace Go.Proofs.Ytbgpmekjcepmaab
open Go.RowKit
set_option linter.unusedVariables false

/-- A text of the call's own, nil or a row from block base on. -/
def MineE (w : World) (base : Nat) (v : Value) (xs : List El) : Prop := ∃ β, SE w β v xs ∧ ∀ g, β = some g → base ≤ g

theorem MineE.below {w w' : World} {base : Nat} {v : Value} {xs : List El} (h : MineE w base v xs) (hb : Below w.heap.size w w') : MineE w' base v xs := by
  obtain ⟨β, h1, h2⟩ := h
  exact ⟨β, h1.below hb, h2⟩

/-- What holds in the loop of Replay. -/
def PRel (w wr : World) (os : List OpE) (k : Nat) (v : Value) : Prop :=
  ∃ xs, MineE wr w.heap.size v xs ∧ replayP os [] 0 = replayP (os.drop k) xs k ∧ Below w.heap.size w wr

set_option maxRecDepth 100000 in
set_option maxHeartbeats 4000000 in
theorem replay_any (a : Option Addr) (n c : Nat) (os : List OpE) (w : World) (hE : IsO w a n c os) (hK : OkO os) :
    Calls Try.prog 12 #[.slice a n c] w fun e w' => ∃ v, e = .returned (.tuple #[v, .int .i64 (replayP os [] 0).2.1, .int .i64 (replayP os [] 0).2.2]) ∧ MineE w' w.heap.size v (replayP os [] 0).1 ∧ Below w.heap.size w w' := by
  have HE := hd hE
  have HK := hd hK
  have HL := hd hE.1
  have hc : n ≤ 9223372036854775807 := by have := hE.2.1; have := hE.2.2.1; omega
  have S0 : Hid (PRel w w os 0 (.slice none 0 0)) := ⟨[], ⟨none, ⟨rfl, rfl⟩, fun g h => by cases h⟩, rfl, Below.refl _ _⟩
  clear hE hK
  go_enter Try.func12, Try.ntmps12
  go_wp2
  go_loopw [5, 11] (fun own i wr => ∃ k : Nat, k ≤ n ∧ i = .int .i64 k ∧ Hid (PRel w wr os k own)) (fun _ i _ => n - (intOf i).toNat)
  case atStart => exact ⟨0, Nat.zero_le _, rfl, S0⟩
  case round =>
    obtain ⟨k, hk, rfl, hr⟩ := hrel
    clear S0
    obtain ⟨xs, hM, hP, hB⟩ := hr.out
    obtain ⟨β, hS, hβ⟩ := hM
    obtain ⟨va, vc, rfl, -, -⟩ := hS.form
    by_cases hlt : k < n
    · have kx : k < os.length := by have := HL.out; omega
      have HE2 := HE.out.below hB
      obtain ⟨b, off, rfl, hb⟩ := HE2.addr (by omega)
      obtain ⟨e0, e1, e2, e3, e4⟩ := HE2.at k hlt kx
      have i1 : (k : Int) < (n : Int) := by omega
      have OK := hd (HK.out os[k] (List.getElem_mem kx))
      have PG : Hid (fitsP xs.length os[k] = 0 → replayP os [] 0 = replayP (os.drop (k + 1)) (applyP xs os[k]) (k + 1)) := fun h => hP.trans (replayP_good kx h)
      have PB : Hid (¬ fitsP xs.length os[k] = 0 → replayP os [] 0 = (xs, k, fitsP xs.length os[k])) := fun h => hP.trans (replayP_bad kx h)
      generalize os[k] = o at *
      obtain ⟨ok, op, oc, ol, oq⟩ := o
      simp only [] at e0 e1 e2 e3 e4 OK
      have HS := hd hS
      have Hβ := hd hβ
      have HB := hd hB
      clear hS hβ hB hP hr HE2 kx
      go_wp2_with fail
      refine (fits_any _ _ _ _ _ _ _ OK.out.1 OK.out.2).mono ?_
      rintro e w2 ⟨rfl, b2⟩
      have bb2 := out_below b2
      have S2 := hd (HS.out.below bb2)
      have B2 := hd (HB.out.trans (bb2.mono HB.out.size))
      have f0 := out_cell b2 0
      have f1 := out_cell b2 1
      have f2 := out_cell b2 2
      have f3 := out_cell b2 3
      have f4 := out_cell b2 4
      simp at f0 f1 f2 f3 f4
      clear b2 bb2 HS HB
      generalize wr.heap.size = r at *
      by_cases hf : fitsP xs.length ⟨ok, op, oc, ol, oq⟩ = 0
      · have HF := hd hf
        rw [hf]
        clear hf PB
        go_wp2_with fail
        refine (change_any β _ _ _ _ _ _ xs _ S2.out HF.out).mono ?_
        rintro e w3 ⟨v3, rfl, hN⟩
        have R3 : Hid (PRel w w3 os (k + 1) v3) := by
          obtain ⟨β', h1, h2, h3⟩ := hN
          refine ⟨_, ⟨β', h1, ?_⟩, PG.out HF.out, B2.out.trans (h3.below B2.out.size (fun g h => Hβ.out g h))⟩
          intro g hg
          rcases h2 with h2 | ⟨g', h2, h4⟩
          · exact Hβ.out g (h2 ▸ hg)
          · have : g' = g := Option.some.inj (h2.symm.trans hg)
            subst this
            exact Nat.le_trans B2.out.size h4
        clear hN S2 B2 PG
        go_wp2
        exact ⟨⟨k + 1, by omega, by go_num, R3⟩, by simp [intOf]; omega⟩
      · have R : Hid (replayP os [] 0 = (xs, k, fitsP xs.length ⟨ok, op, oc, ol, oq⟩)) := PB.out hf
        clear PG PB
        generalize fitsP xs.length ⟨ok, op, oc, ol, oq⟩ = e at *
        have hf' : (e != 0) = true := by simpa using hf
        clear hf
        go_wp2
        go_ret3
        refine ⟨.slice va xs.length vc, ?_, ?_, B2.out⟩
        · rw [R.out]; rfl
        · rw [R.out]; exact ⟨β, S2.out, Hβ.out⟩
    · obtain rfl : k = n := by omega
      have R : Hid (replayP os [] 0 = (xs, k, 0)) := hP.trans (replayP_end HL.out.symm)
      have HM : Hid (MineE wr w.heap.size (.slice va xs.length vc) xs) := ⟨β, hS, hβ⟩
      have HB := hd hB
      clear hr hP hS hβ hB
      go_wp2
      go_ret3
      refine ⟨.slice va xs.length vc, ?_, ?_, HB.out⟩
      · rw [R.out]; rfl
      · rw [R.out]; exact HM.out

end Go.Proofs.Ytbgpmekjcepmaab
