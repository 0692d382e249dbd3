/-
  Replay of the document; short.
-/
import Derived.Test.YtbgpmekjcepmaabRApp
import Derived.Test.YtbgpmekjcepmaabRep
namespace Go.Proofs.Ytbgpmekjcepmaab
open Go.RowKit
set_option linter.unusedVariables false

theorem OwnE.mine {w : World} {base base' : Nat} {v : Value} {xs : List El} (h : OwnE w base v xs) (hb : base' ≤ base) : MineE w base' v xs := by
  obtain ⟨g, h1, h2⟩ := h
  exact ⟨some g, h2, fun g' e => by obtain rfl := Option.some.inj e; omega⟩

set_option maxRecDepth 100000 in
set_option maxHeartbeats 4000000 in
theorem rreplay_any (a : Option Addr) (n c : Nat) (os : List OpE) (w : World) (hE : IsO w a n c os) (hK : OkO os) :
    Calls Try.prog 11 #[.slice a n c] w fun e w' => ∃ v, e = .returned (.tuple #[v, .int .i64 (replayP os [] 0).2.1, .int .i64 (replayP os [] 0).2.2]) ∧ MineE w' w.heap.size v (replayP os [] 0).1 ∧ Below w.heap.size w w' := by
  have HE := hd hE
  have HK := hd hK
  have HL := hd hE.1
  have hc : n ≤ 9223372036854775807 := by have := hE.2.1; have := hE.2.2.1; omega
  have S0 : Hid (PRel w w os 0 (.slice none 0 0)) := ⟨[], ⟨none, ⟨rfl, rfl⟩, fun g h => by cases h⟩, rfl, Below.refl _ _⟩
  clear hE hK
  go_enter Try.func11, Try.ntmps11
  go_wp2
  go_loopw [5, 6] (fun own i wr => ∃ k : Nat, k ≤ n ∧ i = .int .i64 k ∧ Hid (PRel w wr os k own)) (fun _ i _ => n - (intOf i).toNat)
  case atStart => exact ⟨0, Nat.zero_le _, rfl, S0⟩
  case round =>
    obtain ⟨k, hk, rfl, hr⟩ := hrel
    clear S0
    obtain ⟨xs, hM, hP, hB⟩ := hr.out
    obtain ⟨β, hS, hβ⟩ := hM
    obtain ⟨va, vc, rfl, hI, -⟩ := hS.form
    by_cases hlt : k < n
    · have kx : k < os.length := by have := HL.out; omega
      have HE2 := HE.out.below hB
      obtain ⟨b, off, rfl, hb⟩ := HE2.addr (by omega)
      obtain ⟨e0, e1, e2, e3, e4⟩ := HE2.at k hlt kx
      have i1 : (k : Int) < (n : Int) := by omega
      have OK := hd (HK.out os[k] (List.getElem_mem kx))
      have PG : Hid (fitsP xs.length os[k] = 0 → replayP os [] 0 = replayP (os.drop (k + 1)) (applyP xs os[k]) (k + 1)) := fun h => hP.trans (replayP_good kx h)
      have PB : Hid (¬ fitsP xs.length os[k] = 0 → replayP os [] 0 = (xs, k, fitsP xs.length os[k])) := fun h => hP.trans (replayP_bad kx h)
      generalize os[k] = o at *
      obtain ⟨ok, op, oc, ol, oq⟩ := o
      simp only [] at e0 e1 e2 e3 e4 OK
      have HM : Hid (MineE wr w.heap.size (.slice va xs.length vc) xs) := ⟨β, hS, hβ⟩
      have HB := hd hB
      have HI := hd hI
      clear hS hβ hB hP hr HE2 kx hI
      by_cases hf : fitsP xs.length ⟨ok, op, oc, ol, oq⟩ = 0
      · have HF := hd hf
        clear hf PB
        go_wp2_with fail
        refine (rapply_good _ _ _ _ _ _ _ _ xs _ _ _ HI.out HF.out rfl rfl).mono ?_
        rintro e w3 ⟨v3, rfl, hO, b3⟩
        have R3 : Hid (PRel w w3 os (k + 1) v3) := ⟨_, hO.mine HB.out.size, PG.out HF.out, HB.out.trans (b3.mono HB.out.size)⟩
        clear hO b3 PG HM HB HI
        go_wp2
        exact ⟨⟨k + 1, by omega, by go_num, R3⟩, by simp [intOf]; omega⟩
      · have R : Hid (replayP os [] 0 = (xs, k, fitsP xs.length ⟨ok, op, oc, ol, oq⟩)) := PB.out hf
        clear PG PB
        obtain ⟨e, he⟩ : ∃ e, e = fitsP xs.length ⟨ok, op, oc, ol, oq⟩ := ⟨_, rfl⟩
        rw [← he] at R hf
        have HF : Hid (fitsP xs.length ⟨ok, op, oc, ol, oq⟩ = e) := he.symm
        have hf' : (e != 0) = true := by simpa using hf
        have HN := hd hf
        clear hf he
        go_wp2_with fail
        refine (rapply_bad _ _ _ _ _ _ _ _ e _ HF.out HN.out).mono ?_
        rintro x w3 ⟨rfl, b3⟩
        have M3 := hd (HM.out.below b3)
        have B3 := hd (HB.out.trans (b3.mono HB.out.size))
        clear b3 HM HB
        go_wp2
        go_ret3
        refine ⟨.slice va xs.length vc, ?_, ?_, B3.out⟩
        · rw [R.out]; rfl
        · rw [R.out]; exact M3.out
    · obtain rfl : k = n := by omega
      have R : Hid (replayP os [] 0 = (xs, k, 0)) := hP.trans (replayP_end HL.out.symm)
      have HM : Hid (MineE wr w.heap.size (.slice va xs.length vc) xs) := ⟨β, hS, hβ⟩
      have HB := hd hB
      clear hr hP hS hβ hB hI
      go_wp2
      go_ret3
      refine ⟨.slice va xs.length vc, ?_, ?_, HB.out⟩
      · rw [R.out]; rfl
      · rw [R.out]; exact HM.out

end Go.Proofs.Ytbgpmekjcepmaab
