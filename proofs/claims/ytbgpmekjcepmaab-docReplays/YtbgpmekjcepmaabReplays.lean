/-
  DocReplays: the walk.
-/
import Derived.Test.YtbgpmekjcepmaabRRep
import Derived.Test.YtbgpmekjcepmaabShort
import Derived.Test.YtbgpmekjcepmaabEq
namespace Go.Proofs.Ytbgpmekjcepmaab
open Go.RowKit
set_option linter.unusedVariables false

theorem MineE.isE {w : World} {base : Nat} {v : Value} {xs : List El} (h : MineE w base v xs) : ∃ a c, v = .slice a xs.length c ∧ IsE w a xs.length c xs := by
  obtain ⟨β, h1, h2⟩ := h
  obtain ⟨a, c, e, hI, _⟩ := h1.form
  exact ⟨a, c, e, hI⟩

set_option maxRecDepth 100000 in
set_option maxHeartbeats 2000000 in
theorem docReplays_any (a : Option Addr) (n c : Nat) (os : List OpE) (w : World) (hE : IsO w a n c os) (hK : OkO os) :
    Calls Try.prog 4 #[.slice a n c] w fun e w' => e = .returned (.bool true) ∧ Below w.heap.size w w' := by
  have HE := hd hE
  have HK := hd hK
  clear hE hK
  go_enter Try.func4, Try.ntmps4
  go_wp2_with fail
  refine (short_any a n c os _ HE.out).mono ?_
  rintro e w1 ⟨m, rfl, hm, hI, rfl⟩
  have E1 := hd hI
  have K1 := hd (HK.out.take m)
  clear hm hI HE HK
  generalize os.take m = ps at *
  go_wp2_with fail
  refine (rreplay_any a m c ps _ E1.out K1.out).mono ?_
  rintro e w2 ⟨v, rfl, hM, b2⟩
  obtain ⟨a2, c2, rfl, hI2⟩ := hM.isE
  have I2 := hd hI2
  have E2 := hd (E1.out.below b2)
  have B2 := hd b2
  clear hM hI2 b2 E1
  go_wp2_with fail
  refine (replay_any a m c ps _ E2.out K1.out).mono ?_
  rintro e w3 ⟨v, rfl, hM, b3⟩
  obtain ⟨a3, c3, rfl, hI3⟩ := hM.isE
  have I3 := hd hI3
  have J3 := hd (I2.out.below b3)
  have B3 := hd (B2.out.trans (b3.mono B2.out.size))
  clear hM hI3 b3 E2 I2 B2
  generalize replayP ps [] 0 = R at *
  obtain ⟨T, N, F⟩ := R
  simp only [] at *
  go_wp2_with fail
  refine (same_any _ _ _ _ _ _ T T _ I3.out J3.out).mono ?_
  rintro e w4 ⟨rfl, m4, rfl⟩
  rw [decide_eq_true rfl]
  have B4 := hd (below_drewN B3.out m4)
  clear I3 J3 B3
  generalize w3.drewN m4 = w4 at *
  go_wp2
  go_ret
  exact ⟨rfl, B4.out⟩

end Go.Proofs.Ytbgpmekjcepmaab
