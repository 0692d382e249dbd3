/-
  OtWeaves.
-/
import Derived.Test.YtmkgkgdngjmcmabDoorNf
import Derived.Test.YtmkgkgdngjmcmabDoorNd
namespace Go.Proofs.YtmkgkgdngjmcmabDoor
open Go.RowKit
set_option linter.unusedVariables false

theorem IsO.none (w : World) : IsO w none 0 0 [] := ⟨rfl, Nat.le_refl _, by omega, fun h => by omega⟩

set_option maxRecDepth 100000 in
set_option maxHeartbeats 8000000 in
theorem weaves_of (a b : Option Addr) (n c m d : Nat) (xs ys : List OpE) (w : World) (hT : Table w) (hE : IsO w a n c xs) (hF : IsO w b m d ys) (hn : n * 40 ≤ 281474976710656) (hm : m * 40 ≤ 281474976710656)
    (A B : List OpE) (k l : Nat) (E : Int) (hk : A.length = k) (hl : B.length = l)
    (hP : ∀ (a' b' : Option Addr) (c' d' : Nat) (W : World), Table W → IsO W a' n c' xs → IsO W b' m d' ys → Calls Tryd.prog 10 #[.slice a' n c', .slice b' m d'] W fun e w' => ∃ a' b' c' d', e = .returned (.tuple #[.slice a' k c', .slice b' l d', .int .i64 E]) ∧ IsO w' a' k c' A ∧ IsO w' b' l d' B ∧ Below W.heap.size W w')
    (hQ : ∀ (W : World), IsO W a n c xs → IsO W b m d ys → Calls Tryd.prog 15 #[.slice a n c, .slice b m d] W fun e w' => ∃ a' b' c' d', e = .returned (.tuple #[.slice a' k c', .slice b' l d', .int .i64 E]) ∧ IsO w' a' k c' A ∧ IsO w' b' l d' B ∧ Below W.heap.size W w') :
    Calls Tryd.prog 5 #[.slice a n c, .slice b m d] w fun e w' => e = .returned (.bool true) ∧ Below w.heap.size w w' := by
  have HT := hd hT
  have HE := hd hE
  have HF := hd hF
  have HP := hd hP
  have HQ := hd hQ
  clear hT hE hF hP hQ hk hl
  go_enter Tryd.func5, Tryd.ntmps5
  go_wp2_with fail
  refine (lcopied_any a n c xs _ HE.out hn).mono ?_
  rintro e w1 ⟨v, rfl, ⟨g, cg, hg, rfl, hR⟩, b1⟩
  rw [HE.out.1] at hR ⊢
  have R1 := hd hR.isO
  have B1 := hd b1
  clear hR b1 hg
  go_wp2_with fail
  refine (lcopied_any b m d ys _ (HF.out.below B1.out) hm).mono ?_
  rintro e w2 ⟨v, rfl, ⟨h, ch, hh, rfl, hR⟩, b2⟩
  rw [HF.out.1] at hR ⊢
  have R2 := hd hR.isO
  have R12 := hd (R1.out.below b2)
  have B2 := hd (B1.out.trans (b2.mono B1.out.size))
  clear hR b2 hh R1 B1
  go_wp2_with fail
  refine (HP.out _ _ _ _ _ (HT.out.below B2.out HT.out.1) R12.out R2.out).mono ?_
  rintro e w3 ⟨a3, b3, c3, d3, rfl, hA, hB, bb⟩
  have A3 := hd hA
  have B3 := hd hB
  have L3 := hd (B2.out.trans (bb.mono B2.out.size))
  clear hA hB bb R12 R2 B2
  go_wp2_with fail
  refine (HQ.out _ (HE.out.below L3.out) (HF.out.below L3.out)).mono ?_
  rintro e w4 ⟨a4, b4, c4, d4, rfl, hA, hB, bb⟩
  have A4 := hd hA
  have B4 := hd hB
  have A34 := hd (A3.out.below bb)
  have B34 := hd (B3.out.below bb)
  have L4 := hd (L3.out.trans (bb.mono L3.out.size))
  clear hA hB bb A3 B3 L3
  go_wp2_with fail
  refine (same_true _ _ _ _ _ _ _ _ _ A34.out A4.out rfl).mono ?_
  rintro e w5 ⟨rfl, m5, rfl⟩
  have B5 := hd (B34.out.drewN m5)
  have B6 := hd (B4.out.drewN m5)
  have L5 := hd (below_drewN L4.out m5)
  clear A34 A4 B34 B4 L4
  generalize w4.drewN m5 = w5 at *
  go_wp2_with fail
  refine (same_true _ _ _ _ _ _ _ _ _ B5.out B6.out rfl).mono ?_
  rintro e w6 ⟨rfl, m6, rfl⟩
  have L6 := hd (below_drewN L5.out m6)
  clear B5 B6 L5
  generalize w5.drewN m6 = w6 at *
  go_wp2_with fail
  refine (num_any _ _).mono ?_
  rintro e w7 ⟨rfl, rfl⟩
  go_wp2
  go_ret
  exact ⟨rfl, L6.out⟩

theorem otWeaves_any (a b : Option Addr) (n c m d : Nat) (xs ys : List OpE) (w : World) (hT : Table w) (hE : IsO w a n c xs) (hK : OkO xs) (hn : n * 40 ≤ 140737488351232) (hF : IsO w b m d ys) (hK2 : OkO ys) (hm : m * 40 ≤ 140737488351232) :
    Calls Tryd.prog 5 #[.slice a n c, .slice b m d] w fun e w' => e = .returned (.bool true) ∧ Below w.heap.size w w' := by
  by_cases h : n ≤ 4096 ∧ m ≤ 4096
  · refine weaves_of a b n c m d xs ys w hT hE hF (by omega) (by omega) (weaveP xs ys).1 (weaveP xs ys).2 n m 0 (by rw [(weaveP_len _ _).1]; exact hE.1) (by rw [(weaveP_len _ _).2]; exact hF.1) ?_ ?_
    · intro a' b' c' d' W hTW hI hJ
      refine (weave_any a' b' n c' m d' xs ys W hTW hI hJ h.1 h.2).mono ?_
      rintro e w' ⟨g, h, cg, ch, he, hg, hgh, hR, hS, hB⟩
      exact ⟨_, _, _, _, he, hR.isO, hS.isO, hB⟩
    · intro W hI hJ
      refine (rweave_any a b n c m d xs ys W hI hJ h.1 h.2).mono ?_
      rintro e w' ⟨v, u, he, h1, h2⟩
      obtain ⟨a1, c1, rfl, hI1, hB1⟩ := h1.form (n := n) (by rw [(weaveP_len _ _).1]; exact hE.1)
      obtain ⟨a2, c2, rfl, hI2, -⟩ := h2.form (n := m) (by rw [(weaveP_len _ _).2]; exact hF.1)
      exact ⟨_, _, _, _, he, hI1, hI2, hB1⟩
  · have h' : 4096 < n ∨ 4096 < m := by omega
    refine weaves_of a b n c m d xs ys w hT hE hF (by omega) (by omega) [] [] 0 0 50 rfl rfl ?_ ?_
    · intro a' b' c' d' W hTW hI hJ
      refine (weave_bad a' b' n c' m d' W h').mono ?_
      rintro e w' ⟨he, rfl⟩
      exact ⟨none, none, 0, 0, he, IsO.none _, IsO.none _, Below.refl _ _⟩
    · intro W hI hJ
      refine (rweave_bad a b n c m d W h').mono ?_
      rintro e w' ⟨he, rfl⟩
      exact ⟨none, none, 0, 0, he, IsO.none _, IsO.none _, Below.refl _ _⟩

end Go.Proofs.YtmkgkgdngjmcmabDoor
