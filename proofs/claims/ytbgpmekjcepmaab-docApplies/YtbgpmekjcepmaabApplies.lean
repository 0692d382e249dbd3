/-
  DocApplies: the walk.
-/
import Derived.Test.YtbgpmekjcepmaabTwin
import Derived.Test.YtbgpmekjcepmaabShort
import Derived.Test.YtbgpmekjcepmaabEq
import Derived.Test.YtbgpmekjcepmaabApp
import Derived.Test.YtbgpmekjcepmaabVd
import Derived.Test.YtbgpmekjcepmaabCommon
namespace Go.Proofs.Ytbgpmekjcepmaab
open Go.RowKit
set_option linter.unusedVariables false

/-- What holds in the loop: both texts are T. -/
def BRel (w wr : World) (q p : Value) (T : List El) : Prop :=
  ∃ qa qc pa pc, q = .slice qa T.length qc ∧ p = .slice pa T.length pc ∧ IsE wr qa T.length qc T ∧ IsE wr pa T.length pc T ∧ Below w.heap.size w wr

set_option maxRecDepth 100000 in
set_option maxHeartbeats 8000000 in
theorem docApplies_any (a : Option Addr) (n c : Nat) (ao : Option Addr) (no co : Nat) (xs : List El) (os0 : List OpE) (w : World) (hE : IsE w a n c xs) (hk : OkE xs) (hn : n * 24 ≤ 140737488351232) (hO : IsO w ao no co os0) (hK : OkO os0) :
    Calls Try.prog 3 #[.slice a n c, .slice ao no co] w fun e w' => e = .returned (.bool true) ∧ Below w.heap.size w w' := by
  have HE := hd hE
  have HO := hd hO
  have HK := hd hK
  clear hE hO hK hk
  go_enter Try.func3, Try.ntmps3
  go_wp2_with fail
  refine (short_any ao no co os0 _ HO.out).mono ?_
  rintro e w1 ⟨m, rfl, hm, hI, rfl⟩
  have E1 := hd hI
  have K1 := hd (HK.out.take m)
  clear hI HO HK
  generalize os0.take m = os at *
  go_wp2_with fail
  refine (twin_any a n c xs _ HE.out hn).mono ?_
  rintro e w2 ⟨v, rfl, hW, b2⟩
  obtain ⟨g2, c2, -, rfl, hR2⟩ := hW.form
  have S2 : Hid (BRel w w2 (.slice (some ⟨g2, 0, none⟩) xs.length c2) (.slice a n c) xs) := ⟨_, _, _, _, rfl, by rw [HE.out.1], hR2.isE, by rw [HE.out.1]; exact HE.out.below b2, b2⟩
  clear hW b2 hR2
  go_wp2
  go_loopw [5, 6, 7] (fun q p i wr => ∃ k : Nat, k ≤ m ∧ i = .int .i64 k ∧ Hid (∃ T, BRel w wr q p T)) (fun _ _ i _ => m - (intOf i).toNat)
  case atStart => exact ⟨0, Nat.zero_le _, rfl, ⟨_, S2.out⟩⟩
  case round =>
    obtain ⟨k, hk, rfl, hr⟩ := hrel
    clear S2
    obtain ⟨T, qa, qc, pa, pc, rfl, rfl, hQ, hP, hB⟩ := hr.out
    have HQ := hd hQ
    have HP := hd hP
    have HB := hd hB
    clear hr hQ hP
    by_cases hlt : k < m
    · have OL := hd E1.out.1
      have kx : k < os.length := by have := OL.out; omega
      have HE2 := E1.out.below hB
      obtain ⟨b, off, rfl, hb⟩ := HE2.addr (by omega)
      obtain ⟨e0, e1, e2, e3, e4⟩ := HE2.at k hlt kx
      have i1 : (k : Int) < (m : Int) := by omega
      have OK := hd (K1.out os[k] (List.getElem_mem kx))
      generalize os[k] = o at *
      obtain ⟨ok, op, oc, ol, oq⟩ := o
      simp only [] at e0 e1 e2 e3 e4 OK
      clear HE2 kx hB
      by_cases hf : fitsP T.length ⟨ok, op, oc, ol, oq⟩ = 0
      · have HF := hd hf
        clear hf
        go_wp2_with fail
        refine (rapply_good _ _ _ _ _ _ _ _ T _ _ _ HQ.out HF.out rfl rfl).mono ?_
        rintro e w3 ⟨v3, rfl, hO, b3⟩
        obtain ⟨g3, c3, -, rfl, hR3⟩ := hO.form
        have Q3 := hd hR3.isE
        have P3 := hd (HP.out.below b3)
        have B3 := hd (HB.out.trans (b3.mono HB.out.size))
        have f0 := (b3.cell (p := ⟨b, off + k * 5, none⟩) hb).trans e0
        have f1 := (b3.cell (p := ⟨b, off + k * 5 + 1, none⟩) hb).trans e1
        have f2 := (b3.cell (p := ⟨b, off + k * 5 + 2, none⟩) hb).trans e2
        have f3 := (b3.cell (p := ⟨b, off + k * 5 + 3, none⟩) hb).trans e3
        have f4 := (b3.cell (p := ⟨b, off + k * 5 + 4, none⟩) hb).trans e4
        clear hO hR3 b3 e0 e1 e2 e3 e4 HQ HP HB
        go_wp2_with fail
        refine (apply_good _ _ _ _ _ _ _ _ T _ P3.out OK.out.1 OK.out.2 HF.out).mono ?_
        rintro e w4 ⟨v4, rfl, hO, b4⟩
        obtain ⟨g4, c4, -, rfl, hR4⟩ := hO.form
        have P4 := hd hR4.isE
        have Q4 := hd (Q3.out.below b4)
        have B4 := hd (B3.out.trans (b4.mono B3.out.size))
        clear hO hR4 b4 f0 f1 f2 f3 f4 Q3 P3 B3
        generalize applyP T ⟨ok, op, oc, ol, oq⟩ = T4 at *
        go_wp2_with fail
        refine (same_any _ _ _ _ _ _ T4 T4 _ P4.out Q4.out).mono ?_
        rintro e w5 ⟨rfl, m5, rfl⟩
        rw [decide_eq_true rfl]
        have R5 : Hid (∃ T, BRel w (w4.drewN m5) (.slice (some ⟨g3, 0, none⟩) T4.length c3) (.slice (some ⟨g4, 0, none⟩) T4.length c4) T) := ⟨T4, _, _, _, _, rfl, rfl, Q4.out.drewN m5, P4.out.drewN m5, below_drewN B4.out m5⟩
        clear P4 Q4 B4
        generalize w4.drewN m5 = w5 at *
        go_wp2
        exact ⟨⟨k + 1, by omega, by go_num, R5⟩, by simp [intOf]; omega⟩
      · obtain ⟨e, he⟩ : ∃ e, e = fitsP T.length ⟨ok, op, oc, ol, oq⟩ := ⟨_, rfl⟩
        rw [← he] at hf
        have HF : Hid (fitsP T.length ⟨ok, op, oc, ol, oq⟩ = e) := he.symm
        have hf' : (e == 0) = false := by simpa using hf
        have hF := hd hf
        clear hf he
        go_wp2_with fail
        refine (rapply_bad _ _ _ _ _ _ _ _ e _ HF.out hF.out).mono ?_
        rintro x w3 ⟨rfl, b3⟩
        have Q3 := hd (HQ.out.below b3)
        have P3 := hd (HP.out.below b3)
        have B3 := hd (HB.out.trans (b3.mono HB.out.size))
        have f0 := (b3.cell (p := ⟨b, off + k * 5, none⟩) hb).trans e0
        have f1 := (b3.cell (p := ⟨b, off + k * 5 + 1, none⟩) hb).trans e1
        have f2 := (b3.cell (p := ⟨b, off + k * 5 + 2, none⟩) hb).trans e2
        have f3 := (b3.cell (p := ⟨b, off + k * 5 + 3, none⟩) hb).trans e3
        have f4 := (b3.cell (p := ⟨b, off + k * 5 + 4, none⟩) hb).trans e4
        clear b3 e0 e1 e2 e3 e4 HQ HP HB
        go_wp2_with fail
        refine (apply_bad _ _ _ _ _ _ _ _ e _ OK.out.1 OK.out.2 HF.out hF.out).mono ?_
        rintro x w4 ⟨rfl, b4⟩
        have Q4 := hd (Q3.out.below b4)
        have P4 := hd (P3.out.below b4)
        have B4 := hd (B3.out.trans (b4.mono B3.out.size))
        clear b4 f0 f1 f2 f3 f4 Q3 P3 B3
        go_wp2_with fail
        refine (same_any _ _ _ _ _ _ [] [] _ (isE_nil _) (isE_nil _)).mono ?_
        rintro e w5 ⟨rfl, m5, rfl⟩
        rw [decide_eq_true rfl]
        have R5 : Hid (∃ T', BRel w (w4.drewN m5) (.slice qa T.length qc) (.slice pa T.length pc) T') := ⟨T, _, _, _, _, rfl, rfl, Q4.out.drewN m5, P4.out.drewN m5, below_drewN B4.out m5⟩
        clear P4 Q4 B4
        generalize w4.drewN m5 = w5 at *
        go_wp2
        exact ⟨⟨k + 1, by omega, by go_num, R5⟩, by simp [intOf]; omega⟩
    · obtain rfl : k = m := by omega
      clear hB
      by_cases hl : T.length ≤ 4096
      · have HF : Hid (fitsP T.length ⟨0, 0, 0, 1, 1⟩ = 0) := fits_nop (by omega) (by omega) (by omega) (by omega) hl
        go_wp2_with fail
        refine (apply_good _ _ _ _ _ _ _ _ T _ HP.out (by omega) (by omega) HF.out).mono ?_
        rintro e w4 ⟨v4, rfl, hO, b4⟩
        rw [show applyP T ⟨0, 0, 0, 1, 1⟩ = T from by simp [applyP]] at hO
        obtain ⟨g4, c4, -, rfl, hR4⟩ := hO.form
        have P4 := hd hR4.isE
        have Q4 := hd (HQ.out.below b4)
        have B4 := hd (HB.out.trans (b4.mono HB.out.size))
        clear hO hR4 b4 HQ HP HB
        go_wp2_with fail
        refine (rapply_good _ _ _ _ _ _ _ _ T _ _ _ Q4.out HF.out rfl rfl).mono ?_
        rintro e w5 ⟨v5, rfl, hO, b5⟩
        obtain ⟨g5, c5, -, rfl, -⟩ := hO.form
        have P5 := hd (P4.out.below b5)
        have Q5 := hd (Q4.out.below b5)
        have B5 := hd (B4.out.trans (b5.mono B4.out.size))
        clear hO b5 Q4 P4 B4
        go_wp2_with fail
        refine (same_any _ _ _ _ _ _ T T _ P5.out Q5.out).mono ?_
        rintro e w6 ⟨rfl, m6, rfl⟩
        rw [decide_eq_true rfl]
        have B6 := hd (below_drewN B5.out m6)
        clear P5 Q5 B5
        generalize w5.drewN m6 = w6 at *
        go_wp2
        go_ret
        exact ⟨rfl, B6.out⟩
      · have HF : Hid (fitsP T.length ⟨0, 0, 0, 1, 1⟩ = 44) := by
          rw [fitsP_eq _ _ _ _ _ _ (valid_nop (by omega) (by omega) (by omega) (by omega)), if_pos (by omega)]
          exact (rfl : _ = _)
        go_wp2_with fail
        refine (apply_bad _ _ _ _ _ _ _ _ 44 _ (by omega) (by omega) HF.out (by omega)).mono ?_
        rintro x w4 ⟨rfl, b4⟩
        have B4 := hd (HB.out.trans (b4.mono HB.out.size))
        clear b4 HB HQ HP
        go_wp2_with fail
        refine (rapply_bad _ _ _ _ _ _ _ _ 44 _ HF.out (by omega)).mono ?_
        rintro x w5 ⟨rfl, b5⟩
        have B5 := hd (B4.out.trans (b5.mono B4.out.size))
        clear b5 B4
        go_wp2
        go_ret
        exact ⟨rfl, B5.out⟩

end Go.Proofs.Ytbgpmekjcepmaab
