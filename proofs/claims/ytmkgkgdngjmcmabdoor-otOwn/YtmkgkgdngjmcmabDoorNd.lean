/-
  Weave.
-/
import Derived.Test.YtmkgkgdngjmcmabDoorNc
namespace Go.Proofs.YtmkgkgdngjmcmabDoor
open Go.RowKit
set_option linter.unusedVariables false

set_option maxHeartbeats 4000000 in
theorem weave_bad (a b : Option Addr) (n c m d : Nat) (w : World) (hn : 4096 < n ∨ 4096 < m) :
    Calls Tryd.prog 10 #[.slice a n c, .slice b m d] w fun e w' => e = .returned (.tuple #[.slice none 0 0, .slice none 0 0, .int .i64 50]) ∧ w = w' := by
  by_cases h : 4096 < n
  · have i1 : (n : Int) > 4096 := by omega
    go_enter Tryd.func10, Tryd.ntmps10
    go_wp2
    refine bodyPost_ret (v := .tuple #[.slice none 0 0, .slice none 0 0, .int .i64 50]) (by simp [results, Tryd.results10, go_sem]) rfl ?_
    exact ⟨rfl, rfl⟩
  · have i1 : decide ((n : Int) > 4096) = false := by simp; omega
    have i2 : (m : Int) > 4096 := by omega
    go_enter Tryd.func10, Tryd.ntmps10
    go_wp2
    refine bodyPost_ret (v := .tuple #[.slice none 0 0, .slice none 0 0, .int .i64 50]) (by simp [results, Tryd.results10, go_sem]) rfl ?_
    exact ⟨rfl, rfl⟩

/-- The two lines at their blocks, j of bs carried. -/
def WRel (w wr : World) (g h n m cg ch : Nat) (xs ys : List OpE) (j : Nat) : Prop :=
  RowO wr g n cg (weaveP xs (ys.take j)).1 ∧ RowO wr h m ch ((weaveP xs (ys.take j)).2 ++ ys.drop j) ∧ Below w.heap.size w wr

set_option maxHeartbeats 4000000 in
theorem weave_any (a b : Option Addr) (n c m d : Nat) (xs ys : List OpE) (w : World) (hT : Table w) (hE : IsO w a n c xs) (hF : IsO w b m d ys) (hn : n ≤ 4096) (hm : m ≤ 4096) :
    Calls Tryd.prog 10 #[.slice a n c, .slice b m d] w fun e w' => ∃ g h cg ch, e = .returned (.tuple #[.slice (some ⟨g, 0, none⟩) n cg, .slice (some ⟨h, 0, none⟩) m ch, .int .i64 0]) ∧
      w.heap.size ≤ g ∧ g < h ∧ RowO w' g n cg (weaveP xs ys).1 ∧ RowO w' h m ch (weaveP xs ys).2 ∧ Below w.heap.size w w' := by
  have i1 : decide ((n : Int) > 4096) = false := by simp; omega
  have i2 : decide ((m : Int) > 4096) = false := by simp; omega
  have i3 : ¬ (n : Int) > 4096 := by omega
  have i4 : ¬ (m : Int) > 4096 := by omega
  have HE := hd hE
  have HF := hd hF
  have HT := hd hT
  clear hT hE hF
  go_enter Tryd.func10, Tryd.ntmps10
  go_wp2_with fail
  refine (copied_any a n c xs _ HE.out (by omega)).mono ?_
  rintro e w1 ⟨v, rfl, hO, b1⟩
  obtain ⟨g, cg, hg, rfl, hR⟩ := hO
  rw [HE.out.1] at hR ⊢
  have gl := hR.lt
  have HR := hd hR
  have B1 := hd b1
  clear hR b1
  go_wp2_with fail
  refine (copied_any b m d ys _ (HF.out.below B1.out) (by omega)).mono ?_
  rintro e w2 ⟨v, rfl, hO, b2⟩
  obtain ⟨h, ch, hh, rfl, hR2⟩ := hO
  rw [HF.out.1] at hR2 ⊢
  have gh : g < h := by omega
  have hmc := hR2.isO.2.1
  have hm63 := hR2.isO.2.2.1
  have S0 : Hid (WRel w w2 g h n m cg ch xs ys 0) := ⟨by simpa [weaveP] using HR.out.fr (S := fun _ => False) (Fr.of_below b2) (fun h => h), by simpa [weaveP] using hR2, B1.out.trans (b2.mono B1.out.size)⟩
  have LY := hd HF.out.1
  have LX := hd HE.out.1
  have g0 : 0 < g := by have := HT.out.1; omega
  clear hR2 b2 HR B1 HF HE gl
  go_wp2
  go_loopw [25] (fun i wr => ∃ j : Nat, j ≤ m ∧ i = .int .i64 j ∧ Hid (WRel w wr g h n m cg ch xs ys j)) (fun i _ => m - (intOf i).toNat)
  case atStart => exact ⟨0, Nat.zero_le _, rfl, S0⟩
  case round =>
    obtain ⟨j, hj, rfl, hr⟩ := hrel
    clear S0
    obtain ⟨hG, hH, hB⟩ := hr.out
    by_cases hlt : j < m
    · have jy : j < ys.length := by have := LY.out; omega
      have hl : (weaveP xs (ys.take j)).2.length = j := by rw [(weaveP_len _ _).2]; simp; omega
      have e5 : ((weaveP xs (ys.take j)).2 ++ ys.drop j)[j]? = some ys[j] := by
        rw [List.getElem?_append_right (by omega), hl, Nat.sub_self, List.getElem?_drop]
        simp
      have jl : j < ((weaveP xs (ys.take j)).2 ++ ys.drop j).length := by rw [hH.isO.1]; exact hlt
      have e6 : ((weaveP xs (ys.take j)).2 ++ ys.drop j)[j] = ys[j] := by
        have := List.getElem?_eq_getElem jl
        rw [e5] at this
        exact (Option.some.inj this).symm
      obtain ⟨y0, y1, y2, y3, y4⟩ := hH.at j hlt jl
      rw [e6] at y0 y1 y2 y3 y4
      have NX : Hid (∀ z, z = (throughP ys[j] (weaveP xs (ys.take j)).1 true).1 → ((weaveP xs (ys.take j)).2 ++ ys.drop j).set j z = (weaveP xs (ys.take (j + 1))).2 ++ ys.drop (j + 1)) := by
        rintro z rfl
        rw [List.take_succ_eq_append_getElem jy, weaveP_snoc, List.set_append_right _ _ (by omega), hl, Nat.sub_self]
        have e : ys.drop j = ys[j] :: ys.drop (j + 1) := List.drop_eq_getElem_cons jy
        rw [e, List.set_cons_zero, List.append_assoc]
        rfl
      have NY : Hid ((throughP ys[j] (weaveP xs (ys.take j)).1 true).2 = (weaveP xs (ys.take (j + 1))).1) := by
        have : (weaveP xs (ys.take (j + 1))).1 = (throughP ys[j] (weaveP xs (ys.take j)).1 true).2 := by
          rw [List.take_succ_eq_append_getElem jy, weaveP_snoc]
        exact this.symm
      have i5 : (j : Int) < (m : Int) := by omega
      have gl := hG.lt
      have hhl := hH.lt
      have G0 := hd hG
      have H0 := hd hH
      have B0 := hd hB
      clear hr hG hH hB e5 e6 hl jl
      generalize ys[j] = y at *
      obtain ⟨uk, up, uc, uq, us⟩ := y
      obtain ⟨⟨rk, rp, rc, rq, rs⟩, h1⟩ : ∃ R, (throughP ⟨uk, up, uc, uq, us⟩ (weaveP xs (ys.take j)).1 true).1 = R := ⟨_, rfl⟩
      have H1 := hd h1
      have N1 := hd (NX.out _ h1.symm)
      clear h1 NX
      simp only [] at y0 y1 y2 y3 y4
      go_wp2_with fail
      have bA : Below wr.heap.size wr (wr.alloc (.cells #[.int .i64 uk, .int .i64 up, .int .u8 uc, .int .i64 uq, .int .i64 us] 23)) := (Below.refl wr.heap.size wr).alloc (Nat.le_refl _) _
      refine (carry_any ⟨uk, up, uc, uq, us⟩ g n cg (weaveP xs (ys.take j)).1 true _ (HT.out.below (B0.out.trans (bA.mono B0.out.size)) HT.out.1) g0 (G0.out.fr (S := fun _ => False) (Fr.of_below bA) (fun h => h))).mono ?_
      rintro e w3 ⟨rfl, hG3, hF3⟩
      rw [H1.out]
      rw [NY.out] at hG3
      simp only [OpE.val]
      have hH3 := (H0.out.fr (S := fun _ => False) (Fr.of_below bA) (fun h => h)).fr hF3 (by omega)
      have jl : j < ((weaveP xs (ys.take j)).2 ++ ys.drop j).length := by rw [hH3.isO.1]; exact hlt
      obtain ⟨q0, q1, q2, q3, q4⟩ := hH3.at j hlt jl
      have qf0 := hH3.frozen (j * 5)
      have qf1 := hH3.frozen (j * 5 + 1)
      have qf2 := hH3.frozen (j * 5 + 2)
      have qf3 := hH3.frozen (j * 5 + 3)
      have qf4 := hH3.frozen (j * 5 + 4)
      have hB3 : Below w.heap.size w w3 := (B0.out.trans (bA.mono B0.out.size)).trans (hF3.below (Nat.le_trans B0.out.size bA.size) (fun k h => by omega))
      have G : Hid (WRel w (set5 w3 h (j * 5) rk rp rc rq rs) g h n m cg ch xs ys (j + 1)) := by
        have FO := Fr.set5 w3 h (j * 5) rk rp rc rq rs
        refine ⟨hG3.fr FO (by omega), ?_, hB3.trans (FO.below hB3.size (fun k h => by omega))⟩
        rw [← N1.out]
        exact hH3.set5 j rk rp rc rq rs hlt
      generalize ((weaveP xs (ys.take j)).2 ++ ys.drop j)[j] = Yj at *
      clear hG3 hF3 hH3 hB3 bA jl y0 y1 y2 y3 y4 G0 H0 B0
      go_wp2
      exact ⟨⟨j + 1, by omega, by go_num, G⟩, by simp [intOf]; omega⟩
    · obtain rfl : j = m := by omega
      have R : Hid (RowO wr g n cg (weaveP xs ys).1 ∧ RowO wr h j ch (weaveP xs ys).2 ∧ Below w.heap.size w wr) := by
        have := LY.out
        rw [List.take_of_length_le (by omega)] at hG hH
        rw [List.drop_of_length_le (by omega), List.append_nil] at hH
        exact ⟨hG, hH, hB⟩
      clear hr hG hH hB
      go_wp2
      refine bodyPost_ret (v := .tuple #[.slice (some ⟨g, 0, none⟩) n cg, .slice (some ⟨h, 0, none⟩) j ch, .int .i64 0]) (by simp [results, Tryd.results10, go_sem]) rfl ?_
      exact ⟨g, h, cg, ch, rfl, hg, gh, R.out⟩

end Go.Proofs.YtmkgkgdngjmcmabDoor
