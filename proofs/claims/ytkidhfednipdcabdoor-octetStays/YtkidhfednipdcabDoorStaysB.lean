/-
  OctetStays: the walk, where the number is not taken.
-/
import Derived.Test.YtkidhfednipdcabDoorStays
namespace Go.Proofs.YtkidhfednipdcabDoor
open Go.RowKit

set_option maxRecDepth 100000 in
set_option maxHeartbeats 2000000 in
theorem staysA (a : Option Addr) (n c : Nat) (xs : List Int) (t : Int) (al : Option Addr) (nl cl : Nat) (w : World) (h : IsB w a n c xs) (hl : IsOps w al nl cl) (hg : Handle w) (ht : t < 0) :
    Calls Tryd.prog 3 #[.slice a n c, .int .i64 t, .slice al nl cl] w fun e w' => e = .returned (.bool true) ∧ Below w.heap.size w w' := by
  obtain ⟨l1, l2, l3⟩ := hl
  have L3 := hd l3
  have HG := hd hg
  have HH := hd h
  have HC := hd (h.take (min n 600) (by omega))
  have hlen : (xs.take (min n 600)).length = min n 600 := HC.out.1
  have hN : min n 600 ≤ 600 := by omega
  clear h l3 hg
  go_enter Tryd.func3, Tryd.ntmps3
  go_wp2_with fail
  refine (cut_any a n c xs _ HH.out).mono ?_
  rintro e w1 ⟨rfl, rfl⟩
  generalize xs.take (min n 600) = ys at HC hlen
  generalize min n 600 = N at *
  go_wp2_with fail
  refine (newReader_any a N c ys _ HC.out (by omega)).mono ?_
  rintro e w1 ⟨r, rfl, hrw, hrd, hbel⟩
  have R1 := hd hrd
  have B1 := hd hbel
  have HR := hd hrw
  clear hrd hbel hrw
  go_wp2_with fail
  refine (left_len r ys 0 N false _ R1.out hlen).mono ?_
  rintro e w2 ⟨rfl, m, rfl⟩
  have R2 := hd (R1.out.drewN m)
  have B2 := hd (below_drewN B1.out m)
  clear R1 B1
  generalize w1.drewN m = w2 at *
  go_wp2_with fail
  refine (err_none r ys 0 _ R2.out).mono ?_
  rintro e w3 ⟨rfl, rfl⟩
  go_wp2_with fail
  refine (take_good r ys 0 0 _ R2.out (by omega)).mono ?_
  rintro e w3 ⟨v, rfl, hown, hgood⟩
  obtain ⟨at1, ct1, rfl, ht1⟩ := hown.isB
  have hr3 : RD w3 r ys 0 false := by
    have := hgood.1
    rwa [Nat.zero_add] at this
  have R3 := hd hr3
  have B3 := hd (below_but2 B2.out hgood.2 HR.out)
  have T1 := hd ht1
  have T2 := hd ((HC.out.take 0 (by omega)).below B3.out)
  clear hown hgood ht1 hr3 R2 B2
  have hqc : (0 : Int) ≤ (c : Int) := by
    have := HC.out.2.1
    omega
  go_wp2_with fail
  refine (same_true at1 a 0 ct1 c _ _ T1.out T2.out).mono ?_
  rintro e w4 ⟨rfl, m2, rfl⟩
  have R4 := hd (R3.out.drewN m2)
  have B4 := hd (below_drewN B3.out m2)
  clear R3 B3 T1 T2
  generalize w3.drewN m2 = w4 at *
  go_wp2_with fail
  refine (take_bad r ys 0 false _ _ R4.out (by omega)).mono ?_
  rintro e w5 ⟨rfl, hbad⟩
  have R5 := hd hbad.1
  have B5 := hd (below_but2 B4.out hbad.2 HR.out)
  clear hbad R4 B4
  go_wp2_with fail
  refine (err_some r ys 0 _ R5.out).mono ?_
  rintro e w6 ⟨rfl, rfl⟩
  go_wp2_with fail
  refine (told10 0 _ (HG.out.below B5.out HG.out.pos)).mono ?_
  rintro e w6 ⟨rfl, hbel⟩
  have S0 : Hid (StRel w w6 r ys 0) := ⟨R5.out.below hbel, B5.out.trans (hbel.mono B5.out.size)⟩
  clear hbel R5 B5
  go_wp2
  go_loopw [8, 9, 10, 11, 12] (fun t i x y z wr => ∃ k : Nat, k ≤ nl ∧ i = .int .i64 k ∧ Hid (StRel w wr r ys 0)) (fun _ i _ _ _ _ => nl - (intOf i).toNat)
  case atStart => exact ⟨0, Nat.zero_le _, rfl, S0⟩
  case round =>
    obtain ⟨k, hk, rfl, hr⟩ := hrel
    by_cases hlt : k < nl
    · obtain ⟨b, off, rfl, hb, hc⟩ := L3.out (by omega)
      obtain ⟨kind, Nn, num, which, hu, c0, c1, c2, c3⟩ := hc k hlt
      have C2 := hd c2
      have HBB := hd hb
      clear hc c0 c1 c2 c3 hu hb S0
      have hi : (k : Int) < (nl : Int) := by omega
      go_wp2_with fail
      refine (u8_bad r ys 0 true _ hr.out.1 (.inl rfl)).mono ?_
      rintro e w7 ⟨rfl, hbad⟩
      have R7 := hd hbad.1
      have B7 := hd (below_but2 hr.out.2 hbad.2 HR.out)
      clear hbad hr
      go_wp2_with fail
      refine (u16_bad r ys 0 true _ R7.out (.inl rfl)).mono ?_
      rintro e w8 ⟨rfl, hbad⟩
      have R8 := hd hbad.1
      have B8 := hd (below_but2 B7.out hbad.2 HR.out)
      clear hbad R7 B7
      go_wp2_with fail
      refine (u32_bad r ys 0 true _ R8.out (.inl rfl)).mono ?_
      rintro e w9 ⟨rfl, hbad⟩
      have R9 := hd hbad.1
      have B9 := hd (below_but2 B8.out hbad.2 HR.out)
      clear hbad R8 B8
      have d2 := (B9.out.cell (p := ⟨b, off + k * 4 + 2, none⟩) HBB.out).trans C2.out
      go_wp2_with fail
      refine (take_bad r ys 0 true _ _ R9.out (.inl rfl)).mono ?_
      rintro e w10 ⟨rfl, hbad⟩
      have R10 := hd hbad.1
      have B10 := hd (below_but2 B9.out hbad.2 HR.out)
      clear hbad R9 B9 d2
      go_wp2_with fail
      refine (at_any r ys 0 true _ R10.out).mono ?_
      rintro e w11 ⟨rfl, rfl⟩
      go_wp2_with fail
      refine (left_len r ys 0 N true _ R10.out hlen).mono ?_
      rintro e w11 ⟨rfl, m3, rfl⟩
      have R11 := hd (R10.out.drewN m3)
      have B11 := hd (below_drewN B10.out m3)
      clear R10 B10
      generalize w10.drewN m3 = w11 at *
      go_wp2_with fail
      refine (err_some r ys 0 _ R11.out).mono ?_
      rintro e w12 ⟨rfl, rfl⟩
      go_wp2_with fail
      refine (told10 0 _ (HG.out.below B11.out HG.out.pos)).mono ?_
      rintro e w12 ⟨rfl, hbel⟩
      have S1 : Hid (StRel w w12 r ys 0) := ⟨R11.out.below hbel, B11.out.trans (hbel.mono B11.out.size)⟩
      clear hbel R11 B11
      go_wp2
      exact ⟨⟨k + 1, by omega, by go_num, S1⟩, by simp [intOf]; omega⟩
    · have hi : ¬ (k : Int) < (nl : Int) := by omega
      clear S0
      go_wp2
      go_ret
      exact ⟨rfl, hr.out.2⟩

set_option maxRecDepth 100000 in
set_option maxHeartbeats 2000000 in
theorem staysB (a : Option Addr) (n c : Nat) (xs : List Int) (t : Int) (al : Option Addr) (nl cl : Nat) (w : World) (h : IsB w a n c xs) (hl : IsOps w al nl cl) (hg : Handle w) (ht : ((min n 600 : Nat) : Int) < t) :
    Calls Tryd.prog 3 #[.slice a n c, .int .i64 t, .slice al nl cl] w fun e w' => e = .returned (.bool true) ∧ Below w.heap.size w w' := by
  obtain ⟨l1, l2, l3⟩ := hl
  have L3 := hd l3
  have HG := hd hg
  have HH := hd h
  have HC := hd (h.take (min n 600) (by omega))
  have hlen : (xs.take (min n 600)).length = min n 600 := HC.out.1
  have hN : min n 600 ≤ 600 := by omega
  have ht0 : ¬ t < 0 := by omega
  clear h l3 hg
  go_enter Tryd.func3, Tryd.ntmps3
  go_wp2_with fail
  refine (cut_any a n c xs _ HH.out).mono ?_
  rintro e w1 ⟨rfl, rfl⟩
  generalize xs.take (min n 600) = ys at HC hlen
  generalize min n 600 = N at *
  go_wp2_with fail
  refine (newReader_any a N c ys _ HC.out (by omega)).mono ?_
  rintro e w1 ⟨r, rfl, hrw, hrd, hbel⟩
  have R1 := hd hrd
  have B1 := hd hbel
  have HR := hd hrw
  clear hrd hbel hrw
  go_wp2_with fail
  refine (left_len r ys 0 N false _ R1.out hlen).mono ?_
  rintro e w2 ⟨rfl, m, rfl⟩
  have R2 := hd (R1.out.drewN m)
  have B2 := hd (below_drewN B1.out m)
  clear R1 B1
  generalize w1.drewN m = w2 at *
  go_wp2_with fail
  refine (err_none r ys 0 _ R2.out).mono ?_
  rintro e w3 ⟨rfl, rfl⟩
  go_wp2_with fail
  refine (take_good r ys 0 0 _ R2.out (by omega)).mono ?_
  rintro e w3 ⟨v, rfl, hown, hgood⟩
  obtain ⟨at1, ct1, rfl, ht1⟩ := hown.isB
  have hr3 : RD w3 r ys 0 false := by
    have := hgood.1
    rwa [Nat.zero_add] at this
  have R3 := hd hr3
  have B3 := hd (below_but2 B2.out hgood.2 HR.out)
  have T1 := hd ht1
  have T2 := hd ((HC.out.take 0 (by omega)).below B3.out)
  clear hown hgood ht1 hr3 R2 B2
  have hqc : (0 : Int) ≤ (c : Int) := by
    have := HC.out.2.1
    omega
  go_wp2_with fail
  refine (same_true at1 a 0 ct1 c _ _ T1.out T2.out).mono ?_
  rintro e w4 ⟨rfl, m2, rfl⟩
  have R4 := hd (R3.out.drewN m2)
  have B4 := hd (below_drewN B3.out m2)
  clear R3 B3 T1 T2
  generalize w3.drewN m2 = w4 at *
  go_wp2_with fail
  refine (take_bad r ys 0 false _ _ R4.out (by omega)).mono ?_
  rintro e w5 ⟨rfl, hbad⟩
  have R5 := hd hbad.1
  have B5 := hd (below_but2 B4.out hbad.2 HR.out)
  clear hbad R4 B4
  go_wp2_with fail
  refine (err_some r ys 0 _ R5.out).mono ?_
  rintro e w6 ⟨rfl, rfl⟩
  go_wp2_with fail
  refine (told10 0 _ (HG.out.below B5.out HG.out.pos)).mono ?_
  rintro e w6 ⟨rfl, hbel⟩
  have S0 : Hid (StRel w w6 r ys 0) := ⟨R5.out.below hbel, B5.out.trans (hbel.mono B5.out.size)⟩
  clear hbel R5 B5
  go_wp2
  go_loopw [8, 9, 10, 11, 12] (fun t i x y z wr => ∃ k : Nat, k ≤ nl ∧ i = .int .i64 k ∧ Hid (StRel w wr r ys 0)) (fun _ i _ _ _ _ => nl - (intOf i).toNat)
  case atStart => exact ⟨0, Nat.zero_le _, rfl, S0⟩
  case round =>
    obtain ⟨k, hk, rfl, hr⟩ := hrel
    by_cases hlt : k < nl
    · obtain ⟨b, off, rfl, hb, hc⟩ := L3.out (by omega)
      obtain ⟨kind, Nn, num, which, hu, c0, c1, c2, c3⟩ := hc k hlt
      have C2 := hd c2
      have HBB := hd hb
      clear hc c0 c1 c2 c3 hu hb S0
      have hi : (k : Int) < (nl : Int) := by omega
      go_wp2_with fail
      refine (u8_bad r ys 0 true _ hr.out.1 (.inl rfl)).mono ?_
      rintro e w7 ⟨rfl, hbad⟩
      have R7 := hd hbad.1
      have B7 := hd (below_but2 hr.out.2 hbad.2 HR.out)
      clear hbad hr
      go_wp2_with fail
      refine (u16_bad r ys 0 true _ R7.out (.inl rfl)).mono ?_
      rintro e w8 ⟨rfl, hbad⟩
      have R8 := hd hbad.1
      have B8 := hd (below_but2 B7.out hbad.2 HR.out)
      clear hbad R7 B7
      go_wp2_with fail
      refine (u32_bad r ys 0 true _ R8.out (.inl rfl)).mono ?_
      rintro e w9 ⟨rfl, hbad⟩
      have R9 := hd hbad.1
      have B9 := hd (below_but2 B8.out hbad.2 HR.out)
      clear hbad R8 B8
      have d2 := (B9.out.cell (p := ⟨b, off + k * 4 + 2, none⟩) HBB.out).trans C2.out
      go_wp2_with fail
      refine (take_bad r ys 0 true _ _ R9.out (.inl rfl)).mono ?_
      rintro e w10 ⟨rfl, hbad⟩
      have R10 := hd hbad.1
      have B10 := hd (below_but2 B9.out hbad.2 HR.out)
      clear hbad R9 B9 d2
      go_wp2_with fail
      refine (at_any r ys 0 true _ R10.out).mono ?_
      rintro e w11 ⟨rfl, rfl⟩
      go_wp2_with fail
      refine (left_len r ys 0 N true _ R10.out hlen).mono ?_
      rintro e w11 ⟨rfl, m3, rfl⟩
      have R11 := hd (R10.out.drewN m3)
      have B11 := hd (below_drewN B10.out m3)
      clear R10 B10
      generalize w10.drewN m3 = w11 at *
      go_wp2_with fail
      refine (err_some r ys 0 _ R11.out).mono ?_
      rintro e w12 ⟨rfl, rfl⟩
      go_wp2_with fail
      refine (told10 0 _ (HG.out.below B11.out HG.out.pos)).mono ?_
      rintro e w12 ⟨rfl, hbel⟩
      have S1 : Hid (StRel w w12 r ys 0) := ⟨R11.out.below hbel, B11.out.trans (hbel.mono B11.out.size)⟩
      clear hbel R11 B11
      go_wp2
      exact ⟨⟨k + 1, by omega, by go_num, S1⟩, by simp [intOf]; omega⟩
    · have hi : ¬ (k : Int) < (nl : Int) := by omega
      clear S0
      go_wp2
      go_ret
      exact ⟨rfl, hr.out.2⟩

end Go.Proofs.YtkidhfednipdcabDoor
