/-
  OctetStays: the walk.
-/
import Derived.Test.YtkidhfednipdcabDoorWalkA
import Derived.Test.YtkidhfednipdcabDoorWalkT
import Derived.Test.YtkidhfednipdcabDoorTold
namespace Go.Proofs.YtkidhfednipdcabDoor
open Go.RowKit

/-- The slice value holds operations, each of four cells. -/
def IsOps (w : World) (a : Option Addr) (n c : Nat) : Prop :=
  n ≤ c ∧ c ≤ 9223372036854775807 ∧
  (0 < n → ∃ b off, a = some ⟨b, off, none⟩ ∧ b < w.heap.size ∧ ∀ i, i < n → ∃ kind N num : Int, ∃ which : Bool, (0 ≤ num ∧ num < 18446744073709551616) ∧
    w.cell? ⟨b, off + i * 4, none⟩ = some (.int .i64 kind) ∧ w.cell? ⟨b, off + i * 4 + 1, none⟩ = some (.bool which) ∧ w.cell? ⟨b, off + i * 4 + 2, none⟩ = some (.int .i64 N) ∧ w.cell? ⟨b, off + i * 4 + 3, none⟩ = some (.int .u64 num))

theorem left_len (r : Nat) (xs : List Int) (p N : Nat) (f : Bool) (w : World) (h : RD w r xs p f) (hN : xs.length = N) :
    Calls Tryd.prog 8 #[.pointer (some ⟨r, 0, none⟩)] w fun e w' => e = .returned (.int .i64 ((N : Int) - p)) ∧ ∃ m, w' = w.drewN m := by
  rw [← hN]
  exact left_any r xs p f w h

theorem told10 (p : Int) (w : World) (hg : Handle w) :
    Calls Tryd.prog 12 #[.iface 62 (.pointer (some ⟨w.heap.size, 0, none⟩)), .int .i64 10, .int .i64 p] (w.alloc (.cells #[.int .i64 p, .iface 53 (.int .i64 10)] 64)) fun e w' => e = .returned (.bool true) ∧ Below w.heap.size w w' := by
  have hb : Below w.heap.size w (w.alloc (.cells #[.int .i64 p, .iface 53 (.int .i64 10)] 64)) := (Below.refl _ _).alloc (Nat.le_refl _) _
  refine (told_some w.heap.size 0 10 p _ (hg.below hb hg.pos) (by simp) (by simp) rfl).mono ?_
  rintro e w' ⟨rfl, h⟩
  exact ⟨rfl, hb.trans (h.mono (by simp))⟩

theorem below_but2 {w w1 w2 : World} {r : Nat} (h : Below w.heap.size w w1) (k : But r w1 w2) (hr : w.heap.size ≤ r) : Below w.heap.size w w2 :=
  h.trans (k.below h.size hr)

/-- What holds at the head of a round. -/
def StRel (w wr : World) (r : Nat) (ys : List Int) (q : Nat) : Prop := RD wr r ys q true ∧ Below w.heap.size w wr

set_option maxRecDepth 100000 in
set_option maxHeartbeats 2000000 in
theorem staysC (a : Option Addr) (n c : Nat) (xs : List Int) (q : Nat) (al : Option Addr) (nl cl : Nat) (w : World) (h : IsB w a n c xs) (hl : IsOps w al nl cl) (hg : Handle w) (hq : q ≤ min n 600) :
    Calls Tryd.prog 3 #[.slice a n c, .int .i64 q, .slice al nl cl] w fun e w' => e = .returned (.bool true) ∧ Below w.heap.size w w' := by
  obtain ⟨l1, l2, l3⟩ := hl
  have L3 := hd l3
  have HG := hd hg
  have HH := hd h
  have HC := hd (h.take (min n 600) (by omega))
  have hlen : (xs.take (min n 600)).length = min n 600 := HC.out.1
  have hN : min n 600 ≤ 600 := by omega
  clear h l3 hg
  go_enter Tryd.func3, Tryd.ntmps3
  go_wp2_with fail
  refine (cut_any a n c xs _ HH.out).mono ?_
  rintro e w1 ⟨rfl, rfl⟩
  generalize xs.take (min n 600) = ys at HC hlen
  generalize min n 600 = N at *
  go_wp2_with fail
  refine (newReader_any a N c ys _ HC.out (by omega)).mono ?_
  rintro e w1 ⟨r, rfl, hrw, hrd, hbel⟩
  have R1 := hd hrd
  have B1 := hd hbel
  have HR := hd hrw
  clear hrd hbel hrw
  go_wp2_with fail
  refine (left_len r ys 0 N false _ R1.out hlen).mono ?_
  rintro e w2 ⟨rfl, m, rfl⟩
  have R2 := hd (R1.out.drewN m)
  have B2 := hd (below_drewN B1.out m)
  clear R1 B1
  generalize w1.drewN m = w2 at *
  go_wp2_with fail
  refine (err_none r ys 0 _ R2.out).mono ?_
  rintro e w3 ⟨rfl, rfl⟩
  go_wp2_with fail
  refine (take_good r ys 0 q _ R2.out (by omega)).mono ?_
  rintro e w3 ⟨v, rfl, hown, hgood⟩
  obtain ⟨at1, ct1, rfl, ht1⟩ := hown.isB
  have hr3 : RD w3 r ys q false := by
    have := hgood.1
    rwa [Nat.zero_add] at this
  have R3 := hd hr3
  have B3 := hd (below_but2 B2.out hgood.2 HR.out)
  have T1 := hd ht1
  have T2 := hd ((HC.out.take q hq).below B3.out)
  clear hown hgood ht1 hr3 R2 B2
  have hqc : (q : Int) ≤ (c : Int) := by
    have := HC.out.2.1
    omega
  go_wp2_with fail
  refine (same_true at1 a q ct1 c _ _ T1.out T2.out).mono ?_
  rintro e w4 ⟨rfl, m2, rfl⟩
  have R4 := hd (R3.out.drewN m2)
  have B4 := hd (below_drewN B3.out m2)
  clear R3 B3 T1 T2
  generalize w3.drewN m2 = w4 at *
  go_wp2_with fail
  refine (take_bad r ys q false _ _ R4.out (by omega)).mono ?_
  rintro e w5 ⟨rfl, hbad⟩
  have R5 := hd hbad.1
  have B5 := hd (below_but2 B4.out hbad.2 HR.out)
  clear hbad R4 B4
  go_wp2_with fail
  refine (err_some r ys q _ R5.out).mono ?_
  rintro e w6 ⟨rfl, rfl⟩
  go_wp2_with fail
  refine (told10 q _ (HG.out.below B5.out HG.out.pos)).mono ?_
  rintro e w6 ⟨rfl, hbel⟩
  have S0 : Hid (StRel w w6 r ys q) := ⟨R5.out.below hbel, B5.out.trans (hbel.mono B5.out.size)⟩
  clear hbel R5 B5
  go_wp2
  go_loopw [8, 9, 10, 11, 12] (fun t i x y z wr => ∃ k : Nat, k ≤ nl ∧ i = .int .i64 k ∧ Hid (StRel w wr r ys q)) (fun _ i _ _ _ _ => nl - (intOf i).toNat)
  case atStart => exact ⟨0, Nat.zero_le _, rfl, S0⟩
  case round =>
    obtain ⟨k, hk, rfl, hr⟩ := hrel
    by_cases hlt : k < nl
    · obtain ⟨b, off, rfl, hb, hc⟩ := L3.out (by omega)
      obtain ⟨kind, Nn, num, which, hu, c0, c1, c2, c3⟩ := hc k hlt
      have C2 := hd c2
      have HBB := hd hb
      clear hc c0 c1 c2 c3 hu hb S0
      have hi : (k : Int) < (nl : Int) := by omega
      go_wp2_with fail
      refine (u8_bad r ys q true _ hr.out.1 (.inl rfl)).mono ?_
      rintro e w7 ⟨rfl, hbad⟩
      have R7 := hd hbad.1
      have B7 := hd (below_but2 hr.out.2 hbad.2 HR.out)
      clear hbad hr
      go_wp2_with fail
      refine (u16_bad r ys q true _ R7.out (.inl rfl)).mono ?_
      rintro e w8 ⟨rfl, hbad⟩
      have R8 := hd hbad.1
      have B8 := hd (below_but2 B7.out hbad.2 HR.out)
      clear hbad R7 B7
      go_wp2_with fail
      refine (u32_bad r ys q true _ R8.out (.inl rfl)).mono ?_
      rintro e w9 ⟨rfl, hbad⟩
      have R9 := hd hbad.1
      have B9 := hd (below_but2 B8.out hbad.2 HR.out)
      clear hbad R8 B8
      have d2 := (B9.out.cell (p := ⟨b, off + k * 4 + 2, none⟩) HBB.out).trans C2.out
      go_wp2_with fail
      refine (take_bad r ys q true _ _ R9.out (.inl rfl)).mono ?_
      rintro e w10 ⟨rfl, hbad⟩
      have R10 := hd hbad.1
      have B10 := hd (below_but2 B9.out hbad.2 HR.out)
      clear hbad R9 B9 d2
      go_wp2_with fail
      refine (at_any r ys q true _ R10.out).mono ?_
      rintro e w11 ⟨rfl, rfl⟩
      go_wp2_with fail
      refine (left_len r ys q N true _ R10.out hlen).mono ?_
      rintro e w11 ⟨rfl, m3, rfl⟩
      have R11 := hd (R10.out.drewN m3)
      have B11 := hd (below_drewN B10.out m3)
      clear R10 B10
      generalize w10.drewN m3 = w11 at *
      go_wp2_with fail
      refine (err_some r ys q _ R11.out).mono ?_
      rintro e w12 ⟨rfl, rfl⟩
      go_wp2_with fail
      refine (told10 q _ (HG.out.below B11.out HG.out.pos)).mono ?_
      rintro e w12 ⟨rfl, hbel⟩
      have S1 : Hid (StRel w w12 r ys q) := ⟨R11.out.below hbel, B11.out.trans (hbel.mono B11.out.size)⟩
      clear hbel R11 B11
      go_wp2
      exact ⟨⟨k + 1, by omega, by go_num, S1⟩, by simp [intOf]; omega⟩
    · have hi : ¬ (k : Int) < (nl : Int) := by omega
      clear S0
      go_wp2
      go_ret
      exact ⟨rfl, hr.out.2⟩

end Go.Proofs.YtkidhfednipdcabDoor
