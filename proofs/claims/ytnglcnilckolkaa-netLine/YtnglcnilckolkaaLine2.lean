/-
  NetLine: its walk.
-/
import Derived.Test.YtnglcnilckolkaaLine
namespace Go.Proofs.Ytnglcnilckolkaa
open Go.RowKit
set_option linter.unusedVariables false

set_option maxRecDepth 100000 in
set_option maxHeartbeats 8000000 in
theorem netLine_any (al : Option Addr) (nl cl : Nat) (A : Nat → Option Addr) (N C : Nat → Nat) (X : Nat → List Int) (most : Int) (w : World) (hL : IsL w al nl cl A N C X) :
    Calls Try.prog 3 #[.slice al nl cl, .int .i64 most] w fun e w' => e = .returned (.bool true) ∧ Below w.heap.size w w' := by
  obtain ⟨p, hp⟩ : ∃ p, intoP most 50 = p := ⟨_, rfl⟩
  have hp3 : p < 50 := by rw [← hp]; exact intoP_lt most 50 (by omega)
  have HP := hd hp
  have HL := hd hL
  have hn2 : nl ≤ cl ∧ cl ≤ 9223372036854775807 := ⟨hL.1, hL.2.1⟩
  clear hp hL
  go_enter Try.func3, Try.ntmps3
  go_wp2_with fail
  refine (st_new 64 w (by omega)).mono ?_
  rintro e w1 ⟨x, rfl, h1⟩
  have S0 : Hid (ST w w1 x 64 (lineG X 0 0) 0) := h1
  clear h1
  go_wp2_with fail
  refine (into_any most 50 w1 (by omega) (by omega)).mono ?_
  rintro e w2 ⟨rfl, rfl⟩
  rw [HP.out]
  go_wp2_with fail
  go_loopw [7, 8] (fun vo vi wr => ∃ o i : Nat, o ≤ i ∧ i ≤ nl ∧ i ≤ 300 ∧ i - o ≤ p ∧ vo = .int .i64 o ∧ vi = .int .i64 i ∧ Hid (ST w wr x 64 (lineG X o i) i)) (fun _ vi _ => 300 - (intOf vi).toNat)
  case atStart => exact ⟨0, 0, Nat.le_refl _, Nat.zero_le _, by omega, by omega, rfl, rfl, S0⟩
  case round =>
  obtain ⟨o, i, hoi, hin, hi3, hip, rfl, rfl, HS⟩ := hrel
  clear S0
  by_cases hlt : i < nl
  · by_cases h300 : i < 300
    · have i1 : (i : Int) < (nl : Int) := by omega
      have i2 : (i : Int) < 300 := by omega
      have L1 := HL.out.below HS.out.base
      obtain ⟨b, off, rfl, hb, hc⟩ := L1.2.2 (by omega)
      obtain ⟨c1, hB1⟩ := hc i hlt
      have hX : (X i).length = N i := hB1.1
      have hNC : N i ≤ C i ∧ C i ≤ 9223372036854775807 := ⟨hB1.2.1, hB1.2.2.1⟩
      have HB1 := hd hB1
      have HX := hd hX
      clear L1 hc hB1 hX
      by_cases h64 : 64 < N i
      · have IT : Hid (IsB wr (A i) 64 (C i) ((X i).take 64)) := HB1.out.take 64 (by omega)
        have i3 : (64 : Int) < (N i : Int) := by omega
        have i4 : (64 : Int) ≤ (C i : Int) := by omega
        clear HB1
        go_wp2_with fail
        refine (ends_any i _ (by omega)).mono ?_
        rintro e w3 ⟨rfl, rfl⟩
        go_wp2_with fail
        refine (st_send HS.out (by omega) (eF i) (eT i) _ _ _ ((X i).take 64) IT.out).mono ?_
        rintro e w4 ⟨rfl, h4, -⟩
        have e4 : sendE 64 (lineG X o i).length (eF i) (eT i) ((X i).take 64).length = 0 := sendE_ok (ends_joins i 64 (by omega)) (by rw [IT.out.1]; omega) (by rw [lineG_len]; omega)
        rw [sendG_yes e4] at h4
        have h4' : ST w w4 x 64 (lineG X o (i + 1)) (i + 1) := by
          rw [← lineG_push X o i hoi]
          exact h4
        rw [IT.out.1] at e4
        rw [e4]
        have H4 := hd h4'
        clear h4 h4' e4 HS
        go_wp2_with fail
        refine (st_count H4.out).mono ?_
        rintro e w5 ⟨rfl, rfl⟩
        rw [lineG_len]
        obtain ⟨q, hq⟩ : ∃ q, i + 1 - o = q := ⟨_, rfl⟩
        rw [hq]
        by_cases hqp : q < 1 + p
        · have i5 : (q : Int) < 1 + (p : Int) := by omega
          go_wp2_with fail
          go_roundw
          case rel => exact ⟨o, i + 1, by omega, by omega, by omega, by omega, rfl, by go_num, H4⟩
          case measure => simp [intOf]; omega
        · have i5 : ¬ (q : Int) < 1 + (p : Int) := by omega
          go_wp2_with fail
          refine (oldest_any _ nl cl A N C X w w5 HL.out x o (i + 1) (i + 1) (by omega) (by omega) (by omega) H4.out).mono ?_
          rintro e w6 ⟨rfl, h6⟩
          have H6 := hd h6
          clear h6
          go_wp2_with fail
          go_roundw
          case rel => exact ⟨o + 1, i + 1, by omega, by omega, by omega, by omega, by go_num, by go_num, H6⟩
          case measure => simp [intOf]; omega
      · have IT : Hid (IsB wr (A i) (N i) (C i) ((X i).take 64)) := by
          rw [List.take_of_length_le (by rw [HX.out]; omega)]
          exact HB1.out
        have i3 : ¬ (64 : Int) < (N i : Int) := by omega
        clear HB1
        go_wp2_with fail
        refine (ends_any i _ (by omega)).mono ?_
        rintro e w3 ⟨rfl, rfl⟩
        go_wp2_with fail
        refine (st_send HS.out (by omega) (eF i) (eT i) _ _ _ ((X i).take 64) IT.out).mono ?_
        rintro e w4 ⟨rfl, h4, -⟩
        have e4 : sendE 64 (lineG X o i).length (eF i) (eT i) ((X i).take 64).length = 0 := sendE_ok (ends_joins i 64 (by omega)) (by rw [IT.out.1]; omega) (by rw [lineG_len]; omega)
        rw [sendG_yes e4] at h4
        have h4' : ST w w4 x 64 (lineG X o (i + 1)) (i + 1) := by
          rw [← lineG_push X o i hoi]
          exact h4
        rw [IT.out.1] at e4
        rw [e4]
        have H4 := hd h4'
        clear h4 h4' e4 HS
        go_wp2_with fail
        refine (st_count H4.out).mono ?_
        rintro e w5 ⟨rfl, rfl⟩
        rw [lineG_len]
        obtain ⟨q, hq⟩ : ∃ q, i + 1 - o = q := ⟨_, rfl⟩
        rw [hq]
        by_cases hqp : q < 1 + p
        · have i5 : (q : Int) < 1 + (p : Int) := by omega
          go_wp2_with fail
          go_roundw
          case rel => exact ⟨o, i + 1, by omega, by omega, by omega, by omega, rfl, by go_num, H4⟩
          case measure => simp [intOf]; omega
        · have i5 : ¬ (q : Int) < 1 + (p : Int) := by omega
          go_wp2_with fail
          refine (oldest_any _ nl cl A N C X w w5 HL.out x o (i + 1) (i + 1) (by omega) (by omega) (by omega) H4.out).mono ?_
          rintro e w6 ⟨rfl, h6⟩
          have H6 := hd h6
          clear h6
          go_wp2_with fail
          go_roundw
          case rel => exact ⟨o + 1, i + 1, by omega, by omega, by omega, by omega, by go_num, by go_num, H6⟩
          case measure => simp [intOf]; omega
    · have i1 : (i : Int) < (nl : Int) := by omega
      have i2 : ¬ (i : Int) < 300 := by omega
      have S2 : Hid (ST w wr x 64 (lineG X o i) i) := HS
      clear HS
      go_wp2_with fail
      go_loopw [7] (fun vo wr => ∃ o : Nat, o ≤ i ∧ vo = .int .i64 o ∧ Hid (ST w wr x 64 (lineG X o i) i)) (fun vo _ => i - (intOf vo).toNat)
      case atStart => exact ⟨o, hoi, rfl, S2⟩
      case round =>
        obtain ⟨o', ho', rfl, HS⟩ := hrel
        clear S2
        go_wp2_with fail
        refine (st_count HS.out).mono ?_
        rintro e w5 ⟨rfl, rfl⟩
        rw [lineG_len]
        obtain ⟨q, hq⟩ : ∃ q, i - o' = q := ⟨_, rfl⟩
        rw [hq]
        by_cases hq0 : 0 < q
        · have i5 : (0 : Int) < (q : Int) := by omega
          have i6 : (o' : Int) < (nl : Int) := by omega
          go_wp2_with fail
          refine (oldest_any _ nl cl A N C X w w5 HL.out x o' i i (by omega) (by omega) (by omega) HS.out).mono ?_
          rintro e w6 ⟨rfl, h6⟩
          have H6 := hd h6
          clear h6
          go_wp2_with fail
          go_roundw
          case rel => exact ⟨o' + 1, by omega, by go_num, H6⟩
          case measure => simp [intOf]; omega
        · obtain rfl : q = 0 := by omega
          obtain rfl : i = o' := by omega
          go_wp2_with fail
          refine (st_count HS.out).mono ?_
          rintro e w6 ⟨rfl, rfl⟩
          rw [lineG_len, Nat.sub_self]
          have i7 : ¬ (i : Int) = (nl : Int) := by omega
          have i8 : (i : Int) = 300 := by omega
          go_wp2
          go_ret
          exact ⟨rfl, HS.out.base⟩
  · obtain rfl : i = nl := by omega
    have S2 : Hid (ST w wr x 64 (lineG X o i) i) := HS
    clear HS
    go_wp2_with fail
    go_loopw [7] (fun vo wr => ∃ o : Nat, o ≤ i ∧ vo = .int .i64 o ∧ Hid (ST w wr x 64 (lineG X o i) i)) (fun vo _ => i - (intOf vo).toNat)
    case atStart => exact ⟨o, hoi, rfl, S2⟩
    case round =>
      obtain ⟨o', ho', rfl, HS⟩ := hrel
      clear S2
      go_wp2_with fail
      refine (st_count HS.out).mono ?_
      rintro e w5 ⟨rfl, rfl⟩
      rw [lineG_len]
      obtain ⟨q, hq⟩ : ∃ q, i - o' = q := ⟨_, rfl⟩
      rw [hq]
      by_cases hq0 : 0 < q
      · have i5 : (0 : Int) < (q : Int) := by omega
        have i6 : (o' : Int) < (i : Int) := by omega
        go_wp2_with fail
        refine (oldest_any _ i cl A N C X w w5 HL.out x o' i i (by omega) (by omega) (by omega) HS.out).mono ?_
        rintro e w6 ⟨rfl, h6⟩
        have H6 := hd h6
        clear h6
        go_wp2_with fail
        go_roundw
        case rel => exact ⟨o' + 1, by omega, by go_num, H6⟩
        case measure => simp [intOf]; omega
      · obtain rfl : q = 0 := by omega
        obtain rfl : o' = i := by omega
        go_wp2_with fail
        refine (st_count HS.out).mono ?_
        rintro e w6 ⟨rfl, rfl⟩
        rw [lineG_len, Nat.sub_self]
        skip
        go_wp2
        go_ret
        exact ⟨rfl, HS.out.base⟩

end Go.Proofs.Ytnglcnilckolkaa
