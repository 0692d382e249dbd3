/-
  The document's: the value of a sign; bytes in signs.
-/
import Derived.Test.YtplmhilkehkeiaaDoorSd
namespace Go.Proofs.YtplmhilkehkeiaaDoor
open Go.RowKit
set_option linter.unusedVariables false

theorem index_at (L : Bs) (c : UInt8) (i : Nat) (h : L[i]? = some c) (hn : ∀ j : Nat, j < i → L[j]? ≠ some c) : Lib.indexByte L c = i := by
  induction L generalizing i with
  | nil => simp at h
  | cons x r ih =>
    rw [Lib.indexByte]
    cases i with
    | zero =>
      have : x = c := by simpa using h
      simp [this]
    | succ i =>
      have h0 : x ≠ c := by simpa using hn 0 (by omega)
      have hx : (x == c) = false := by simpa using h0
      rw [hx, ih i (by simpa using h) (fun j hj => by have := hn (j + 1) (by omega); simpa using this)]
      have : ((i : Int) == -1) = false := by simp
      simp [this]
theorem index_none (L : Bs) (c : UInt8) (hn : ∀ j : Nat, j < L.length → L[j]? ≠ some c) : Lib.indexByte L c = -1 := by
  induction L with
  | nil => rfl
  | cons x r ih =>
    have h0 : x ≠ c := by simpa using hn 0 (by simp)
    have hx : (x == c) = false := by simpa using h0
    rw [Lib.indexByte, hx, ih (fun j hj => by have := hn (j + 1) (by simpa using hj); simpa using this)]
    rfl

def six : ByteArray := ⟨#[48, 49, 50, 51, 52, 53, 54, 55, 56, 57, 97, 98, 99, 100, 101, 102]⟩

set_option maxRecDepth 100000 in
set_option maxHeartbeats 4000000 in
theorem digit_any (c : UInt8) (w : World) : Calls Tryd.prog 63 #[.int .u8 c.toNat] w fun e w' => e = .returned (.int .i64 (hexI c)) ∧ w' = w := by
  generalize hV : hexI c = V
  have HV := hd hV
  clear hV
  go_enter Tryd.func63, Tryd.ntmps63
  go_wp2
  go_loopw [3] (fun b wr => ∃ i : Nat, i ≤ 16 ∧ b = .int .i64 i ∧ wr = w ∧ Hid (∀ j : Nat, j < i → sixteen[j]? ≠ some c)) (fun b _ => 16 - (intOf b).toNat)
  case atStart => exact ⟨0, Nat.zero_le _, rfl, rfl, fun j hj => by omega⟩
  case round =>
    obtain ⟨i, hi, rfl, rfl, HD⟩ := hrel
    by_cases hlt : i < 16
    · have i1 : (i : Int) < 16 := by omega
      have hsz : six.size = 16 := rfl
      have j1 : i < six.size := by omega
      have hat : sixteen[i]? = some six[i] := at_tl six i j1
      have HA := hd hat
      clear hat
      by_cases hq : (six[i].toNat : Int) = (c.toNat : Int)
      · have hc : six[i] = c := UInt8.toNat_inj.1 (by omega)
        unfold six at hq j1
        go_wp2
        go_ret
        refine ⟨?_, rfl⟩
        rw [← HV.out]
        have := HA.out
        rw [hc] at this
        unfold hexI
        rw [index_at sixteen c i this HD.out]
        rfl
      · have hc : six[i] ≠ c := fun h => hq (by rw [h])
        have HC := hd hc
        clear hc
        unfold six at hq j1
        go_wp2
        refine ⟨⟨i + 1, by omega, rfl, trivial, ?_⟩, by simp [intOf]; omega⟩
        intro j hj
        rcases Nat.lt_or_ge j i with h | h
        · exact HD.out j h
        · obtain rfl : j = i := by omega
          rw [HA.out]
          simpa using HC.out
    · have i1 : ¬ (i : Int) < 16 := by omega
      go_wp2
      go_ret
      refine ⟨?_, rfl⟩
      obtain rfl : i = 16 := by omega
      rw [← HV.out]
      unfold hexI
      rw [index_none sixteen c HD.out]
      rfl

theorem pairs_step (s : ByteArray) (p : Nat) (h : p + 1 < s.size) : pairs ((tl s).drop p) = if hexI s[p] < 0 ∨ hexI s[p + 1] < 0 then none else (pairs ((tl s).drop (p + 2))).map (fun t => (16 * hexI s[p] + hexI s[p + 1]).toNat.toUInt8 :: t) := by
  have h1 : p < (tl s).length := by rw [← tl_size]; omega
  have h2 : p + 1 < (tl s).length := by rw [← tl_size]; omega
  rw [List.drop_eq_getElem_cons h1, List.drop_eq_getElem_cons h2, pairs]
  rfl

/-- nil and false, or the bytes and true. -/
def BO (w w' : World) (o : Option Bs) (e : Ending) : Prop := ∃ v f, e = .returned (.tuple #[v, .bool f]) ∧ f = o.isSome ∧ NL bc 1 5 w' w.heap.size v (bI (o.getD [])) ∧ Below w.heap.size w w'

set_option maxRecDepth 100000 in
set_option maxHeartbeats 4000000 in
theorem bytesOf_any (s : ByteArray) (w : World) (hz : s.size ≤ 2000000) :
    Calls Tryd.prog 48 #[.string s] w fun e w' => BO w w' (hexP (tl s)) e := by
  have hl := tl_size s
  by_cases h45 : tl s = [45]
  · have hv : hexP (tl s) = some [] := by unfold hexP; rw [if_pos h45]
    rw [hv]
    have i1 : (s.toList == [45]) = true := by rw [toL, h45]; rfl
    clear hv hl h45
    go_enter Tryd.func48, Tryd.ntmps48
    go_wp2
    go_ret2
    exact ⟨_, _, rfl, rfl, NL.nil _ _, Below.refl _ _⟩
  · have i1 : (s.toList == [45]) = false := by rw [toL]; simpa using h45
    by_cases h0 : s.size = 0
    · have hv : hexP (tl s) = none := by
        unfold hexP
        rw [if_neg h45, if_pos (by rw [← List.length_eq_zero_iff]; omega)]
      rw [hv]
      have i2 : (s.size : Int) = 0 := by omega
      clear hv hl h45 h0
      go_enter Tryd.func48, Tryd.ntmps48
      go_wp2
      go_ret2
      exact ⟨_, _, rfl, rfl, NL.nil _ _, Below.refl _ _⟩
    have hx : hexP (tl s) = pairs (tl s) := by
      unfold hexP
      rw [if_neg h45, if_neg (by rw [← List.length_eq_zero_iff]; omega)]
    rw [hx]
    have i2 : ¬ (s.size : Int) = 0 := by omega
    have ie : ¬ s = ByteArray.empty := by rintro rfl; simp at i2
    have ib : ((s.size : Int) == 0) = false := by simpa using i2
    by_cases hodd : s.size % 2 = 1
    · rw [pairs_odd _ (by omega)]
      have i3 : (s.size : Int).tmod 2 = 1 := by rw [Int.tmod_eq_emod_of_nonneg (by omega)]; omega
      clear hl h45 h0 hodd hz hx
      go_enter Tryd.func48, Tryd.ntmps48
      go_wp2
      go_ret2
      exact ⟨_, _, rfl, rfl, NL.nil _ _, Below.refl _ _⟩
    have i3 : (s.size : Int).tmod 2 = 0 := by rw [Int.tmod_eq_emod_of_nonneg (by omega)]; omega
    obtain ⟨m, hm⟩ : ∃ m, s.size = 2 * m := ⟨s.size / 2, by omega⟩
    have HS := hd hm
    have HZ := hd hz
    clear hl h45 h0 hodd hz hx hm
    generalize hO : pairs (tl s) = O
    have HO := hd hO
    clear hO
    go_enter Tryd.func48, Tryd.ntmps48
    go_wp2
    clear i1 i2 i3 ie ib
    go_loopw [4, 5] (fun v b wr => ∃ k p : Nat, k ≤ m ∧ b = .int .i64 p ∧ Hid (p = 2 * k) ∧ Hid (∃ u : Bs, u.length = k ∧ O = (pairs ((tl s).drop p)).map (fun t => u ++ t) ∧ NL bc 1 5 wr w.heap.size v (bI u) ∧ Below w.heap.size w wr)) (fun _ b _ => 2 * m - (intOf b).toNat)
    case atStart => exact ⟨0, 0, Nat.zero_le _, rfl, rfl, [], rfl, by rw [← HO.out]; simp, NL.nil _ _, Below.refl _ _⟩
    case round =>
      obtain ⟨k, p, hk, rfl, HK, HD⟩ := hrel
      obtain ⟨u, hu⟩ := HD.out
      have HU := hd hu
      clear hu HD
      by_cases hlt : k < m
      · have j0 : p < s.size := by have := HS.out; have := HK.out; omega
        have j1 : p + 1 < s.size := by have := HS.out; have := HK.out; omega
        obtain ⟨a, ea⟩ : ∃ a, s[p] = a := ⟨_, rfl⟩
        obtain ⟨b, eb⟩ : ∃ b, s[p + 1] = b := ⟨_, rfl⟩
        have hst := pairs_step s p j1
        rw [ea, eb] at hst
        have HST := hd hst
        clear hst
        have i1 : (p : Int) < (s.size : Int) := by omega
        have i2 : (p : Int) + 1 < (s.size : Int) := by omega
        have ew : wrap64 ((p : Int) + 1) = (p : Int) + 1 := by have := HZ.out; rw [wrap64]; omega
        by_cases ha0 : hexI a < 0
        · go_wp2_with (first | (go_at_call 63; refine (digit_any _ _).mono ?_; rintro e w' ⟨rfl, rfl⟩))
          go_ret2
          have h := HU.out
          rw [HST.out, if_pos (.inl ha0)] at h
          rw [h.2.1]
          exact ⟨_, _, rfl, rfl, NL.nil _ _, h.2.2.2⟩
        by_cases hb0 : hexI b < 0
        · go_wp2_with (first | (go_at_call 63; refine (digit_any _ _).mono ?_; rintro e w' ⟨rfl, rfl⟩))
          go_ret2
          have h := HU.out
          rw [HST.out, if_pos (.inr hb0)] at h
          rw [h.2.1]
          exact ⟨_, _, rfl, rfl, NL.nil _ _, h.2.2.2⟩
        have HA := hd (And.intro (show 0 ≤ hexI a by omega) (hexI_bd a).2)
        have HB := hd (And.intro (show 0 ≤ hexI b by omega) (hexI_bd b).2)
        have hy : wrap64 (wrap64 (16 * hexI a) + hexI b) % 256 = 16 * hexI a + hexI b := by
          have h1 := HA.out; have h2 := HB.out
          rw [wrap64, wrap64]; omega
        obtain ⟨v', w', hap, h1, h2⟩ := grow_byte (w0 := w) (u := wr) (16 * hexI a + hexI b) HU.out.2.2.1 HU.out.2.2.2 (Nat.le_refl _) (by rw [bI_len, HU.out.1]; have := HS.out; have := HZ.out; omega)
        have et : bI (u ++ [(16 * hexI a + hexI b).toNat.toUInt8]) = bI u ++ [16 * hexI a + hexI b] := by
          simp only [bI, List.map_append, List.map_cons, List.map_nil]
          rw [two_signs _ _ HA.out.1 HA.out.2 HB.out.1 HB.out.2]
        rw [← et] at h1
        have Z : Hid (∃ u : Bs, u.length = k + 1 ∧ O = (pairs ((tl s).drop (p + 2))).map (fun t => u ++ t) ∧ NL bc 1 5 w' w.heap.size v' (bI u) ∧ Below w.heap.size w w') := by
          refine ⟨_, ?_, ?_, h1, h2⟩
          · simp [HU.out.1]
          · have h := HU.out.2.1
            rw [HST.out, if_neg (by omega)] at h
            rw [h]
            cases pairs ((tl s).drop (p + 2)) <;> simp
        have e3 : wrap64 ((p : Int) + 2) = ((p + 2 : Nat) : Int) := by have := HZ.out; rw [wrap64]; omega
        have g1 : 0 ≤ hexI a := HA.out.1
        have g2 : 0 ≤ hexI b := HB.out.1
        clear h1 h2 et HU ha0 hb0
        go_wp2_with (first | (go_at_call 63; refine (digit_any _ _).mono ?_; rintro e w' ⟨rfl, rfl⟩) | (at_builtin; refine wpList_append_k _ rfl _ _ 22 22 rfl _ _ rfl rfl (hap _) ?_))
        refine ⟨⟨k + 1, p + 2, by omega, by rw [e3], hd (by have := HK.out; omega), Z⟩, ?_⟩
        rw [e3]
        have := HS.out
        simp [intOf]
        omega
      · have i1 : ¬ (p : Int) < (s.size : Int) := by have := HS.out; have := HK.out; omega
        go_wp2
        go_ret2
        have h := HU.out
        rw [List.drop_eq_nil_of_le (by rw [← tl_size]; have := HS.out; have := HK.out; omega), pairs] at h
        rw [h.2.1]
        exact ⟨_, _, rfl, rfl, by simpa using h.2.2.1, h.2.2.2⟩

end Go.Proofs.YtplmhilkehkeiaaDoor
