/-
  The document's cut.
-/
import Derived.Test.YtplmhilkehkeiaaDoorRd
namespace Go.Proofs.YtplmhilkehkeiaaDoor
open Go.RowKit
set_option linter.unusedVariables false

theorem extract_piece (s : ByteArray) (a b : Nat) (h1 : a ≤ b) (h2 : b ≤ s.size) : tl (s.extract a b) = ((tl s).drop a).take (b - a) := by
  simp [tl, ByteArray.data_extract]
theorem cutD_step (s : ByteArray) (n : Nat) (acc : List Bs) (cur : Bs) (i : Nat) (h : i < s.size) : cutD n acc cur ((tl s).drop i) = if s[i] = 32 ∧ (n = 0 ∨ acc.length < n - 1) then cutD n (acc ++ [cur]) [] ((tl s).drop (i + 1)) else cutD n acc (cur ++ [s[i]]) ((tl s).drop (i + 1)) := by
  have h' : i < (tl s).length := by rw [← tl_size]; exact h
  rw [List.drop_eq_getElem_cons h', cutD]
  rfl
theorem piece_snoc (s : ByteArray) (a i : Nat) (h1 : a ≤ i) (h : i < s.size) : ((tl s).drop a).take (i - a) ++ [s[i]] = ((tl s).drop a).take (i + 1 - a) := by
  have h' : i < (tl s).length := by rw [← tl_size]; exact h
  rw [show i + 1 - a = (i - a) + 1 by omega, List.take_add_one]
  have : ((tl s).drop a)[i - a]? = some s[i] := by
    rw [List.getElem?_drop, show a + (i - a) = i by omega]
    exact at_tl s i h
  rw [this]
  rfl

set_option maxRecDepth 100000 in
set_option maxHeartbeats 8000000 in
theorem rcut_any (s : ByteArray) (n : Nat) (w : World) (hz : s.size ≤ 2000000) (hn : n = 0 ∨ n = 4) :
    Calls Tryd.prog 27 #[.string s, .int .u8 32, .int .i64 n] w fun e w' => ∃ (ps : List ByteArray) (v : Value), e = .returned v ∧ ps.map tl = cutD n [] [] (tl s) ∧ NL es 1 9 w' w.heap.size v ps ∧ Below w.heap.size w w' := by
  have HN := hd hn
  have HZ := hd hz
  clear hn hz
  generalize hO : cutD n [] [] (tl s) = O
  have HO := hd hO
  clear hO
  go_enter Tryd.func27, Tryd.ntmps27
  go_wp2
  go_loopw [7, 8, 9] (fun v b c wr => ∃ a i : Nat, a ≤ i ∧ i ≤ s.size ∧ b = .int .i64 a ∧ c = .int .i64 i ∧ Hid (∃ ps : List ByteArray, ps.length ≤ i ∧ O = cutD n (ps.map tl) (((tl s).drop a).take (i - a)) ((tl s).drop i) ∧ NL es 1 9 wr w.heap.size v ps ∧ Below w.heap.size w wr)) (fun _ _ c _ => s.size - (intOf c).toNat)
  case atStart => exact ⟨0, 0, by omega, by omega, rfl, rfl, [], by simp, by rw [← HO.out]; simp, NL.nil _ _, Below.refl _ _⟩
  case round =>
    obtain ⟨a, i, hai, hi, rfl, rfl, HD⟩ := hrel
    obtain ⟨ps, hps⟩ := HD.out
    have HP := hd hps
    clear hps HD
    obtain ⟨la, lc, hform⟩ := HP.out.2.2.1.form
    subst hform
    obtain ⟨m, hm⟩ : ∃ m, ps.length = m := ⟨_, rfl⟩
    rw [hm] at HP ⊢
    have HM := hd hm
    clear hm
    by_cases hlt : i < s.size
    · have i1 : (i : Int) < (s.size : Int) := by omega
      have hst := cutD_step s n (ps.map tl) (((tl s).drop a).take (i - a)) i hlt
      have hsn := piece_snoc s a i hai hlt
      have HST := hd hst
      have HSN := hd hsn
      clear hst hsn
      have ew : wrap64 ((i : Int) + 1) = ((i + 1 : Nat) : Int) := by have := HZ.out; rw [wrap64]; omega
      have EW := hd ew
      clear ew
      by_cases hsp : (s[i].toNat : Int) = 32
      · by_cases hcut : n = 0 ∨ m < n - 1
        · have hgrow := grow_str (w0 := w) (u := wr) (s.extract a i) HP.out.2.2.1 HP.out.2.2.2 (Nat.le_refl _) (by have := HP.out.1; have := HZ.out; have := HM.out; omega)
          obtain ⟨v', w', hap, h1, h2⟩ := hgrow
          have Z : Hid (∃ ps : List ByteArray, ps.length ≤ i + 1 ∧ O = cutD n (ps.map tl) (((tl s).drop (i + 1)).take (i + 1 - (i + 1))) ((tl s).drop (i + 1)) ∧ NL es 1 9 w' w.heap.size v' ps ∧ Below w.heap.size w w') := by
            refine ⟨ps ++ [s.extract a i], by have := HP.out.1; have := HM.out; simp; omega, ?_, h1, h2⟩
            have h := HP.out.2.1
            have hs32 : s[i] = 32 := UInt8.toNat_inj.1 (by show s[i].toNat = 32; omega)
            rw [HST.out, if_pos ⟨hs32, by rw [List.length_map, HM.out]; exact hcut⟩] at h
            rw [h, List.map_append, List.map_cons, List.map_nil, extract_piece s a i hai (by omega)]
            simp
          have j1 : (0 : Int) ≤ (a : Int) := by omega
          have j2 : (a : Int) ≤ (i : Int) := by omega
          have j3 : (i : Int) ≤ (s.size : Int) := by omega
          clear h1 h2
          rcases HN.out with h0 | h4
          · have n1 : ((n : Int) == 0) = true := by rw [h0]; rfl
            have n2 : decide ((n : Int) = 0) = true := by rw [h0]; rfl
            have n3 : (n == 0) = true := by rw [h0]; rfl
            have n4 : decide (n = 0) = true := by rw [h0]; rfl
            have H0 := hd h0
            clear hcut h0
            go_wp2_with (at_builtin; refine wpList_append_k _ rfl _ _ 43 43 rfl _ _ rfl rfl (hap _) ?_)
            have ew := EW.out
            first
              | exact ⟨⟨i + 1, i + 1, by omega, by omega, rfl, rfl, Z⟩, by simp [intOf]; omega⟩
              | (rw [ew]; exact ⟨⟨i + 1, i + 1, by omega, by omega, rfl, rfl, Z⟩, by simp [intOf]; omega⟩)
          · have n1 : ((n : Int) == 0) = false := by rw [h4]; rfl
            have n2 : decide ((n : Int) = 0) = false := by rw [h4]; rfl
            have n3 : (n == 0) = false := by rw [h4]; rfl
            have n4 : decide (n = 0) = false := by rw [h4]; rfl
            have n5 : wrap64 ((n : Int) - 1) = 3 := by rw [h4, wrap64]; decide
            have l3 : (m : Int) < 3 := by omega
            have H4 := hd h4
            clear hcut h4
            go_wp2_with (at_builtin; refine wpList_append_k _ rfl _ _ 43 43 rfl _ _ rfl rfl (hap _) ?_)
            have ew := EW.out
            first
              | exact ⟨⟨i + 1, i + 1, by omega, by omega, rfl, rfl, Z⟩, by simp [intOf]; omega⟩
              | (rw [ew]; exact ⟨⟨i + 1, i + 1, by omega, by omega, rfl, rfl, Z⟩, by simp [intOf]; omega⟩)
        · have h4 : n = 4 := by rcases HN.out with h | h <;> omega
          have n1 : ((n : Int) == 0) = false := by rw [h4]; rfl
          have n2 : decide ((n : Int) = 0) = false := by rw [h4]; rfl
          have n3 : (n == 0) = false := by rw [h4]; rfl
          have n4 : decide (n = 0) = false := by rw [h4]; rfl
          have n5 : wrap64 ((n : Int) - 1) = 3 := by rw [h4, wrap64]; decide
          have l3 : ¬ (m : Int) < 3 := by omega
          have Z : Hid (∃ ps : List ByteArray, ps.length ≤ i + 1 ∧ O = cutD n (ps.map tl) (((tl s).drop a).take (i + 1 - a)) ((tl s).drop (i + 1)) ∧ NL es 1 9 wr w.heap.size (.slice la m lc) ps ∧ Below w.heap.size w wr) := by
            refine ⟨ps, by have := HP.out.1; have := HM.out; omega, ?_, HP.out.2.2⟩
            have h := HP.out.2.1
            rw [HST.out, if_neg (by rintro ⟨-, h⟩; rw [List.length_map, HM.out] at h; exact hcut h), HSN.out] at h
            exact h
          have H4 := hd h4
          clear hcut h4
          go_wp2
          have ew := EW.out
          first
            | exact ⟨⟨a, i + 1, by omega, by omega, rfl, rfl, Z⟩, by simp [intOf]; omega⟩
            | (rw [ew]; exact ⟨⟨a, i + 1, by omega, by omega, rfl, rfl, Z⟩, by simp [intOf]; omega⟩)
      · have Z : Hid (∃ ps : List ByteArray, ps.length ≤ i + 1 ∧ O = cutD n (ps.map tl) (((tl s).drop a).take (i + 1 - a)) ((tl s).drop (i + 1)) ∧ NL es 1 9 wr w.heap.size (.slice la m lc) ps ∧ Below w.heap.size w wr) := by
          refine ⟨ps, by have := HP.out.1; have := HM.out; omega, ?_, HP.out.2.2⟩
          have h := HP.out.2.1
          rw [HST.out, if_neg (by rintro ⟨h, -⟩; rw [h] at hsp; exact hsp rfl), HSN.out] at h
          exact h
        go_wp2
        have ew := EW.out
        first
          | exact ⟨⟨a, i + 1, by omega, by omega, rfl, rfl, Z⟩, by simp [intOf]; omega⟩
          | (rw [ew]; exact ⟨⟨a, i + 1, by omega, by omega, rfl, rfl, Z⟩, by simp [intOf]; omega⟩)
    · have i1 : ¬ (i : Int) < (s.size : Int) := by omega
      obtain rfl : i = s.size := by omega
      have j1 : (0 : Int) ≤ (a : Int) := by omega
      have j2 : (a : Int) ≤ (s.size : Int) := by omega
      obtain ⟨v', w', hap, h1, h2⟩ := grow_str (w0 := w) (u := wr) (s.extract a s.size) HP.out.2.2.1 HP.out.2.2.2 (Nat.le_refl _) (by have := HP.out.1; have := HZ.out; have := HM.out; omega)
      have Z : Hid (∃ ps : List ByteArray, ps.map tl = O ∧ NL es 1 9 w' w.heap.size v' ps ∧ Below w.heap.size w w') := by
        refine ⟨ps ++ [s.extract a s.size], ?_, h1, h2⟩
        have h := HP.out.2.1
        rw [show (tl s).drop s.size = [] from List.drop_eq_nil_of_le (by rw [← tl_size]; exact Nat.le_refl _), cutD] at h
        rw [h, List.map_append, List.map_cons, List.map_nil, extract_piece s a s.size hai (Nat.le_refl _)]
      clear h1 h2
      go_wp2_with (at_builtin; refine wpList_append_k _ rfl _ _ 43 43 rfl _ _ rfl rfl (hap _) ?_)
      go_ret
      obtain ⟨ps', hz1, hz2, hz3⟩ := Z.out
      exact ⟨ps', _, rfl, hz1, hz2, hz3⟩

end Go.Proofs.YtplmhilkehkeiaaDoor
