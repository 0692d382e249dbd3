/-
  DiskFull: the walk.
-/
import Derived.Test.YtdlelbdhcpjdfaaLd
namespace Go.Proofs.Ytdlelbdhcpjdfaa
open Go.RowKit
set_option linter.unusedVariables false

theorem isB_empty (w : World) (a : Option Addr) : IsB w a 0 0 [] := ⟨rfl, Nat.le_refl _, by omega, fun h => by omega⟩

theorem two_get (F q : Nat) (c z : Int) (k : Nat) (hk : k < F + q) : (List.replicate F c ++ List.replicate q z).getD k 0 = if k < F then c else z := by
  simp only [List.getD, List.getElem?_append, List.length_replicate]
  split
  · simp [*]
  · rw [List.getElem?_replicate, if_pos (by omega)]
    rfl

set_option maxRecDepth 100000 in
set_option maxHeartbeats 4000000 in
theorem full_in (q F M : Nat) (c z : Int) (w : World) (hq : q ≤ 262144) (hF : (262144 : Int) - (q : Int) = (F : Int)) (hz : z = (c + 1) % 256) (hM : M = 262144) :
    Calls Try.prog 4 #[.int .i64 q, .int .u8 c] w fun x w' => x = .returned (.bool true) ∧ Below w.heap.size w w' := by
  have HM := hd hM
  have hFn : Hid (F + q = 262144) := by
    show _ = _
    omega
  have hFl : F ≤ 262144 := by omega
  have i0 : ¬ (262144 : Int) < (q : Int) := by omega
  clear hM
  go_enter Try.func4, Try.ntmps4
  go_wp2_with fail
  refine (filled_nat F c _ (by omega)).mono ?_
  rintro e w1 ⟨v, rfl, hN, hb⟩
  obtain ⟨g1, rfl, -, hG⟩ := hN.isB (by omega)
  have HG := hd hG
  have B1 := hd hb
  clear hN hb hG
  go_wp2_with fail
  refine (born_any _ F F _ _ HG.out hFl).mono ?_
  rintro e w2 ⟨r, ρ, rfl, hD, hb⟩
  have D2 : Hid (DN w2 w.heap.size r ρ (List.replicate F c) F) := ⟨hD.1, fun k hk => Nat.le_trans B1.out.size (hD.2 k hk)⟩
  have B2 := hd (B1.out.trans (hb.mono B1.out.size))
  clear hD hb HG B1
  have HZ := hd hz
  clear hz
  go_wp2_with fail
  rw [← HZ.out]
  refine (filled_nat (q + 1) z _ (by omega)).mono ?_
  rintro e w3 ⟨v, rfl, hN, hb⟩
  obtain ⟨g3, rfl, hG, hne⟩ := newB_blk hN (by omega) r (D2.out.1.lt r (.inl rfl))
  have D3 := hd (D2.out.below hb)
  have B3 := hd (B2.out.trans (hb.mono B2.out.size))
  clear hN hb hG hne D2 B2
  have hl3 : Hid ((List.replicate F c).length = F) := rep_len F c
  go_wp2_with fail
  refine (append_bad r ρ _ F _ _ _ _ D3.out.1 (by have := hFn.out; rw [hl3.out]; omega)).mono ?_
  rintro e w4 ⟨rfl, rfl⟩
  go_wp2_with fail
  refine (num_any _ _).mono ?_
  rintro e w4 ⟨rfl, rfl⟩
  go_wp2_with fail
  refine (size_any r ρ _ F _ D3.out.1).mono ?_
  rintro e w4 ⟨rfl, rfl⟩
  rw [hl3.out]
  go_wp2_with fail
  rw [← HZ.out]
  refine (filled_nat q z _ (by omega)).mono ?_
  rintro e w4 ⟨v, rfl, hN, hb⟩
  obtain ⟨g4, rfl, hG, hne⟩ := newB_blk hN (by omega) r (D3.out.1.lt r (.inl rfl))
  have D4 := hd (D3.out.below hb)
  have B4 := hd (B3.out.trans (hb.mono B3.out.size))
  have HG := hd hG
  have HN := hd hne
  clear hN hb hG hne D3 B3
  go_wp2_with fail
  refine (append_any r ρ _ F _ _ _ _ _ D4.out.1 HG.out HN.out).mono ?_
  rintro e w5 ⟨rfl, hnow⟩
  rw [appP_good _ _ _ (by rw [rep_len, rep_len]; have := hFn.out; omega)] at hnow ⊢
  obtain ⟨ρ5, hD5, hM, hF5, hB⟩ := D4.out.now B4.out.size hnow
  have D5 := hd hD5
  simp only [] at D5
  have B5 := hd (B4.out.trans hB)
  clear hnow hD5 hM hF5 hB D4 B4 HG HN
  have hl5 : Hid ((List.replicate F c ++ List.replicate q z).length = M) := by
    rw [List.length_append, rep_len, rep_len, HM.out]
    exact hFn.out
  have hg5 := hd (two_get F q c z)
  generalize List.replicate F c ++ List.replicate q z = Bs at *
  have hMi : (M : Int) = 262144 := by have := HM.out; omega
  go_wp2_with fail
  refine (num_any _ _).mono ?_
  rintro e w6 ⟨rfl, rfl⟩
  go_wp2_with fail
  refine (size_any r ρ5 _ F _ D5.out.1).mono ?_
  rintro e w6 ⟨rfl, rfl⟩
  rw [hl5.out, hMi]
  have al : Below w5.heap.size w5 (w5.alloc (.cells #[.int .u8 c] 5)) := (Below.refl _ _).alloc (Nat.le_refl _) _
  have D6 := hd (D5.out.below al)
  have B6 := hd (B5.out.trans (al.mono B5.out.size))
  clear al D5 B5
  go_wp2_with fail
  refine (append_bad r ρ5 _ F _ _ _ _ D6.out.1 (by rw [hl5.out]; omega)).mono ?_
  rintro e w7 ⟨rfl, rfl⟩
  go_wp2_with fail
  refine (num_any _ _).mono ?_
  rintro e w7 ⟨rfl, rfl⟩
  go_wp2_with fail
  refine (append_any r ρ5 _ F _ _ _ _ _ D6.out.1 (isB_empty _ none) (fun h => by omega)).mono ?_
  rintro e w7 ⟨rfl, hnow⟩
  rw [appP_good _ _ _ (by rw [hl5.out]; simp; omega)] at hnow ⊢
  obtain ⟨ρ7, hD7, hM, hF7, hB⟩ := D6.out.now B6.out.size hnow
  have D7 := hd hD7
  simp only [List.append_nil] at D7
  have B7 := hd (B6.out.trans hB)
  clear hnow hD7 hM hF7 hB D6 B6
  go_wp2_with fail
  refine (num_any _ _).mono ?_
  rintro e w8 ⟨rfl, rfl⟩
  have al : Below w7.heap.size w7 (w7.alloc (.cells #[] 5)) := (Below.refl _ _).alloc (Nat.le_refl _) _
  have D8 := hd (D7.out.below al)
  have B8 := hd (B7.out.trans (al.mono B7.out.size))
  clear al D7 B7
  go_wp2_with fail
  refine (append_any r ρ7 _ F _ _ _ _ _ D8.out.1 (isB_empty _ _) (fun h => by omega)).mono ?_
  rintro e w9 ⟨rfl, hnow⟩
  rw [appP_good _ _ _ (by rw [hl5.out]; simp; omega)] at hnow ⊢
  obtain ⟨ρ9, hD9, hM, hF9, hB⟩ := D8.out.now B8.out.size hnow
  have D9 := hd hD9
  simp only [List.append_nil] at D9
  have B9 := hd (B8.out.trans hB)
  clear hnow hD9 hM hF9 hB D8 B8
  go_wp2_with fail
  refine (num_any _ _).mono ?_
  rintro e w10 ⟨rfl, rfl⟩
  go_wp2_with fail
  refine (bytes_any r ρ9 Bs F _ D9.out.1).mono ?_
  rintro e w10 ⟨v, rfl, hN, hb⟩
  rw [hl5.out] at hN
  obtain ⟨g10, rfl, hgb, hG⟩ := hN.isB (by have := HM.out; omega)
  have D10 := hd (D9.out.below hb)
  have B10 := hd (B9.out.trans (hb.mono B9.out.size))
  have HG := hd hG
  clear hN hb hG D9 B9
  go_wp2_with fail
  refine (synced_any r ρ9 Bs F _ D10.out.1).mono ?_
  rintro e w11 ⟨rfl, rfl⟩
  clear hMi
  go_wp2
  go_loopw [8] (fun i wr => ∃ k : Nat, k ≤ M ∧ i = .int .i64 k ∧ wr = w10) (fun i _ => M - (intOf i).toNat)
  case atStart => exact ⟨0, Nat.zero_le _, rfl, rfl⟩
  case round =>
    obtain ⟨k, hk, rfl, rfl⟩ := hrel
    by_cases hlt : k < M
    · obtain ⟨b, off, e, hb, hc⟩ := HG.out.2.2.2 (by omega)
      have e2 := Option.some.inj e
      simp at e2
      obtain ⟨rfl, rfl⟩ := e2
      have e1 := hc k hlt
      rw [hg5.out k (by have := hFn.out; have := HM.out; omega), Nat.zero_add] at e1
      have i1 : (k : Int) < (M : Int) := by omega
      have hml : M ≤ 262144 := by have := HM.out; omega
      clear hc e HG
      by_cases hkF : k < F
      · rw [if_pos hkF] at e1
        have i2 : (k : Int) < (F : Int) := by omega
        have i3 : ¬ (F : Int) ≤ (k : Int) := by omega
        go_wp2
        exact ⟨⟨k + 1, by omega, by go_num, trivial⟩, by simp [intOf]; omega⟩
      · rw [if_neg hkF, HZ.out] at e1
        have i2 : ¬ (k : Int) < (F : Int) := by omega
        go_wp2
        exact ⟨⟨k + 1, by omega, by go_num, trivial⟩, by simp [intOf]; omega⟩
    · have i1 : ¬ (k : Int) < (M : Int) := by omega
      go_wp2
      go_ret
      exact ⟨rfl, B10.out⟩

set_option maxRecDepth 100000 in
theorem full_out (q c : Int) (w : World) (h : q < 0 ∨ 262144 < q) :
    Calls Try.prog 4 #[.int .i64 q, .int .u8 c] w fun x w' => x = .returned (.bool true) ∧ Below w.heap.size w w' := by
  by_cases h0 : q < 0
  · clear h
    go_enter Try.func4, Try.ntmps4
    go_wp2
    go_ret
    exact ⟨rfl, Below.refl _ _⟩
  · have h1 : 262144 < q := by omega
    clear h
    go_enter Try.func4, Try.ntmps4
    go_wp2
    go_ret
    exact ⟨rfl, Below.refl _ _⟩

theorem full_any (q c : Int) (w : World) : Calls Try.prog 4 #[.int .i64 q, .int .u8 c] w fun x w' => x = .returned (.bool true) ∧ Below w.heap.size w w' := by
  by_cases h : q < 0 ∨ 262144 < q
  · exact full_out q c w h
  · obtain ⟨n, rfl⟩ := Int.eq_ofNat_of_zero_le (show 0 ≤ q by omega)
    exact full_in n (262144 - n) 262144 c _ w (by omega) (by omega) rfl rfl

end Go.Proofs.Ytdlelbdhcpjdfaa
