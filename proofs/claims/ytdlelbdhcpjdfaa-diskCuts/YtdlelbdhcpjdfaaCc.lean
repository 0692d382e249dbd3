/-
  DiskCuts: the walk.
-/
import Derived.Test.YtdlelbdhcpjdfaaCa
namespace Go.Proofs.Ytdlelbdhcpjdfaa
open Go.RowKit
set_option linter.unusedVariables false

set_option maxRecDepth 100000 in
set_option maxHeartbeats 4000000 in
theorem cuts_lt (a : Option Addr) (n c : Nat) (xs : List Int) (a' : Option Addr) (m c' : Nat) (ys : List Int) (a2 : Option Addr) (l c2 : Nat) (zs : List Int) (q : Nat) (w : World) (hx : IsB w a n c xs) (hy : IsB w a' m c' ys) (hnil : a' = none → c' = 0) (hz : IsB w a2 l c2 zs) (hlb : l ≤ 140737488351232) (hn : n + m ≤ 262144) (hq : q ≤ n + m) (hqn : q < n) (hl : q + l ≤ 262144) :
    Calls Try.prog 6 #[shearVal a n c a' m c' q a2 l c2] w fun x w' => x = .returned (.bool true) ∧ Below w.heap.size w w' := by
  unfold shearVal
  obtain ⟨i0, hi, hz0, hz1, hz2⟩ := info_parts Try.info5
  have hxl := hx.1
  have hyl := hy.1
  have hzl := hz.1
  have X := hd hx
  have Y := hd hy
  have Z := hd hz
  have HNIL := hd hnil
  have j1 : ¬ (262144 : Int) < (n : Int) := by omega
  have j2 : ¬ (262144 : Int) - (n : Int) < (m : Int) := by omega
  clear hx hy hz hnil
  go_enter Try.func6, Try.ntmps6
  go_wp2
  go_quiet (fail)
  have B1 : Hid (Below w.heap.size w ((w.alloc (.cells #[.slice a n c, .slice a' m c', .int .i64 q, .slice a2 l c2] 42)).drewN nq)) := below_drewN ((Below.refl _ _).alloc (Nat.le_refl _) _) nq
  generalize (w.alloc (.cells #[.slice a n c, .slice a' m c', .int .i64 q, .slice a2 l c2] 42)).drewN nq = w1 at *
  go_wp2_with fail
  refine (born_any a n c xs _ (X.out.below B1.out) (by omega)).mono ?_
  rintro e w2 ⟨r, ρ, rfl, hD, hb⟩
  have D2 : Hid (DN w2 w.heap.size r ρ xs n) := ⟨hD.1, fun k hk => Nat.le_trans B1.out.size (hD.2 k hk)⟩
  have B2 := hd (B1.out.trans (hb.mono B1.out.size))
  clear hD hb B1
  go_wp2_with fail
  refine (copied_any a' m c' ys _ (Y.out.below B2.out) (by omega)).mono ?_
  rintro e w3 ⟨v, rfl, hN, hb⟩
  obtain ⟨g3, rfl, hG, hne⟩ := newB_blk hN (by omega) r (D2.out.1.lt r (.inl rfl))
  have D3 := hd (D2.out.below hb)
  have B3 := hd (B2.out.trans (hb.mono B2.out.size))
  have HG := hd hG
  have HN := hd hne
  clear hN hb hG hne D2 B2
  go_wp2_with fail
  refine (append_any r ρ xs n _ _ _ ys _ D3.out.1 HG.out HN.out).mono ?_
  rintro e w4 ⟨rfl, hnow⟩
  rw [appP_good ys xs n (by omega)] at hnow ⊢
  obtain ⟨ρ4, hD4, hM, hF4, hB⟩ := D3.out.now B3.out.size hnow
  have D4 := hd hD4
  simp only [] at D4
  have B4 := hd (B3.out.trans hB)
  clear hnow hD4 hM hF4 hB D3 B3 HG HN
  have hBl : Hid ((xs ++ ys).length = n + m) := by
    show _ = _
    rw [List.length_append]
    omega
  go_wp2_with fail
  refine (num_any _ _).mono ?_
  rintro e w5 ⟨rfl, rfl⟩
  go_wp2_with fail
  refine (cut_good r ρ4 (xs ++ ys) n q _ D4.out.1 (by rw [hBl.out]; omega)).mono ?_
  rintro e w6 ⟨rfl, hD, hF⟩
  rw [show min n q = q from by omega] at hD
  have D6 : Hid (DN w6 w.heap.size r ρ4 ((xs ++ ys).take q) q) := ⟨hD, D4.out.2⟩
  have B6 := hd (B4.out.trans (hF.below B4.out.size (fun i hi => hi ▸ D4.out.2 r (.inl rfl))))
  clear hD hF D4 B4
  have hSl : Hid (((xs ++ ys).take q).length = q) := by
    show _ = _
    rw [List.length_take, hBl.out]
    omega
  have hqi : ¬ (n : Int) + (m : Int) < (q : Int) := by omega
  have qs : (q : Int) < (n : Int) := by omega
  go_wp2_with fail
  refine (num_any _ _).mono ?_
  rintro e w7 ⟨rfl, rfl⟩
  go_wp2_with fail
  refine (size_any r ρ4 _ q _ D6.out.1).mono ?_
  rintro e w7 ⟨rfl, rfl⟩
  rw [hSl.out]
  go_wp2_with fail
  refine (synced_any r ρ4 _ q _ D6.out.1).mono ?_
  rintro e w7 ⟨rfl, rfl⟩
  go_wp2_with fail
  refine (copied_any a n c xs _ (X.out.below B6.out) (by omega)).mono ?_
  rintro e w7 ⟨v, rfl, hN, hb⟩
  have O7 := hd (hN.own (by omega))
  obtain ⟨g7, rfl, -, -⟩ := hN.isB (by omega)
  have B67 := hd hb
  have D7 := hd (D6.out.below hb)
  have B7 := hd (B6.out.trans (hb.mono B6.out.size))
  have Y7 := hd (Y.out.below B7.out)
  have L6 := hd D6.out.1.lt
  clear hN hb
  go_wp2_with (at_builtin; refine wpList_append_b _ rfl (.tmp 102) (.tmp 103) 22 rfl w6.heap.size i0 Try.underlying22 hi hz0 hz1 hz2 g7 n xs rfl O7 a' m c' ys rfl Y7 HNIL.out (by omega) w6 B67 B67.out.size ?_; intro g cap w8 R8 hcap1 hcap2)
  have hgo : Hid (∀ k, Own r ρ4 k → ¬ k = g) := by
    intro k hk e
    have h1 := L6.out k hk
    have h2 := R8.out.2.1
    omega
  have D8 := hd (D6.out.below R8.out.2.2)
  have B8 := hd (B6.out.trans (R8.out.2.2.mono B6.out.size))
  have hgb : Hid (w.heap.size ≤ g) := Nat.le_trans B6.out.size R8.out.2.1
  have W8 := hd R8.out.1
  clear O7 Y7 D6 D7 B6 B7 B67 R8 L6
  have D9 := hd (D8.out.drewN 1)
  have W9 := hd (W8.out.fr (Fr.drewN (fun _ => False) w8 1) (fun h => h))
  have B9 := hd (below_drewN B8.out 1)
  have qi1 : (q : Int) ≤ (cap : Int) := by omega
  have si1 : (q : Int) ≤ (cap : Int) := by omega
  clear D8 W8 B8
  go_region_held3 (fun _ => True) (trivial) (first | (go_at_call 15; refine (bytes_any r ρ4 _ q _ D9.out.1).mono ?_; rintro e w10 ⟨v10, rfl, hN10, hb10⟩; rw [hSl.out] at hN10; obtain ⟨g10, rfl, -, hG10⟩ := hN10.isB (by omega); have HG10 := hd hG10; have D10 := hd (D9.out.below hb10); have W10 := hd (W9.out.fr (Fr.of_below hb10 : Fr (fun _ => False) _ _) (fun h => h)); have B10 := hd (B9.out.trans (hb10.mono B9.out.size)); have A10 := hd (W10.out.isB 0 q cap (by omega) (by omega) hcap2); clear hN10 hb10 hG10) | (go_at_call 11; refine (same_true _ _ q q cap _ _ HG10.out A10.out).mono ?_; rintro e w11 ⟨rfl, m11, rfl⟩))
  have D11 := hd (D10.out.drewN m11)
  have W11 := hd (W10.out.fr (Fr.drewN (fun _ => False) w10 m11) (fun h => h))
  have B11 := hd (below_drewN B10.out m11)
  clear D9 W9 B9 D10 W10 B10 HG10 A10
  generalize w10.drewN m11 = w11 at *
  have qi2 : ¬ (262144 : Int) - (q : Int) < (l : Int) := by omega
  go_wp2_with fail
  refine (copied_any a2 l c2 zs _ (Z.out.below B11.out) (by omega)).mono ?_
  rintro e w12 ⟨v, rfl, hN, hb⟩
  obtain ⟨g12, rfl, hG, hne⟩ := newB_blk hN (by omega) r (D11.out.1.lt r (.inl rfl))
  have D12 := hd (D11.out.below hb)
  have B12 := hd (B11.out.trans (hb.mono B11.out.size))
  have W12 := hd (W11.out.fr (Fr.of_below hb : Fr (fun _ => False) _ _) (fun h => h))
  have HG := hd hG
  have HN := hd hne
  clear hN hb hG hne D11 B11 W11
  go_wp2_with fail
  refine (append_any r ρ4 _ q _ _ _ zs _ D12.out.1 HG.out HN.out).mono ?_
  rintro e w14 ⟨rfl, hnow⟩
  rw [appP_good zs _ _ (by rw [hSl.out]; omega)] at hnow ⊢
  obtain ⟨ρ14, hD14, hM, hF14, hB⟩ := D12.out.now B12.out.size hnow
  have D14 := hd hD14
  simp only [] at D14
  have B14 := hd (B12.out.trans hB)
  have W14 := hd (W12.out.fr hF14 (fun hk => hgo.out g hk rfl))
  have hgr : Hid (¬ g = r) := fun e => hgo.out r (.inl rfl) e.symm
  clear hnow hD14 hM hF14 hB D12 B12 W12 HG HN
  have hFL : Hid (((xs ++ ys).take q ++ zs).length = q + l) := by
    show _ = _
    rw [List.length_append, hSl.out]
    omega
  have hFt : Hid (((xs ++ ys).take q ++ zs).take q = ((xs ++ ys).drop 0).take q) := by
    show _ = _
    rw [take_pre _ _ _ hSl.out, List.drop_zero]
  have hFd := hd (drop_pre ((xs ++ ys).take q) zs q hSl.out)
  have hFs : Hid (((xs ++ ys).take q ++ zs).take q = ((xs ++ ys).drop 0).take q) := by
    show _ = _
    rw [List.take_append_of_le_length (by rw [hSl.out]; omega), List.take_take, Nat.min_eq_left (by omega), List.drop_zero]
  have hFl : Hid ((((xs ++ ys).drop 0).take q).length = q) := by
    show _ = _
    rw [List.drop_zero, List.length_take, hBl.out]
    omega
  generalize (xs ++ ys).take q ++ zs = Fs at *
  go_wp2_with fail
  refine (num_any _ _).mono ?_
  rintro e w15 ⟨rfl, rfl⟩
  go_wp2_with fail
  refine (bytes_any r ρ14 Fs q _ D14.out.1).mono ?_
  rintro e w15 ⟨v, rfl, hN, hb⟩
  rw [hFL.out] at hN
  obtain ⟨g15, rfl, hG, hC⟩ := newB_cut hN (by omega)
  have D15 := hd (D14.out.below hb)
  have B15 := hd (B14.out.trans (hb.mono B14.out.size))
  have W15 := hd (W14.out.fr (Fr.of_below hb : Fr (fun _ => False) _ _) (fun h => h))
  have A15 := hd (W15.out.isB 0 q cap (by omega) (by omega) hcap2)
  have HG15 := hd hG
  have HC15 := hd hC
  clear hN hb hG hC D14 B14 W14
  by_cases hl0 : l = 0
  · subst hl0
    go_wp2_with fail
    refine (begins_true _ _ (q + 0) q (q + 0) cap _ _ _ HG15.out A15.out hFt.out (by omega)).mono ?_
    rintro e w16 ⟨rfl, m16, rfl⟩
    have D16 := hd (D15.out.drewN m16)
    have W16 := hd (W15.out.fr (Fr.drewN (fun _ => False) w15 m16) (fun h => h))
    have B16 := hd (below_drewN B15.out m16)
    have T16 : Hid (IsB (w15.drewN m16) (some ⟨g15, 0, none⟩) 0 0 zs) := by
      have := (HC15.out q (by omega)).below (below_drewN (Below.refl _ _) m16)
      rw [hFd.out, show q + 0 - q = 0 from by omega] at this
      exact ⟨this.1, Nat.le_refl _, by omega, fun h => by omega⟩
    clear D15 W15 B15 HG15 A15 HC15
    generalize w15.drewN m16 = w16 at *
    go_wp2_with fail
    refine (same_true _ a2 0 _ c2 zs _ T16.out (Z.out.below B16.out)).mono ?_
    rintro e w17 ⟨rfl, m17, rfl⟩
    have D17 := hd (D16.out.drewN m17)
    have W17 := hd (W16.out.fr (Fr.drewN (fun _ => False) w16 m17) (fun h => h))
    have B17 := hd (below_drewN B16.out m17)
    clear D16 W16 B16 T16
    generalize w16.drewN m17 = w17 at *
    go_wp2_with fail
    refine (synced_any r ρ14 _ q _ D17.out.1).mono ?_
    rintro e w18 ⟨rfl, rfl⟩
    have D18 := hd (D17.out.drewN 1)
    have W18 := hd (W17.out.fr (Fr.drewN (fun _ => False) w17 1) (fun h => h))
    have B18 := hd (below_drewN B17.out 1)
    clear D17 W17 B17
    go_wp2_with fail
    go_region_held3 (fun _ => True) (trivial) (first | (go_at_call 17; refine (crash_plain r ρ14 _ q 0 0 _ D18.out.1 (by omega)).mono ?_; rintro e w19 ⟨rfl, hD19, hF19⟩; rw [Nat.add_zero, hFs.out] at hD19; have D19 := hd hD19; have W19 := hd (W18.out.fr hF19 (fun e => hgr.out e)); have B19 := hd (B18.out.trans (hF19.below B18.out.size (fun i hi => hi ▸ D18.out.2 r (.inl rfl)))); clear hD19 hF19) | (go_at_call 12; refine (num_any _ _).mono ?_; rintro e w19 ⟨rfl, rfl⟩) | (go_at_call 15; refine (bytes_any r ρ14 _ q _ D19.out).mono ?_; rintro e w20 ⟨v20, rfl, hN20, hb20⟩; rw [hFl.out] at hN20; obtain ⟨g20, rfl, -, hG20⟩ := hN20.isB (by omega); have HG20 := hd hG20; have W20 := hd (W19.out.fr (Fr.of_below hb20 : Fr (fun _ => False) _ _) (fun h => h)); have B20 := hd (B19.out.trans (hb20.mono B19.out.size)); have A20 := hd (W20.out.isB 0 q cap (by omega) (by omega) hcap2); clear hN20 hb20 hG20) | (go_at_call 11; refine (same_true _ _ q q cap _ _ HG20.out A20.out).mono ?_; rintro e w21 ⟨rfl, m21, rfl⟩))
    have B21 := hd (below_drewN B20.out m21)
    clear D18 W18 B18 D19 W19 B19 HG20 W20 B20 A20
    generalize w20.drewN m21 = w21 at *
    go_wp2
    go_ret
    exact ⟨rfl, B21.out⟩
  · have k1 : ¬ q + l = q := by omega
    have k0 : (q : Int) ≤ (q : Int) + (l : Int) := by omega
    have k2 : q + l - q = l := by omega
    go_wp2_with fail
    refine (begins_true _ _ (q + l) q (q + l) cap _ _ _ HG15.out A15.out hFt.out (by omega)).mono ?_
    rintro e w16 ⟨rfl, m16, rfl⟩
    have D16 := hd (D15.out.drewN m16)
    have W16 := hd (W15.out.fr (Fr.drewN (fun _ => False) w15 m16) (fun h => h))
    have B16 := hd (below_drewN B15.out m16)
    have T16 : Hid (IsB (w15.drewN m16) (some ⟨g15, q, none⟩) l l zs) := by
      have := (HC15.out q (by omega)).below (below_drewN (Below.refl _ _) m16)
      rw [hFd.out, show q + l - q = l from by omega] at this
      exact this
    clear D15 W15 B15 HG15 A15 HC15
    generalize w15.drewN m16 = w16 at *
    go_wp2_with fail
    refine (same_true _ a2 l _ c2 zs _ T16.out (Z.out.below B16.out)).mono ?_
    rintro e w17 ⟨rfl, m17, rfl⟩
    have D17 := hd (D16.out.drewN m17)
    have W17 := hd (W16.out.fr (Fr.drewN (fun _ => False) w16 m17) (fun h => h))
    have B17 := hd (below_drewN B16.out m17)
    clear D16 W16 B16 T16
    generalize w16.drewN m17 = w17 at *
    go_wp2_with fail
    refine (synced_any r ρ14 _ q _ D17.out.1).mono ?_
    rintro e w18 ⟨rfl, rfl⟩
    have D18 := hd (D17.out.drewN 1)
    have W18 := hd (W17.out.fr (Fr.drewN (fun _ => False) w17 1) (fun h => h))
    have B18 := hd (below_drewN B17.out 1)
    clear D17 W17 B17
    go_wp2_with fail
    go_region_held3 (fun _ => True) (trivial) (first | (go_at_call 17; refine (crash_plain r ρ14 _ q 0 0 _ D18.out.1 (by omega)).mono ?_; rintro e w19 ⟨rfl, hD19, hF19⟩; rw [Nat.add_zero, hFs.out] at hD19; have D19 := hd hD19; have W19 := hd (W18.out.fr hF19 (fun e => hgr.out e)); have B19 := hd (B18.out.trans (hF19.below B18.out.size (fun i hi => hi ▸ D18.out.2 r (.inl rfl)))); clear hD19 hF19) | (go_at_call 12; refine (num_any _ _).mono ?_; rintro e w19 ⟨rfl, rfl⟩) | (go_at_call 15; refine (bytes_any r ρ14 _ q _ D19.out).mono ?_; rintro e w20 ⟨v20, rfl, hN20, hb20⟩; rw [hFl.out] at hN20; obtain ⟨g20, rfl, -, hG20⟩ := hN20.isB (by omega); have HG20 := hd hG20; have W20 := hd (W19.out.fr (Fr.of_below hb20 : Fr (fun _ => False) _ _) (fun h => h)); have B20 := hd (B19.out.trans (hb20.mono B19.out.size)); have A20 := hd (W20.out.isB 0 q cap (by omega) (by omega) hcap2); clear hN20 hb20 hG20) | (go_at_call 11; refine (same_true _ _ q q cap _ _ HG20.out A20.out).mono ?_; rintro e w21 ⟨rfl, m21, rfl⟩))
    have B21 := hd (below_drewN B20.out m21)
    clear D18 W18 B18 D19 W19 B19 HG20 W20 B20 A20
    generalize w20.drewN m21 = w21 at *
    go_wp2
    go_ret
    exact ⟨rfl, B21.out⟩

end Go.Proofs.Ytdlelbdhcpjdfaa
