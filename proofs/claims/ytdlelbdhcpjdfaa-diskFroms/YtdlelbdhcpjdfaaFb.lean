/-
  DiskFroms: the walk, where a file is given.
-/
import Derived.Test.YtdlelbdhcpjdfaaFa
namespace Go.Proofs.Ytdlelbdhcpjdfaa
open Go.RowKit
set_option linter.unusedVariables false

set_option maxRecDepth 100000 in
set_option maxHeartbeats 4000000 in
theorem fromsB (a : Option Addr) (n c : Nat) (xs : List Int) (a' : Option Addr) (n' c' : Nat) (ys : List Int) (w : World) (hx : IsB w a n c xs) (hy : IsB w a' n' c' ys) (hn : n ≤ 140737488351232) (hn' : n' ≤ 140737488351232) (hb : n ≤ 262144) (hb2 : 262144 < n + n') :
    Calls Try.prog 3 #[.slice a n c, .slice a' n' c'] w fun x w' => x = .returned (.bool true) ∧ Below w.heap.size w w' := by
  obtain ⟨i0, hi, hz0, hz1, hz2⟩ := info_parts Try.info5
  have X := hd hx
  have Y := hd hy
  have hxl := hx.1
  have hyl := hy.1
  clear hx hy
  go_enter Try.func3, Try.ntmps3
  go_wp2_with fail
  refine (copied_any a n c xs _ X.out (by omega)).mono ?_
  rintro e w1 ⟨v, rfl, hN, hb1⟩
  have O1 := hd (hN.own (by omega))
  obtain ⟨g0, rfl, -, -⟩ := hN.isB (by omega)
  have B1 := hd hb1
  clear hN hb1
  have O2 : Hid ((w1.alloc (.cells #[.int .u8 250, .int .u8 251, .int .u8 252] 5)).ownsRow w.heap.size 5 1 (.slice (some ⟨g0, 0, none⟩) n n) n (ints xs)) := OwnB.below (B := w1.heap.size) O1.out ((Below.refl _ _).alloc (Nat.le_refl _) _) (Nat.le_refl _)
  have B2 := hd (B1.out.alloc B1.out.size (.cells #[.int .u8 250, .int .u8 251, .int .u8 252] 5))
  have hlt0 := hd (fun k hk => (World.ownsRow.lt O2.out k hk).1)
  clear O1
  have NW := hd (news3 w1)
  go_wp2_with (at_builtin; refine wpList_append_lies _ rfl (.tmp 11) (.tmp 12) 22 rfl w.heap.size 5 i0 (.int .u8 0) 1 1 Try.underlying22 hi hz0 hz1 hz2 rfl (by decide) (.slice (some ⟨g0, 0, none⟩) n n) n (ints xs) rfl O2.out ⟨w1.heap.size, 0, none⟩ 3 3 (ints [250, 251, 252]) rfl three_len NW.out (ints_one _) (by decide) (by unfold maxLen; omega) (by omega) (by have := B1.out.size; simp; omega) (w1.heap.size + 1) (by simp) ?_; intro g cap w3 hown hgrow hat hglt; have hcap := own_cap hown; have i1 : (n : Int) ≤ (cap : Int) := (by omega); have i3 : ¬ cap = n := (by omega))
  have R3 : Hid (RowB w3 g (n + 3) cap (xs ++ [250, 251, 252]) ∧ w.heap.size ≤ g) := rowB_of_own (by rw [show ints (xs ++ [250, 251, 252]) = ints xs ++ ints [250, 251, 252] from by simp [ints]]; exact hown)
  have B3 : Hid (Below w.heap.size w w3) := B2.out.grown hgrow (by have := B1.out.size; simp; omega) hlt0.out
  clear hown hgrow hat hglt O2 B2 NW hlt0 B1
  have IN : Hid (IsB w3 (some ⟨g, 0, none⟩) n cap xs) := by
    have := R3.out.1.isB 0 n cap (by omega) (by omega) (by omega)
    rwa [take3 xs n hxl] at this
  have i2 : (n : Int) ≤ ((n : Int) + 3) := by omega
  go_wp2_with fail
  refine (from_good _ n cap xs _ IN.out hb).mono ?_
  rintro e w4 ⟨r, ρ, rfl, hD, hb4⟩
  have D4 : Hid (DN w4 w.heap.size r ρ xs n) := ⟨hD.1, fun k hk => Nat.le_trans B3.out.size (hD.2 k hk)⟩
  have hgo : Hid (∀ k, Own r ρ k → ¬ k = g) := by
    intro k hk e
    have h1 := hD.2 k hk
    have h2 := R3.out.1.lt
    omega
  clear hD
  have R4 := hd (R3.out.1.fr (Fr.of_below hb4 : Fr (fun _ => False) w3 w4) (fun h => h))
  have hgb := hd R3.out.2
  have B4 := hd (B3.out.trans (hb4.mono B3.out.size))
  have IN4 := hd (IN.out.below hb4)
  have hgl := hd R3.out.1.lt
  clear R3 B3 IN hb4
  go_wp2_with fail
  refine (same_true _ a n cap c xs _ IN4.out (X.out.below B4.out)).mono ?_
  rintro e w5 ⟨rfl, m5, rfl⟩
  have R5 := hd (R4.out.fr (Fr.drewN (fun _ => False) w4 m5) (fun h => h))
  have B5 := hd (below_drewN B4.out m5)
  have D5 := hd (D4.out.drewN m5)
  clear R4 B4 IN4 D4
  generalize w4.drewN m5 = w5 at *
  have T5 := hd (isB3 w5)
  have al : Below w5.heap.size w5 (w5.alloc (.cells #[.int .u8 250, .int .u8 251, .int .u8 252] 5)) := (Below.refl _ _).alloc (Nat.le_refl _) _
  have R6 := hd (R5.out.fr (Fr.of_below al : Fr (fun _ => False) _ _) (fun h => h))
  have B6 := hd (B5.out.trans (al.mono B5.out.size))
  have D6 := hd (D5.out.below al)
  have TL : Hid (IsB (w5.alloc (.cells #[.int .u8 250, .int .u8 251, .int .u8 252] 5)) (some ⟨g, n, none⟩) 3 (cap - n) [250, 251, 252]) := by
    have := R6.out.isB n 3 (cap - n) (by omega) (by omega) (by omega)
    rwa [drop3 xs n hxl] at this
  clear R5 B5 al D5
  go_wp2_with fail
  refine (same_true _ _ 3 _ _ _ _ TL.out T5.out).mono ?_
  rintro e w7 ⟨rfl, m7, rfl⟩
  have O7 : Hid (Over ((w5.alloc (.cells #[.int .u8 250, .int .u8 251, .int .u8 252] 5)).drewN m7) ((w5.alloc (.cells #[.int .u8 250, .int .u8 251, .int .u8 252] 5)).drewN m7) g (n + 3) cap) := ⟨_, R6.out.fr (Fr.drewN (fun _ => False) _ m7) (fun h => h), Fr.refl _ _⟩
  have B7 := hd (below_drewN B6.out m7)
  have D7 := hd (D6.out.drewN m7)
  clear R6 B6 T5 TL D6
  generalize (w5.alloc (.cells #[.int .u8 250, .int .u8 251, .int .u8 252] 5)).drewN m7 = w7 at *
  go_wp2
  obtain ⟨N, hN⟩ : ∃ N, N = n + 3 := ⟨_, rfl⟩
  have hNi : ((n : Int) + 3) = (N : Int) := by omega
  rw [← hN] at O7
  have HN := hd hN
  clear hN
  go_loopw [9] (fun i wr => ∃ k : Nat, k ≤ N ∧ i = .int .i64 k ∧ Hid (Over w7 wr g N cap)) (fun i _ => N - (intOf i).toNat)
  case atStart => exact ⟨0, Nat.zero_le _, rfl, O7⟩
  case round =>
    obtain ⟨k, hk, rfl, hr⟩ := hrel
    by_cases hlt : k < N
    · obtain ⟨zs, hz⟩ := hr.out
      have e1 := hz.1.cell k hlt
      have e2 := hz.1.frozen k
      have HZ := hd hz
      have i4 : (k : Int) < (n : Int) + 3 := by omega
      have i5 : k < n + 3 := by have := HN.out; omega
      clear hz hr O7
      generalize zs.getD k 0 = y at *
      go_wp2
      have hNo := HN.out
      exact ⟨⟨k + 1, by omega, by go_num, Over.step zs HZ.out k hlt _⟩, by simp [intOf]; omega⟩
    · have i4 : ¬ (k : Int) < (n : Int) + 3 := by omega
      obtain ⟨zs, hz⟩ := hr.out
      have B8 := hd (B7.out.trans (hz.2.below B7.out.size (fun k hk => hk ▸ hgb.out)))
      have D8 : Hid (DN wr w.heap.size r ρ xs n) := ⟨D7.out.1.fr hz.2 hgo.out, D7.out.2⟩
      clear hz hr O7 B7 D7
      have i6 : ¬ (262144 : Int) < (n : Int) := by omega
      go_wp2_with fail
      refine (num_any _ _).mono ?_
      rintro e w9 ⟨rfl, rfl⟩
      go_wp2_with fail
      refine (size_any r ρ xs n _ D8.out.1).mono ?_
      rintro e w9 ⟨rfl, rfl⟩
      rw [hxl]
      go_wp2_with fail
      refine (synced_any r ρ xs n _ D8.out.1).mono ?_
      rintro e w9 ⟨rfl, rfl⟩
      go_wp2_with fail
      refine (bytes_any r ρ xs n _ D8.out.1).mono ?_
      rintro e w9 ⟨v9, rfl, hN9, hb9⟩
      have D9 := hd (D8.out.below hb9)
      have B9 := hd (B8.out.trans (hb9.mono B8.out.size))
      rw [hxl] at hN9
      obtain ⟨g9, rfl, -, hG⟩ := hN9.isB (by omega)
      have HG := hd hG
      clear hN9 hG hb9 D8 B8
      go_wp2_with fail
      refine (same_true _ a n n c xs _ HG.out (X.out.below B9.out)).mono ?_
      rintro e w10 ⟨rfl, m10, rfl⟩
      have D10 := hd (D9.out.drewN m10)
      have B10 := hd (below_drewN B9.out m10)
      clear D9 B9 HG
      generalize w9.drewN m10 = w10 at *
      have i7 : (262144 : Int) - (n : Int) < (n' : Int) := by omega
      go_wp2_with fail
      refine (copied_any a' n' c' ys _ (Y.out.below B10.out) (by omega)).mono ?_
      rintro e w11 ⟨v, rfl, hN, hb11⟩
      have D11 := hd (D10.out.below hb11)
      have B11 := hd (B10.out.trans (hb11.mono B10.out.size))
      obtain ⟨g11, rfl, hG, hne⟩ := newB_blk hN (by omega) r (D10.out.1.lt r (.inl rfl))
      have HG := hd hG
      have HN2 := hd hne
      clear hN hb11 hG hne D10 B10
      go_wp2_with fail
      refine (append_bad r ρ xs n _ _ _ _ D11.out.1 (by omega)).mono ?_
      rintro e w12 ⟨rfl, rfl⟩
      go_wp2_with fail
      refine (num_any _ _).mono ?_
      rintro e w12 ⟨rfl, rfl⟩
      go_wp2_with fail
      refine (bytes_any r ρ xs n _ D11.out.1).mono ?_
      rintro e w12 ⟨v12, rfl, hN12, hb12⟩
      have B12 := hd (B11.out.trans (hb12.mono B11.out.size))
      rw [hxl] at hN12
      obtain ⟨g12, rfl, -, hG12⟩ := hN12.isB (by omega)
      have HG12 := hd hG12
      clear hN12 hG12 hb12 D11 B11 HG HN2
      go_wp2_with fail
      refine (same_true _ a n n c xs _ HG12.out (X.out.below B12.out)).mono ?_
      rintro e w13 ⟨rfl, m13, rfl⟩
      have B13 := hd (below_drewN B12.out m13)
      clear B12 HG12
      generalize w12.drewN m13 = w13 at *
      go_wp2
      go_ret
      exact ⟨rfl, B13.out⟩


end Go.Proofs.Ytdlelbdhcpjdfaa
