/-
  DiskTail: the walk.
-/
import Derived.Test.YtdlelbdhcpjdfaaLd
namespace Go.Proofs.Ytdlelbdhcpjdfaa
open Go.RowKit
set_option linter.unusedVariables false

def crashVal (a : Option Addr) (n c : Nat) (a' : Option Addr) (m c' : Nat) (keep at_ mask : Int) : Value := .agg #[.slice a n c, .slice a' m c', .int .i64 keep, .int .i64 at_, .int .i64 mask]

theorem take_pre (xs ys : List Int) (n : Nat) (h : xs.length = n) : (xs ++ ys).take n = xs := by rw [← h, List.take_left]
theorem drop_pre (xs ys : List Int) (n : Nat) (h : xs.length = n) : (xs ++ ys).drop n = ys := by rw [← h, List.drop_left]

/-- The part of a list that is a block of its own. -/
theorem newB_cut {w : World} {base : Nat} {v : Value} {n : Nat} {xs : List Int} (h : NewB w base v n xs) (hn : n ≤ 9223372036854775807) : ∃ g, v = .slice (some ⟨g, 0, none⟩) n n ∧ IsB w (some ⟨g, 0, none⟩) n n xs ∧ ∀ o, o ≤ n → IsB w (some ⟨g, o, none⟩) (n - o) (n - o) (xs.drop o) := by
  obtain ⟨g, rfl, hb, hg, hl⟩ := h
  refine ⟨g, rfl, ?_, fun o ho => ?_⟩
  · have := isB_of_block hg 0 n n (by omega) (Nat.le_refl _) hn
    rw [List.drop_zero, List.take_of_length_le (by omega)] at this
    exact this
  · have := isB_of_block hg o (n - o) (n - o) (by omega) (Nat.le_refl _) (by omega)
    rw [List.take_of_length_le (by simp; omega)] at this
    exact this

set_option maxRecDepth 100000 in
set_option maxHeartbeats 4000000 in
theorem tail_keep (a : Option Addr) (n c : Nat) (xs : List Int) (a' : Option Addr) (m c' : Nat) (ys : List Int) (keep at_ mask : Int) (w : World) (hx : IsB w a n c xs) (hy : IsB w a' m c' ys) (hn : n + m ≤ 262144) (hk : keep < 0 ∨ (m : Int) < keep) :
    Calls Try.prog 5 #[crashVal a n c a' m c' keep at_ mask] w fun x w' => x = .returned (.bool true) ∧ Below w.heap.size w w' := by
  unfold crashVal
  have hxl := hx.1
  have hyl := hy.1
  have al : Below w.heap.size w (w.alloc (.cells #[.slice a n c, .slice a' m c', .int .i64 keep, .int .i64 at_, .int .i64 mask] 39)) := (Below.refl _ _).alloc (Nat.le_refl _) _
  have B1 := hd (below_drewN al 1)
  have X := hd hx
  have Y := hd hy
  have j1 : ¬ (262144 : Int) < (n : Int) := by omega
  have j2 : ¬ (262144 : Int) - (n : Int) < (m : Int) := by omega
  clear hx hy al
  go_enter Try.func5, Try.ntmps5
  go_wp2
  go_quiet (fail)
  have B1 : Hid (Below w.heap.size w ((w.alloc (.cells #[.slice a n c, .slice a' m c', .int .i64 keep, .int .i64 at_, .int .i64 mask] 39)).drewN nq)) := below_drewN ((Below.refl _ _).alloc (Nat.le_refl _) _) nq
  generalize (w.alloc (.cells #[.slice a n c, .slice a' m c', .int .i64 keep, .int .i64 at_, .int .i64 mask] 39)).drewN nq = w1 at *
  go_wp2_with fail
  refine (born_any a n c xs _ (X.out.below B1.out) (by omega)).mono ?_
  rintro e w2 ⟨r, ρ, rfl, hD, hb⟩
  have D2 : Hid (DN w2 w.heap.size r ρ xs n) := ⟨hD.1, fun k hk => Nat.le_trans B1.out.size (hD.2 k hk)⟩
  have B2 := hd (B1.out.trans (hb.mono B1.out.size))
  clear hD hb B1
  go_wp2_with fail
  refine (copied_any a' m c' ys _ (Y.out.below B2.out) (by omega)).mono ?_
  rintro e w3 ⟨v, rfl, hN, hb⟩
  obtain ⟨g3, rfl, hG, hne⟩ := newB_blk hN (by omega) r (D2.out.1.lt r (.inl rfl))
  have D3 := hd (D2.out.below hb)
  have B3 := hd (B2.out.trans (hb.mono B2.out.size))
  have HG := hd hG
  have HN := hd hne
  clear hN hb hG hne D2 B2
  go_wp2_with fail
  refine (append_any r ρ xs n _ _ _ ys _ D3.out.1 HG.out HN.out).mono ?_
  rintro e w4 ⟨rfl, hnow⟩
  rw [appP_good ys xs n (by omega)] at hnow ⊢
  obtain ⟨ρ4, hD4, hM, hF4, hB⟩ := D3.out.now B3.out.size hnow
  have D4 := hd hD4
  simp only [] at D4
  have B4 := hd (B3.out.trans hB)
  clear hnow hD4 hM hF4 hB D3 B3 HG HN
  have hBl : Hid ((xs ++ ys).length = n + m) := by
    show _ = _
    rw [List.length_append]
    omega
  have hBt := hd (take_pre xs ys n hxl)
  have hBd := hd (drop_pre xs ys n hxl)
  go_wp2_with fail
  refine (num_any _ _).mono ?_
  rintro e w5 ⟨rfl, rfl⟩
  go_wp2_with fail
  refine (crash_keep r ρ4 (xs ++ ys) n keep at_ mask _ D4.out.1 (by rw [hBl.out]; omega)).mono ?_
  rintro e w6 ⟨rfl, m6, rfl⟩
  have D6 := hd (D4.out.drewN m6)
  have B6 := hd (below_drewN B4.out m6)
  clear D4 B4
  generalize w4.drewN m6 = w6 at *
  go_wp2_with fail
  refine (num_any _ _).mono ?_
  rintro e w7 ⟨rfl, rfl⟩
  go_wp2_with fail
  refine (bytes_any r ρ4 (xs ++ ys) n _ D6.out.1).mono ?_
  rintro e w7 ⟨v, rfl, hN, hb⟩
  rw [hBl.out] at hN
  obtain ⟨g7, rfl, hG, hC⟩ := newB_cut hN (by omega)
  have D7 := hd (D6.out.below hb)
  have B7 := hd (B6.out.trans (hb.mono B6.out.size))
  have HG := hd hG
  have HC := hd hC
  clear hN hb hG hC D6 B6
  have kk : (decide (keep < 0) || decide ((m : Int) < keep)) = true := by simpa using hk
  by_cases hk0 : keep < 0
  · clear hk kk
    by_cases hm0 : m = 0
    · subst hm0
      go_wp2_with fail
      refine (synced_any r ρ4 (xs ++ ys) n _ D7.out.1).mono ?_
      rintro e w8 ⟨rfl, rfl⟩
      go_wp2_with fail
      refine (begins_true _ a (n + 0) n (n + 0) c (xs ++ ys) xs _ HG.out (X.out.below B7.out) hBt.out (by omega)).mono ?_
      rintro e w8 ⟨rfl, m8, rfl⟩
      have B8 := hd (below_drewN B7.out m8)
      have TL : Hid (IsB (w7.drewN m8) (some ⟨g7, 0, none⟩) 0 0 ys) := by
        have := (HC.out n (by omega)).below (below_drewN (Below.refl _ _) m8)
        rw [hBd.out, show n + 0 - n = 0 from by omega] at this
        exact ⟨this.1, Nat.le_refl _, by omega, fun h => by omega⟩
      clear B7 HG HC D7
      generalize w7.drewN m8 = w8 at *
      go_wp2_with fail
      refine (same_true _ a' 0 _ c' ys _ TL.out (Y.out.below B8.out)).mono ?_
      rintro e w9 ⟨rfl, m9, rfl⟩
      have B9 := hd (below_drewN B8.out m9)
      clear B8 TL
      generalize w8.drewN m9 = w9 at *
      go_wp2
      go_ret
      exact ⟨rfl, B9.out⟩
    · have k1 : ¬ n + m = n := by omega
      have k0 : (n : Int) ≤ (n : Int) + (m : Int) := by omega
      have k2 : n + m - n = m := by omega
      go_wp2_with fail
      refine (synced_any r ρ4 (xs ++ ys) n _ D7.out.1).mono ?_
      rintro e w8 ⟨rfl, rfl⟩
      go_wp2_with fail
      refine (begins_true _ a (n + m) n (n + m) c (xs ++ ys) xs _ HG.out (X.out.below B7.out) hBt.out (by omega)).mono ?_
      rintro e w8 ⟨rfl, m8, rfl⟩
      have B8 := hd (below_drewN B7.out m8)
      have TL : Hid (IsB (w7.drewN m8) (some ⟨g7, n, none⟩) m m ys) := by
        have := (HC.out n (by omega)).below (below_drewN (Below.refl _ _) m8)
        rw [hBd.out, show n + m - n = m from by omega] at this
        exact this
      clear B7 HG HC D7
      generalize w7.drewN m8 = w8 at *
      go_wp2_with fail
      refine (same_true _ a' m _ c' ys _ TL.out (Y.out.below B8.out)).mono ?_
      rintro e w9 ⟨rfl, m9, rfl⟩
      have B9 := hd (below_drewN B8.out m9)
      clear B8 TL
      generalize w8.drewN m9 = w9 at *
      go_wp2
      go_ret
      exact ⟨rfl, B9.out⟩
  · have hk1 : (m : Int) < keep := by omega
    clear hk kk
    by_cases hm0 : m = 0
    · subst hm0
      go_wp2_with fail
      refine (synced_any r ρ4 (xs ++ ys) n _ D7.out.1).mono ?_
      rintro e w8 ⟨rfl, rfl⟩
      go_wp2_with fail
      refine (begins_true _ a (n + 0) n (n + 0) c (xs ++ ys) xs _ HG.out (X.out.below B7.out) hBt.out (by omega)).mono ?_
      rintro e w8 ⟨rfl, m8, rfl⟩
      have B8 := hd (below_drewN B7.out m8)
      have TL : Hid (IsB (w7.drewN m8) (some ⟨g7, 0, none⟩) 0 0 ys) := by
        have := (HC.out n (by omega)).below (below_drewN (Below.refl _ _) m8)
        rw [hBd.out, show n + 0 - n = 0 from by omega] at this
        exact ⟨this.1, Nat.le_refl _, by omega, fun h => by omega⟩
      clear B7 HG HC D7
      generalize w7.drewN m8 = w8 at *
      go_wp2_with fail
      refine (same_true _ a' 0 _ c' ys _ TL.out (Y.out.below B8.out)).mono ?_
      rintro e w9 ⟨rfl, m9, rfl⟩
      have B9 := hd (below_drewN B8.out m9)
      clear B8 TL
      generalize w8.drewN m9 = w9 at *
      go_wp2
      go_ret
      exact ⟨rfl, B9.out⟩
    · have k1 : ¬ n + m = n := by omega
      have k0 : (n : Int) ≤ (n : Int) + (m : Int) := by omega
      have k2 : n + m - n = m := by omega
      go_wp2_with fail
      refine (synced_any r ρ4 (xs ++ ys) n _ D7.out.1).mono ?_
      rintro e w8 ⟨rfl, rfl⟩
      go_wp2_with fail
      refine (begins_true _ a (n + m) n (n + m) c (xs ++ ys) xs _ HG.out (X.out.below B7.out) hBt.out (by omega)).mono ?_
      rintro e w8 ⟨rfl, m8, rfl⟩
      have B8 := hd (below_drewN B7.out m8)
      have TL : Hid (IsB (w7.drewN m8) (some ⟨g7, n, none⟩) m m ys) := by
        have := (HC.out n (by omega)).below (below_drewN (Below.refl _ _) m8)
        rw [hBd.out, show n + m - n = m from by omega] at this
        exact this
      clear B7 HG HC D7
      generalize w7.drewN m8 = w8 at *
      go_wp2_with fail
      refine (same_true _ a' m _ c' ys _ TL.out (Y.out.below B8.out)).mono ?_
      rintro e w9 ⟨rfl, m9, rfl⟩
      have B9 := hd (below_drewN B8.out m9)
      clear B8 TL
      generalize w8.drewN m9 = w9 at *
      go_wp2
      go_ret
      exact ⟨rfl, B9.out⟩

end Go.Proofs.Ytdlelbdhcpjdfaa
