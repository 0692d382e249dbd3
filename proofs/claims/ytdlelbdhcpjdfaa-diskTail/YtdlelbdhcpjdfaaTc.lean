/-
  DiskTail: the walk, a crash that is taken.
-/
import Derived.Test.YtdlelbdhcpjdfaaTa
namespace Go.Proofs.Ytdlelbdhcpjdfaa
open Go.RowKit
set_option linter.unusedVariables false

theorem pick_getD (xs ys : List Int) (n k q : Nat) (h : xs.length = n) (hk : n + k ≤ (xs ++ ys).length) (hq : q < k) : ((xs ++ ys).take (n + k)).getD (n + q) 0 = ys.getD q 0 := by
  simp only [List.getD, List.getElem?_take]
  rw [if_pos (by omega), List.getElem?_append_right (by omega), h]
  congr 2
  omega

theorem pick_pre (xs ys : List Int) (n k : Nat) (h : xs.length = n) : ((xs ++ ys).take (n + k)).take n = xs := by
  rw [List.take_take, Nat.min_eq_left (by omega), take_pre xs ys n h]

set_option maxRecDepth 100000 in
set_option maxHeartbeats 4000000 in
theorem tail_plain (a : Option Addr) (n c : Nat) (xs : List Int) (a' : Option Addr) (m c' : Nat) (ys : List Int) (k : Nat) (at_ : Int) (w : World) (hx : IsB w a n c xs) (hy : IsB w a' m c' ys) (hn : n + m ≤ 262144) (hk : k ≤ m) :
    Calls Try.prog 5 #[crashVal a n c a' m c' k at_ 0] w fun x w' => x = .returned (.bool true) ∧ Below w.heap.size w w' := by
  unfold crashVal
  have hxl := hx.1
  have hyl := hy.1
  have al : Below w.heap.size w (w.alloc (.cells #[.slice a n c, .slice a' m c', .int .i64 k, .int .i64 at_, .int .i64 0] 39)) := (Below.refl _ _).alloc (Nat.le_refl _) _
  have B1 := hd (below_drewN al 1)
  have X := hd hx
  have Y := hd hy
  have j1 : ¬ (262144 : Int) < (n : Int) := by omega
  have j2 : ¬ (262144 : Int) - (n : Int) < (m : Int) := by omega
  clear hx hy al
  go_enter Try.func5, Try.ntmps5
  go_wp2
  go_quiet (fail)
  have B1 : Hid (Below w.heap.size w ((w.alloc (.cells #[.slice a n c, .slice a' m c', .int .i64 k, .int .i64 at_, .int .i64 0] 39)).drewN nq)) := below_drewN ((Below.refl _ _).alloc (Nat.le_refl _) _) nq
  generalize (w.alloc (.cells #[.slice a n c, .slice a' m c', .int .i64 k, .int .i64 at_, .int .i64 0] 39)).drewN nq = w1 at *
  go_wp2_with fail
  refine (born_any a n c xs _ (X.out.below B1.out) (by omega)).mono ?_
  rintro e w2 ⟨r, ρ, rfl, hD, hb⟩
  have D2 : Hid (DN w2 w.heap.size r ρ xs n) := ⟨hD.1, fun k hk => Nat.le_trans B1.out.size (hD.2 k hk)⟩
  have B2 := hd (B1.out.trans (hb.mono B1.out.size))
  clear hD hb B1
  go_wp2_with fail
  refine (copied_any a' m c' ys _ (Y.out.below B2.out) (by omega)).mono ?_
  rintro e w3 ⟨v, rfl, hN, hb⟩
  obtain ⟨g3, rfl, hG, hne⟩ := newB_blk hN (by omega) r (D2.out.1.lt r (.inl rfl))
  have D3 := hd (D2.out.below hb)
  have B3 := hd (B2.out.trans (hb.mono B2.out.size))
  have HG := hd hG
  have HN := hd hne
  clear hN hb hG hne D2 B2
  go_wp2_with fail
  refine (append_any r ρ xs n _ _ _ ys _ D3.out.1 HG.out HN.out).mono ?_
  rintro e w4 ⟨rfl, hnow⟩
  rw [appP_good ys xs n (by omega)] at hnow ⊢
  obtain ⟨ρ4, hD4, hM, hF4, hB⟩ := D3.out.now B3.out.size hnow
  have D4 := hd hD4
  simp only [] at D4
  have B4 := hd (B3.out.trans hB)
  clear hnow hD4 hM hF4 hB D3 B3 HG HN
  have hBl : Hid ((xs ++ ys).length = n + m) := by
    show _ = _
    rw [List.length_append]
    omega
  have hBt := hd (take_pre xs ys n hxl)
  have hBd := hd (drop_pre xs ys n hxl)
  go_wp2_with fail
  refine (num_any _ _).mono ?_
  rintro e w5 ⟨rfl, rfl⟩
  go_wp2_with fail
  refine (crash_plain r ρ4 (xs ++ ys) n k at_ _ D4.out.1 (by rw [hBl.out]; omega)).mono ?_
  rintro e w6 ⟨rfl, hD, hF⟩
  have D6 : Hid (DN w6 w.heap.size r ρ4 ((xs ++ ys).take (n + k)) (n + k)) := ⟨hD, D4.out.2⟩
  have B6 := hd (B4.out.trans (hF.below B4.out.size (fun i hi => hi ▸ D4.out.2 r (.inl rfl))))
  clear hD hF D4 B4
  have hSl : Hid (((xs ++ ys).take (n + k)).length = n + k) := by
    show _ = _
    rw [List.length_take, hBl.out]
    omega
  have hSt := hd (pick_pre xs ys n k hxl)
  have hSg := hd (fun q hq => pick_getD xs ys n k q hxl (by rw [hBl.out]; omega) hq)
  generalize (xs ++ ys).take (n + k) = Bs at *
  go_wp2_with fail
  refine (num_any _ _).mono ?_
  rintro e w7 ⟨rfl, rfl⟩
  go_wp2_with fail
  refine (bytes_any r ρ4 Bs (n + k) _ D6.out.1).mono ?_
  rintro e w7 ⟨v, rfl, hN, hb⟩
  rw [hSl.out] at hN
  obtain ⟨g7, rfl, hG, hC⟩ := newB_cut hN (by omega)
  have D7 := hd (D6.out.below hb)
  have B7 := hd (B6.out.trans (hb.mono B6.out.size))
  have HG := hd hG
  have HC := hd hC
  clear hN hb hG hC D6 B6
  have k2 : ¬ (m : Int) < (k : Int) := by omega
  go_wp2_with fail
  refine (synced_any r ρ4 Bs (n + k) _ D7.out.1).mono ?_
  rintro e w8 ⟨rfl, rfl⟩
  go_wp2_with fail
  refine (size_any r ρ4 Bs (n + k) _ D7.out.1).mono ?_
  rintro e w8 ⟨rfl, rfl⟩
  rw [hSl.out]
  go_wp2_with fail
  refine (begins_true _ a (n + k) n (n + k) c Bs xs _ HG.out (X.out.below B7.out) hSt.out (by omega)).mono ?_
  rintro e w8 ⟨rfl, m8, rfl⟩
  have B8 := hd (below_drewN B7.out m8)
  have G8 := hd (HG.out.below (below_drewN (Below.refl _ _) m8))
  clear B7 HG HC D7
  generalize w7.drewN m8 = w8 at *
  go_wp2
  go_loopw [12, 13] (fun i x wr => ∃ q : Nat, q ≤ k ∧ i = .int .i64 q ∧ wr = w8) (fun i _ _ => k - (intOf i).toNat)
  case atStart => exact ⟨0, Nat.zero_le _, rfl, rfl⟩
  case round =>
    obtain ⟨q, hq, rfl, rfl⟩ := hrel
    by_cases hlt : q < k
    · obtain ⟨bt, ot, rfl, hbt, hct⟩ := Y.out.2.2.2 (by omega)
      have e1 := (B8.out.cell (p := ⟨bt, ot + q, none⟩) hbt).trans (hct q (by omega))
      obtain ⟨b, off, e, hb, hc⟩ := G8.out.2.2.2 (by omega)
      have e2 := Option.some.inj e
      simp at e2
      obtain ⟨rfl, rfl⟩ := e2
      have e3 := hc (n + q) (by omega)
      rw [Nat.zero_add, hSg.out q hlt] at e3
      have i1 : (q : Int) < (k : Int) := by omega
      have i2 : (q : Int) < (m : Int) := by omega
      have i3 : (n : Int) + (q : Int) < (n : Int) + (k : Int) := by omega
      clear hct e hc hbt hb
      generalize ys.getD q 0 = y at *
      go_wp2
      exact ⟨⟨q + 1, by omega, by go_num, trivial⟩, by simp [intOf]; omega⟩
    · have i1 : ¬ (q : Int) < (k : Int) := by omega
      go_wp2
      go_ret
      exact ⟨rfl, B8.out⟩

end Go.Proofs.Ytdlelbdhcpjdfaa
