/-
  DiskTail: the walk, a crash that garbles.
-/
import Derived.Test.YtdlelbdhcpjdfaaTc
namespace Go.Proofs.Ytdlelbdhcpjdfaa
open Go.RowKit
set_option linter.unusedVariables false

theorem set_getD (L : List Int) (i j : Nat) (z : Int) (hj : j < L.length) : (L.set i z).getD j 0 = if i = j then z else L.getD j 0 := by
  simp only [List.getD, List.getElem?_set]
  split
  · next e => subst e; rw [if_pos hj]; rfl
  · rfl

theorem set_pre (L : List Int) (i n : Nat) (z : Int) (h : n ≤ i) : (L.set i z).take n = L.take n := by
  rw [List.take_set, List.set_eq_of_length_le (by simp; omega)]

set_option maxRecDepth 100000 in
set_option maxHeartbeats 4000000 in
theorem tail_mask (a : Option Addr) (n c : Nat) (xs : List Int) (a' : Option Addr) (m c' : Nat) (ys : List Int) (k j : Nat) (mask : Int) (w : World) (hx : IsB w a n c xs) (hy : IsB w a' m c' ys) (hn : n + m ≤ 262144) (hk : k ≤ m) (hj : j < k) (hm : ¬ mask = 0) (hg0 : 0 ≤ mask) (hg1 : mask ≤ 255) :
    Calls Try.prog 5 #[crashVal a n c a' m c' k j mask] w fun x w' => x = .returned (.bool true) ∧ Below w.heap.size w w' := by
  unfold crashVal
  have hmm := hd hm
  have hxl := hx.1
  have hyl := hy.1
  have al : Below w.heap.size w (w.alloc (.cells #[.slice a n c, .slice a' m c', .int .i64 k, .int .i64 j, .int .i64 mask] 39)) := (Below.refl _ _).alloc (Nat.le_refl _) _
  have B1 := hd (below_drewN al 1)
  have X := hd hx
  have Y := hd hy
  have j1 : ¬ (262144 : Int) < (n : Int) := by omega
  have j2 : ¬ (262144 : Int) - (n : Int) < (m : Int) := by omega
  clear hx hy al
  go_enter Try.func5, Try.ntmps5
  go_wp2
  go_quiet (fail)
  have B1 : Hid (Below w.heap.size w ((w.alloc (.cells #[.slice a n c, .slice a' m c', .int .i64 k, .int .i64 j, .int .i64 mask] 39)).drewN nq)) := below_drewN ((Below.refl _ _).alloc (Nat.le_refl _) _) nq
  generalize (w.alloc (.cells #[.slice a n c, .slice a' m c', .int .i64 k, .int .i64 j, .int .i64 mask] 39)).drewN nq = w1 at *
  go_wp2_with fail
  refine (born_any a n c xs _ (X.out.below B1.out) (by omega)).mono ?_
  rintro e w2 ⟨r, ρ, rfl, hD, hb⟩
  have D2 : Hid (DN w2 w.heap.size r ρ xs n) := ⟨hD.1, fun k hk => Nat.le_trans B1.out.size (hD.2 k hk)⟩
  have B2 := hd (B1.out.trans (hb.mono B1.out.size))
  clear hD hb B1
  go_wp2_with fail
  refine (copied_any a' m c' ys _ (Y.out.below B2.out) (by omega)).mono ?_
  rintro e w3 ⟨v, rfl, hN, hb⟩
  obtain ⟨g3, rfl, hG, hne⟩ := newB_blk hN (by omega) r (D2.out.1.lt r (.inl rfl))
  have D3 := hd (D2.out.below hb)
  have B3 := hd (B2.out.trans (hb.mono B2.out.size))
  have HG := hd hG
  have HN := hd hne
  clear hN hb hG hne D2 B2
  go_wp2_with fail
  refine (append_any r ρ xs n _ _ _ ys _ D3.out.1 HG.out HN.out).mono ?_
  rintro e w4 ⟨rfl, hnow⟩
  rw [appP_good ys xs n (by omega)] at hnow ⊢
  obtain ⟨ρ4, hD4, hM, hF4, hB⟩ := D3.out.now B3.out.size hnow
  have D4 := hd hD4
  simp only [] at D4
  have B4 := hd (B3.out.trans hB)
  clear hnow hD4 hM hF4 hB D3 B3 HG HN
  have hBl : Hid ((xs ++ ys).length = n + m) := by
    show _ = _
    rw [List.length_append]
    omega
  have hBt := hd (take_pre xs ys n hxl)
  have hBd := hd (drop_pre xs ys n hxl)
  go_wp2_with fail
  refine (num_any _ _).mono ?_
  rintro e w5 ⟨rfl, rfl⟩
  go_wp2_with fail
  obtain ⟨p, rfl⟩ : ∃ p, ρ4 = some p := by
    cases ρ4 with
    | some p => exact ⟨p, rfl⟩
    | none =>
      obtain ⟨R, _, hR, h1, h2, _⟩ := D4.out.1
      have hR' : R = [] := hR
      rw [hR', hBl.out] at h2
      simp at h2
      omega
  have hyj : Hid ((xs ++ ys).getD (n + j) 0 = ys.getD j 0) := by
    show _ = _
    simp only [List.getD]
    rw [List.getElem?_append_right (by omega), hxl]
    congr 2
    omega
  refine (crash_mask r p (xs ++ ys) n k j mask _ D4.out.1 (by rw [hBl.out]; omega) hj (by have := hmm.out; omega) ⟨hg0, hg1⟩ _ hyj.out).mono ?_
  rintro e w6 ⟨rfl, hD, hF⟩
  have D6 : Hid (DN w6 w.heap.size r (some p) (((xs ++ ys).take (n + k)).set (n + j) (xorB (ys.getD j 0) mask)) (n + k)) := ⟨hD, D4.out.2⟩
  have B6 := hd (B4.out.trans (hF.below B4.out.size D4.out.2))
  clear hD hF D4 B4
  have hSl : Hid ((((xs ++ ys).take (n + k)).set (n + j) (xorB (ys.getD j 0) mask)).length = n + k) := by
    show _ = _
    rw [List.length_set, List.length_take, hBl.out]
    omega
  have hSt : Hid ((((xs ++ ys).take (n + k)).set (n + j) (xorB (ys.getD j 0) mask)).take n = xs) := by
    show _ = _
    rw [set_pre _ _ _ _ (by omega), pick_pre xs ys n k hxl]
  have hSg : Hid (∀ q, q < k → (((xs ++ ys).take (n + k)).set (n + j) (xorB (ys.getD j 0) mask)).getD (n + q) 0 = if j = q then xorB (ys.getD q 0) mask else ys.getD q 0) := by
    intro q hq
    rw [set_getD _ _ _ _ (by rw [List.length_take, hBl.out]; omega), pick_getD xs ys n k q hxl (by rw [hBl.out]; omega) hq]
    by_cases hjq : j = q
    · subst hjq
      rw [if_pos rfl, if_pos rfl]
    · rw [if_neg (by omega), if_neg hjq]
  generalize ((xs ++ ys).take (n + k)).set (n + j) (xorB (ys.getD j 0) mask) = Bs at *
  go_wp2_with fail
  refine (num_any _ _).mono ?_
  rintro e w7 ⟨rfl, rfl⟩
  go_wp2_with fail
  refine (bytes_any r (some p) Bs (n + k) _ D6.out.1).mono ?_
  rintro e w7 ⟨v, rfl, hN, hb⟩
  rw [hSl.out] at hN
  obtain ⟨g7, rfl, hG, hC⟩ := newB_cut hN (by omega)
  have D7 := hd (D6.out.below hb)
  have B7 := hd (B6.out.trans (hb.mono B6.out.size))
  have HG := hd hG
  have HC := hd hC
  clear hN hb hG hC D6 B6
  have k2 : ¬ (m : Int) < (k : Int) := by omega
  have k3 : (j : Int) < (k : Int) := by omega
  go_wp2_with fail
  refine (synced_any r (some p) Bs (n + k) _ D7.out.1).mono ?_
  rintro e w8 ⟨rfl, rfl⟩
  go_wp2_with fail
  refine (size_any r (some p) Bs (n + k) _ D7.out.1).mono ?_
  rintro e w8 ⟨rfl, rfl⟩
  rw [hSl.out]
  go_wp2_with fail
  refine (begins_true _ a (n + k) n (n + k) c Bs xs _ HG.out (X.out.below B7.out) hSt.out (by omega)).mono ?_
  rintro e w8 ⟨rfl, m8, rfl⟩
  have B8 := hd (below_drewN B7.out m8)
  have G8 := hd (HG.out.below (below_drewN (Below.refl _ _) m8))
  clear B7 HG HC D7
  generalize w7.drewN m8 = w8 at *
  go_wp2
  go_loopw [12, 13] (fun i x wr => ∃ q : Nat, q ≤ k ∧ i = .int .i64 q ∧ wr = w8) (fun i _ _ => k - (intOf i).toNat)
  case atStart => exact ⟨0, Nat.zero_le _, rfl, rfl⟩
  case round =>
    obtain ⟨q, hq, rfl, rfl⟩ := hrel
    by_cases hlt : q < k
    · obtain ⟨bt, ot, rfl, hbt, hct⟩ := Y.out.2.2.2 (by omega)
      have e1 := (B8.out.cell (p := ⟨bt, ot + q, none⟩) hbt).trans (hct q (by omega))
      obtain ⟨b, off, e, hb, hc⟩ := G8.out.2.2.2 (by omega)
      have e2 := Option.some.inj e
      simp at e2
      obtain ⟨rfl, rfl⟩ := e2
      have e3 := hc (n + q) (by omega)
      rw [Nat.zero_add, hSg.out q hlt] at e3
      have i1 : (q : Int) < (k : Int) := by omega
      have i2 : (q : Int) < (m : Int) := by omega
      have i3 : (n : Int) + (q : Int) < (n : Int) + (k : Int) := by omega
      clear hct e hc hbt hb
      generalize ys.getD q 0 = y at *
      by_cases hjq : j = q
      · subst hjq
        rw [if_pos rfl] at e3
        unfold xorB at e3
        go_wp2
        exact ⟨⟨j + 1, by omega, by go_num, trivial⟩, by simp [intOf]; omega⟩
      · rw [if_neg hjq] at e3
        have i4 : ((q : Int) == (j : Int)) = false := by simp; omega
        go_wp2
        exact ⟨⟨q + 1, by omega, by go_num, trivial⟩, by simp [intOf]; omega⟩
    · have i1 : ¬ (q : Int) < (k : Int) := by omega
      go_wp2
      go_ret
      exact ⟨rfl, B8.out⟩

end Go.Proofs.Ytdlelbdhcpjdfaa
