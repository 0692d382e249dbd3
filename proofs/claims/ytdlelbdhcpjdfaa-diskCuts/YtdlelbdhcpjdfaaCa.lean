/-
  DiskCuts: the walk.
-/
import Derived.Test.YtdlelbdhcpjdfaaApp
import Derived.Deep.RegionHeld3
namespace Go.Proofs.Ytdlelbdhcpjdfaa
open Go.RowKit
set_option linter.unusedVariables false

def shearVal (a : Option Addr) (n c : Nat) (a' : Option Addr) (m c' : Nat) (N : Int) (a2 : Option Addr) (l c2 : Nat) : Value := .agg #[.slice a n c, .slice a' m c', .int .i64 N, .slice a2 l c2]

set_option maxRecDepth 100000 in
set_option maxHeartbeats 4000000 in
theorem cuts_bad (a : Option Addr) (n c : Nat) (xs : List Int) (a' : Option Addr) (m c' : Nat) (ys : List Int) (a2 : Option Addr) (l c2 : Nat) (zs : List Int) (N : Int) (w : World) (hx : IsB w a n c xs) (hy : IsB w a' m c' ys) (hnil : a' = none → c' = 0) (hz : IsB w a2 l c2 zs) (hlb : l ≤ 140737488351232) (hn : n + m ≤ 262144) (hN : N < 0 ∨ (n : Int) + (m : Int) < N) :
    Calls Try.prog 6 #[shearVal a n c a' m c' N a2 l c2] w fun x w' => x = .returned (.bool true) ∧ Below w.heap.size w w' := by
  unfold shearVal
  obtain ⟨i0, hi, hz0, hz1, hz2⟩ := info_parts Try.info5
  have hxl := hx.1
  have hyl := hy.1
  have hzl := hz.1
  have X := hd hx
  have Y := hd hy
  have Z := hd hz
  have HNIL := hd hnil
  have j1 : ¬ (262144 : Int) < (n : Int) := by omega
  have j2 : ¬ (262144 : Int) - (n : Int) < (m : Int) := by omega
  clear hx hy hz hnil
  go_enter Try.func6, Try.ntmps6
  go_wp2
  go_quiet (fail)
  have B1 : Hid (Below w.heap.size w ((w.alloc (.cells #[.slice a n c, .slice a' m c', .int .i64 N, .slice a2 l c2] 42)).drewN nq)) := below_drewN ((Below.refl _ _).alloc (Nat.le_refl _) _) nq
  generalize (w.alloc (.cells #[.slice a n c, .slice a' m c', .int .i64 N, .slice a2 l c2] 42)).drewN nq = w1 at *
  go_wp2_with fail
  refine (born_any a n c xs _ (X.out.below B1.out) (by omega)).mono ?_
  rintro e w2 ⟨r, ρ, rfl, hD, hb⟩
  have D2 : Hid (DN w2 w.heap.size r ρ xs n) := ⟨hD.1, fun k hk => Nat.le_trans B1.out.size (hD.2 k hk)⟩
  have B2 := hd (B1.out.trans (hb.mono B1.out.size))
  clear hD hb B1
  go_wp2_with fail
  refine (copied_any a' m c' ys _ (Y.out.below B2.out) (by omega)).mono ?_
  rintro e w3 ⟨v, rfl, hN, hb⟩
  obtain ⟨g3, rfl, hG, hne⟩ := newB_blk hN (by omega) r (D2.out.1.lt r (.inl rfl))
  have D3 := hd (D2.out.below hb)
  have B3 := hd (B2.out.trans (hb.mono B2.out.size))
  have HG := hd hG
  have HN := hd hne
  clear hN hb hG hne D2 B2
  go_wp2_with fail
  refine (append_any r ρ xs n _ _ _ ys _ D3.out.1 HG.out HN.out).mono ?_
  rintro e w4 ⟨rfl, hnow⟩
  rw [appP_good ys xs n (by omega)] at hnow ⊢
  obtain ⟨ρ4, hD4, hM, hF4, hB⟩ := D3.out.now B3.out.size hnow
  have D4 := hd hD4
  simp only [] at D4
  have B4 := hd (B3.out.trans hB)
  clear hnow hD4 hM hF4 hB D3 B3 HG HN
  have hBl : Hid ((xs ++ ys).length = n + m) := by
    show _ = _
    rw [List.length_append]
    omega
  go_wp2_with fail
  refine (num_any _ _).mono ?_
  rintro e w5 ⟨rfl, rfl⟩
  go_wp2_with fail
  refine (Go.Proofs.Ytdlelbdhcpjdfaa.cut_bad r ρ4 (xs ++ ys) n N _ D4.out.1 (by rw [hBl.out]; omega)).mono ?_
  rintro e w5 ⟨rfl, rfl⟩
  go_wp2_with fail
  refine (num_any _ _).mono ?_
  rintro e w5 ⟨rfl, rfl⟩
  by_cases h0 : N < 0
  · clear hN
    go_wp2_with fail
    refine (size_any r ρ4 (xs ++ ys) n _ D4.out.1).mono ?_
    rintro e w5 ⟨rfl, rfl⟩
    rw [hBl.out]
    go_wp2_with fail
    refine (synced_any r ρ4 (xs ++ ys) n _ D4.out.1).mono ?_
    rintro e w5 ⟨rfl, rfl⟩
    go_wp2
    go_ret
    exact ⟨rfl, B4.out⟩
  · have h1 : (n : Int) + (m : Int) < N := by omega
    clear hN
    go_wp2_with fail
    refine (size_any r ρ4 (xs ++ ys) n _ D4.out.1).mono ?_
    rintro e w5 ⟨rfl, rfl⟩
    rw [hBl.out]
    go_wp2_with fail
    refine (synced_any r ρ4 (xs ++ ys) n _ D4.out.1).mono ?_
    rintro e w5 ⟨rfl, rfl⟩
    go_wp2
    go_ret
    exact ⟨rfl, B4.out⟩

end Go.Proofs.Ytdlelbdhcpjdfaa
