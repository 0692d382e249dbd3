/-
  born.
-/
import Derived.Test.YtdlelbdhcpjdfabLc
namespace Go.Proofs.Ytdlelbdhcpjdfab
open Go.RowKit
set_option linter.unusedVariables false

set_option maxRecDepth 100000 in
set_option maxHeartbeats 4000000 in
theorem born_any (a : Option Addr) (n c : Nat) (xs : List Int) (w : World) (hx : IsB w a n c xs) (hn : n ≤ 262144) :
    Calls Try.prog 6 #[.slice a n c] w fun x w' => ∃ r ρ, x = .returned (.tuple #[.pointer (some ⟨r, 0, none⟩), .bool true]) ∧ DN w' w.heap.size r ρ xs n ∧ Below w.heap.size w w' := by
  have X := hd hx
  have hxl := hx.1
  clear hx
  go_enter Try.func6, Try.ntmps6
  go_wp2_with fail
  refine (new_any _).mono ?_
  rintro e w1 ⟨r, rfl, hr, hD, hb⟩
  have D1 : Hid (DN w1 w.heap.size r none [] 0) := ⟨hD, by rintro k (rfl | h) <;> simp_all⟩
  have B1 := hd hb
  have HR := hd hr
  clear hD hb hr
  go_wp2_with fail
  refine (size_any r none [] 0 _ D1.out.1).mono ?_
  rintro e w2 ⟨rfl, rfl⟩
  go_wp2_with fail
  refine (synced_any r none [] 0 _ D1.out.1).mono ?_
  rintro e w2 ⟨rfl, rfl⟩
  go_wp2_with fail
  refine (copied_any a n c xs _ (X.out.below B1.out) (by omega)).mono ?_
  rintro e w2 ⟨v, rfl, hN, hb2⟩
  have D2 := hd (D1.out.below hb2)
  have B2 := hd (B1.out.trans (hb2.mono B1.out.size))
  obtain ⟨g, rfl, hG, hne⟩ := newB_blk hN (by omega) r (D1.out.1.lt r (.inl rfl))
  have HG := hd hG
  have HN := hd hne
  clear hN hb2 hG hne D1 B1
  go_wp2_with fail
  refine (append_any r none [] 0 _ _ _ xs _ D2.out.1 HG.out HN.out).mono ?_
  rintro e w3 ⟨rfl, hnow⟩
  rw [appP_first xs (by omega)] at hnow ⊢
  obtain ⟨ρ, hD3, hM, hF, hB⟩ := D2.out.now B2.out.size hnow
  have D3 := hd hD3
  have B3 := hd (B2.out.trans hB)
  simp only [] at D3
  clear hnow hD3 hM hF hB D2 B2 HG HN
  go_wp2_with fail
  refine (num_any _ _).mono ?_
  rintro e w4 ⟨rfl, rfl⟩
  go_wp2_with fail
  refine (size_any r ρ xs 0 _ D3.out.1).mono ?_
  rintro e w4 ⟨rfl, rfl⟩
  go_wp2_with fail
  refine (synced_any r ρ xs 0 _ D3.out.1).mono ?_
  rintro e w4 ⟨rfl, rfl⟩
  go_wp2_with fail
  refine (sync_any r ρ xs 0 _ D3.out.1).mono ?_
  rintro e w4 ⟨rfl, hD, hF⟩
  rw [hxl] at hD ⊢
  have D4 : Hid (DN w4 w.heap.size r ρ xs n) := ⟨hD, D3.out.2⟩
  have B4 := hd (B3.out.trans (hF.below B3.out.size (fun k hk => hk ▸ HR.out)))
  clear hD hF D3 B3
  go_wp2_with fail
  refine (synced_any r ρ xs n _ D4.out.1).mono ?_
  rintro e w5 ⟨rfl, rfl⟩
  go_wp2_with fail
  refine (bytes_any r ρ xs n _ D4.out.1).mono ?_
  rintro e w5 ⟨v, rfl, hN, hb5⟩
  have D5 := hd (D4.out.below hb5)
  have B5 := hd (B4.out.trans (hb5.mono B4.out.size))
  rw [hxl] at hN
  obtain ⟨g5, rfl, -, hG⟩ := hN.isB (by omega)
  have HG := hd hG
  clear hN hG hb5 D4 B4
  go_wp2_with fail
  refine (same_true _ a n n c xs _ HG.out (X.out.below B5.out)).mono ?_
  rintro e w6 ⟨rfl, m, rfl⟩
  have R : Hid (DN (w5.drewN m) w.heap.size r ρ xs n ∧ Below w.heap.size w (w5.drewN m)) := ⟨D5.out.drewN m, below_drewN B5.out m⟩
  clear D5 B5 HG X
  go_wp2
  go_ret2
  exact ⟨r, ρ, rfl, R.out⟩

end Go.Proofs.Ytdlelbdhcpjdfab
