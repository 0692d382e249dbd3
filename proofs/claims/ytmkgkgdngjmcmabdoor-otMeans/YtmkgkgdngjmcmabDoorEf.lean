/-
  Two texts held against one another.
-/
import Derived.Test.YtmkgkgdngjmcmabDoorEe
namespace Go.Proofs.YtmkgkgdngjmcmabDoor
open Go.RowKit
set_option linter.unusedVariables false

theorem IsE.drewN {w : World} {a : Option Addr} {n c : Nat} {xs : List El} (h : IsE w a n c xs) (m : Nat) : IsE (w.drewN m) a n c xs := h.fr (Fr.drewN (fun _ => False) w m) (fun _ _ _ _ h => h)

theorem AtE.drewN {w : World} {v : Value} {xs : List El} (h : AtE w v xs) (m : Nat) : AtE (w.drewN m) v xs := by
  obtain ⟨b, off, c, h1, h2⟩ := h
  exact ⟨b, off, c, h1, h2.drewN m⟩

set_option maxRecDepth 100000 in
set_option maxHeartbeats 4000000 in
/-- Two texts that are the same. -/
theorem sameText_true (u v : Value) (xs : List El) (w : World) (hu : AtE w u xs) (hv : AtE w v xs) :
    Calls Tryd.prog 20 #[u, v] w fun e w' => e = .returned (.bool true) ∧ ∃ m, w' = w.drewN m := by
  obtain ⟨b1, o1, c, rfl, hx⟩ := hu
  obtain ⟨b2, o2, d, rfl, hy⟩ := hv
  obtain ⟨n, hn⟩ : ∃ n, n = xs.length := ⟨_, rfl⟩
  rw [← hn] at hx hy ⊢
  have hc := hx.2.1
  have hc' := hx.2.2.1
  have hd1 := hy.2.1
  have LX := hd hx.1
  have HX := hd hx
  have HY := hd hy
  clear hx hy hn
  go_enter Tryd.func20, Tryd.ntmps20
  go_wp2
  go_loopw [5] (fun i wr => ∃ k m : Nat, k ≤ n ∧ i = .int .i64 k ∧ wr = w.drewN m) (fun i _ => n - (intOf i).toNat)
  case atStart => exact ⟨0, 0, Nat.zero_le _, rfl, rfl⟩
  case round =>
    obtain ⟨k, m, hk, rfl, rfl⟩ := hrel
    by_cases hlt : k < n
    · have kx : k < xs.length := by have := LX.out; omega
      obtain ⟨x0, x1, x2⟩ := HX.out.at k hlt kx
      obtain ⟨y0, y1, y2⟩ := HY.out.at k hlt kx
      have i1 : (k : Int) < (n : Int) := by omega
      generalize xs[k] = x at *
      obtain ⟨xa, xb, xc⟩ := x
      simp only [] at x0 x1 x2 y0 y1 y2
      go_wp2
      go_quiet (fail)
      go_wp2
      exact ⟨⟨k + 1, _, by omega, by go_num, rfl⟩, by simp [intOf]; omega⟩
    · obtain rfl : k = n := by omega
      go_wp2
      go_ret
      exact ⟨rfl, _, rfl⟩

end Go.Proofs.YtmkgkgdngjmcmabDoor
