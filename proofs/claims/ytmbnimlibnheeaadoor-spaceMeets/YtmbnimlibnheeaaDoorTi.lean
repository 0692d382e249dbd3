/-
  Two texts held against one another.
-/
import Derived.Test.YtmbnimlibnheeaaDoorTg
import Derived.Deep.QuietTactic
import Derived.BigQuiet
namespace Go.Proofs.YtmbnimlibnheeaaDoor
open Go.RowKit Go.Lib
set_option linter.unusedVariables false

theorem IsE.drewN {w : World} {a : Option Addr} {n c : Nat} {xs : List El} (h : IsE w a n c xs) (m : Nat) : IsE (w.drewN m) a n c xs := h.fr (Fr.drewN (fun _ => False) w m) (fun _ _ _ _ h => h)

set_option maxRecDepth 100000 in
set_option maxHeartbeats 4000000 in
theorem same_true (u v : Value) (β β' : Option Nat) (xs : List El) (w : World) (hu : SE w β u xs) (hv : SE w β' v xs) :
    Calls Tryd.prog 23 #[u, v] w fun e w' => e = .returned (.bool true) ∧ ∃ m, w' = w.drewN m := by
  obtain ⟨a1, c, rfl, hx, -⟩ := hu.form
  obtain ⟨a2, d, rfl, hy, -⟩ := hv.form
  obtain ⟨n, hn⟩ : ∃ n, n = xs.length := ⟨_, rfl⟩
  rw [← hn] at hx hy ⊢
  have hc := hx.2.1
  have hc' := hx.2.2.1
  have hd1 := hy.2.1
  have LX := hd hx.1
  have HX := hd hx
  have HY := hd hy
  clear hx hy hn hu hv
  go_enter Tryd.func23, Tryd.ntmps23
  go_wp2
  go_loopw [5] (fun i wr => ∃ k m : Nat, k ≤ n ∧ i = .int .i64 k ∧ wr = w.drewN m) (fun i _ => n - (intOf i).toNat)
  case atStart => exact ⟨0, 0, Nat.zero_le _, rfl, rfl⟩
  case round =>
    obtain ⟨k, m, hk, rfl, rfl⟩ := hrel
    by_cases hlt : k < n
    · have kx : k < xs.length := by have := LX.out; omega
      obtain ⟨b1, o1, rfl, -⟩ := HX.out.addr (by omega)
      obtain ⟨b2, o2, rfl, -⟩ := HY.out.addr (by omega)
      obtain ⟨x0, x1, x2⟩ := HX.out.at k hlt kx
      obtain ⟨y0, y1, y2⟩ := HY.out.at k hlt kx
      have i1 : (k : Int) < (n : Int) := by omega
      generalize xs[k] = x at *
      obtain ⟨xa, xb, xc⟩ := x
      simp only [] at x0 x1 x2 y0 y1 y2
      go_wp2
      go_quiet (fail)
      go_wp2
      exact ⟨⟨k + 1, _, by omega, by go_num, rfl⟩, by simp [intOf]; omega⟩
    · obtain rfl : k = n := by omega
      go_wp2
      go_ret
      exact ⟨rfl, _, rfl⟩


end Go.Proofs.YtmbnimlibnheeaaDoor
