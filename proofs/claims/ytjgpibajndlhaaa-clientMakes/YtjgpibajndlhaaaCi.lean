/-
  Texts and edits held against one another; num.
-/
import Derived.Test.YtjgpibajndlhaaaCg
import Derived.Deep.QuietTactic
import Derived.BigQuiet
namespace Go.Proofs.Ytjgpibajndlhaaa
open Go.RowKit
set_option linter.unusedVariables false

theorem num_any (x : Int) (w : World) : Calls Try.prog 6 #[.int .i64 x] w fun e w' => e = .returned (.int .i64 x) ∧ w' = w := by
  go_enter Try.func6, Try.ntmps6
  go_wp2
  go_ret
  exact ⟨rfl, rfl⟩

theorem IsE.drewN {w : World} {a : Option Addr} {n c : Nat} {xs : List El} (h : IsE w a n c xs) (m : Nat) : IsE (w.drewN m) a n c xs := h.fr (Fr.drewN (fun _ => False) w m) (fun _ _ _ _ h => h)

set_option maxRecDepth 100000 in
set_option maxHeartbeats 4000000 in
theorem sameDoc_true (u v : Value) (β β' : Option Nat) (xs : List El) (w : World) (hu : SE w β u xs) (hv : SE w β' v xs) :
    Calls Try.prog 10 #[u, v] w fun e w' => e = .returned (.bool true) ∧ ∃ m, w' = w.drewN m := by
  obtain ⟨a1, c, rfl, hx, -⟩ := hu.form
  obtain ⟨a2, d, rfl, hy, -⟩ := hv.form
  obtain ⟨n, hn⟩ : ∃ n, n = xs.length := ⟨_, rfl⟩
  rw [← hn] at hx hy ⊢
  have hc := hx.2.1
  have hc' := hx.2.2.1
  have hd1 := hy.2.1
  have LX := hd hx.1
  have HX := hd hx
  have HY := hd hy
  clear hx hy hn hu hv
  go_enter Try.func10, Try.ntmps10
  go_wp2
  go_loopw [5] (fun i wr => ∃ k m : Nat, k ≤ n ∧ i = .int .i64 k ∧ wr = w.drewN m) (fun i _ => n - (intOf i).toNat)
  case atStart => exact ⟨0, 0, Nat.zero_le _, rfl, rfl⟩
  case round =>
    obtain ⟨k, m, hk, rfl, rfl⟩ := hrel
    by_cases hlt : k < n
    · have kx : k < xs.length := by have := LX.out; omega
      obtain ⟨b1, o1, rfl, -⟩ := HX.out.addr (by omega)
      obtain ⟨b2, o2, rfl, -⟩ := HY.out.addr (by omega)
      obtain ⟨x0, x1, x2⟩ := HX.out.at k hlt kx
      obtain ⟨y0, y1, y2⟩ := HY.out.at k hlt kx
      have i1 : (k : Int) < (n : Int) := by omega
      generalize xs[k] = x at *
      obtain ⟨xa, xb, xc⟩ := x
      simp only [] at x0 x1 x2 y0 y1 y2
      go_wp2
      go_quiet (fail)
      go_wp2
      exact ⟨⟨k + 1, _, by omega, by go_num, rfl⟩, by simp [intOf]; omega⟩
    · obtain rfl : k = n := by omega
      go_wp2
      go_ret
      exact ⟨rfl, _, rfl⟩

set_option maxRecDepth 100000 in
set_option maxHeartbeats 4000000 in
theorem sameEdits_true (u v : Value) (β β' : Option Nat) (xs : List (Int × OpE)) (w : World) (hu : SF edc 6 w 36 β u xs) (hv : SF edc 6 w 36 β' v xs) :
    Calls Try.prog 12 #[u, v] w fun e w' => e = .returned (.bool true) ∧ ∃ m, w' = w.drewN m := by
  have row : ∀ {β : Option Nat} {a : Option Addr} {n c : Nat}, SF edc 6 w 36 β (.slice a n c) xs → ∀ k, (hk : k < xs.length) → ∃ b, a = some ⟨b, 0, none⟩ ∧ w.cell? ⟨b, k * 6, none⟩ = some (.int .i64 xs[k].1) ∧ w.cell? ⟨b, k * 6 + 1, none⟩ = some (.int .i64 xs[k].2.kind) ∧ w.cell? ⟨b, k * 6 + 2, none⟩ = some (.int .i64 xs[k].2.pos) ∧ w.cell? ⟨b, k * 6 + 3, none⟩ = some (.int .u8 xs[k].2.ch) ∧ w.cell? ⟨b, k * 6 + 4, none⟩ = some (.int .i64 xs[k].2.cl) ∧ w.cell? ⟨b, k * 6 + 5, none⟩ = some (.int .i64 xs[k].2.sq) := by
    intro β a n c h k hk
    cases β with
    | none =>
      obtain ⟨-, rfl⟩ := h
      simp at hk
    | some g =>
      obtain ⟨cap, h, hR⟩ := h
      injection h with h
      refine ⟨g, h, ?_, ?_, ?_, ?_, ?_, ?_⟩
      · have := hR.cell sz_edc k 0 hk (by omega); simpa [edc] using this
      · have := hR.cell sz_edc k 1 hk (by omega); simpa [edc] using this
      · have := hR.cell sz_edc k 2 hk (by omega); simpa [edc] using this
      · have := hR.cell sz_edc k 3 hk (by omega); simpa [edc] using this
      · have := hR.cell sz_edc k 4 hk (by omega); simpa [edc] using this
      · have := hR.cell sz_edc k 5 hk (by omega); simpa [edc] using this
  obtain ⟨a1, c, rfl, hc, hc'⟩ := hu.form
  obtain ⟨a2, d, rfl, hd1, hd'⟩ := hv.form
  obtain ⟨n, hn⟩ : ∃ n, n = xs.length := ⟨_, rfl⟩
  have RX := hd (row hu)
  have RY := hd (row hv)
  have LX := hd hn
  rw [← hn] at hc hd1 ⊢
  clear hn hu hv row
  go_enter Try.func12, Try.ntmps12
  go_wp2
  go_loopw [5] (fun i wr => ∃ k m : Nat, k ≤ n ∧ i = .int .i64 k ∧ wr = w.drewN m) (fun i _ => n - (intOf i).toNat)
  case atStart => exact ⟨0, 0, Nat.zero_le _, rfl, rfl⟩
  case round =>
    obtain ⟨k, m, hk, rfl, rfl⟩ := hrel
    by_cases hlt : k < n
    · have kx : k < xs.length := by have := LX.out; omega
      obtain ⟨b1, rfl, x0, x1, x2, x3, x4, x5⟩ := RX.out k kx
      obtain ⟨b2, rfl, y0, y1, y2, y3, y4, y5⟩ := RY.out k kx
      have i1 : (k : Int) < (n : Int) := by omega
      generalize xs[k] = x at *
      obtain ⟨xa, xk, xp, xc, xl, xq⟩ := x
      simp only [] at x0 x1 x2 x3 x4 x5 y0 y1 y2 y3 y4 y5
      go_wp2
      go_quiet (fail)
      go_wp2
      exact ⟨⟨k + 1, _, by omega, by go_num, rfl⟩, by simp [intOf]; omega⟩
    · obtain rfl : k = n := by omega
      go_wp2
      go_ret
      exact ⟨rfl, _, rfl⟩

end Go.Proofs.Ytjgpibajndlhaaa
