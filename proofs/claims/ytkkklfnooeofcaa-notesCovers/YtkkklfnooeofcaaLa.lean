/-
  The laws' small functions: eqReplies, eqNote, may, fixed.
-/
import Derived.Test.YtkkklfnooeofcaaIc
import Derived.Laws.StructEq
namespace Go.Proofs.Ytkkklfnooeofcaa
open Go.RowKit Go.Maps Go.ChangeMaps Go.MapKept Go.WideMaps
set_option linter.unusedVariables false

theorem SF.rp {w : World} {β : Option Nat} {a : Option Addr} {n c : Nat} {xs : List (Int × ByteArray)} (h : SF rpc 2 w 45 β (.slice a n c) xs) (k : Nat) (hk : k < xs.length) : ∃ b, a = some ⟨b, 0, none⟩ ∧ w.cell? ⟨b, k * 2, none⟩ = some (.int .i64 xs[k].1) ∧ w.cell? ⟨b, k * 2 + 1, none⟩ = some (.string xs[k].2) := by
  cases β with
  | none =>
    obtain ⟨-, rfl⟩ := h
    simp at hk
  | some g =>
    obtain ⟨cap, h, hR⟩ := h
    injection h with h1 h2 h3
    refine ⟨g, h1, ?_, ?_⟩
    · have := hR.cell sz_rpc k 0 hk (by omega)
      simpa [rpc] using this
    · have := hR.cell sz_rpc k 1 hk (by omega)
      simpa [rpc] using this

set_option maxRecDepth 100000 in
set_option maxHeartbeats 4000000 in
theorem eqReplies_true (u v : Value) (β β' : Option Nat) (xs : List (Int × ByteArray)) (w : World) (hu : SF rpc 2 w 45 β u xs) (hv : SF rpc 2 w 45 β' v xs) :
    Calls Try.prog 21 #[u, v] w fun e w' => e = .returned (.bool true) ∧ ∃ m, w' = w.drewN m := by
  obtain ⟨a1, c, rfl, hc, hc'⟩ := hu.form
  obtain ⟨a2, d, rfl, hd1, hd2⟩ := hv.form
  have RU := hd (fun k hk => hu.rp k hk)
  have RV := hd (fun k hk => hv.rp k hk)
  obtain ⟨n, hn⟩ : ∃ n, xs.length = n := ⟨_, rfl⟩
  rw [hn] at hc hd1 ⊢
  have HN := hd hn
  clear hu hv hn
  go_enter Try.func21, Try.ntmps21
  go_wp2
  go_loopw [5] (fun i wr => ∃ k m : Nat, k ≤ n ∧ i = .int .i64 k ∧ wr = w.drewN m) (fun i _ => n - (intOf i).toNat)
  case atStart => exact ⟨0, 0, Nat.zero_le _, rfl, rfl⟩
  case round =>
    obtain ⟨k, m, hk, rfl, rfl⟩ := hrel
    by_cases hlt : k < n
    · have kx : k < xs.length := by have := HN.out; omega
      obtain ⟨b1, rfl, x0, x1⟩ := RU.out k kx
      obtain ⟨b2, rfl, y0, y1⟩ := RV.out k kx
      have i1 : (k : Int) < (n : Int) := by omega
      generalize xs[k] = x at *
      obtain ⟨xa, xb⟩ := x
      simp only [] at x0 x1 y0 y1
      go_wp2
      go_quiet (fail)
      go_wp2
      exact ⟨⟨k + 1, _, by omega, by go_num, rfl⟩, by simp [intOf]; omega⟩
    · obtain rfl : k = n := by omega
      go_wp2
      go_ret
      exact ⟨rfl, _, rfl⟩

set_option maxRecDepth 100000 in
set_option maxHeartbeats 4000000 in
theorem eqNote_true (n : Nt) (s : Nat × Nat) (u v : Value) (β β' : Option Nat) (w : World) (hu : SF rpc 2 w 45 β u n.sd) (hv : SF rpc 2 w 45 β' v n.sd) :
    Calls Try.prog 16 #[.agg (ntA n s u), .agg (ntA n s v)] w fun e w' => e = .returned (.bool true) ∧ Below w.heap.size w w' := by
  have hB : Below w.heap.size w ((w.alloc (.cells (ntA n s u) 37)).alloc (.cells (ntA n s v) 37)) := ((Below.refl _ _).alloc (Nat.le_refl _) _).alloc (by simp) _
  have CE := hd (eqReplies_true u v β β' n.sd _ (hu.fr (S := fun _ => False) (Fr.of_below hB) (fun _ _ h => h)) (hv.fr (S := fun _ => False) (Fr.of_below hB) (fun _ _ h => h)))
  obtain ⟨a1, c, rfl, hc, hc'⟩ := hu.form
  obtain ⟨a2, d, rfl, hd1, hd2⟩ := hv.form
  have HB := hd hB
  unfold ntA at *
  generalize n.sd.length = m at *
  generalize n.id = id at *
  generalize n.cl = cc at *
  generalize n.wo = wo at *
  generalize n.sh = sh at *
  obtain ⟨p, q⟩ := s
  simp only at *
  generalize ((p : Int) == (q : Int)) = g at *
  clear hu hv hB hc hc' hd1 hd2
  cases g <;> cases sh <;>
  · go_enter Try.func16, Try.ntmps16
    go_wp2_with fail
    refine CE.out.mono ?_
    rintro e w' ⟨rfl, m, rfl⟩
    go_wp2
    go_ret
    exact ⟨rfl, below_drewN HB.out _⟩

end Go.Proofs.Ytkkklfnooeofcaa
