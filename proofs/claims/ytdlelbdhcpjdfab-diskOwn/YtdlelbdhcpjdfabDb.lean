/-
  Sync, Cut.
-/
import Derived.Test.YtdlelbdhcpjdfabDa
namespace Go.Proofs.Ytdlelbdhcpjdfab
open Go.RowKit
set_option linter.unusedVariables false

theorem DK.drewN {w : World} {r : Nat} {ρ : Option Nat} {B : List Int} {s : Nat} (h : DK w r ρ B s) (m : Nat) : DK (w.drewN m) r ρ B s := h.below (below_drewN (Below.refl _ _) m)

theorem Room.fr {S : Nat → Prop} {w w' : World} {r : Nat} {ρ : Option Nat} {R : List Int} (h : Room w r ρ R) (hb : Fr S w w') (hS : ∀ p, ρ = some p → ¬ S p) : Room w' r ρ R := by
  cases ρ with
  | none => exact h
  | some p => exact ⟨h.1, hb.keeps h.2 (hS p rfl)⟩

theorem Room.ne {w : World} {r : Nat} {ρ : Option Nat} {R : List Int} (h : Room w r ρ R) : ∀ p, ρ = some p → ¬ p = r := by
  rintro p rfl
  exact h.1

/-- Both numbers set anew. -/
theorem DK.set {w : World} {r : Nat} {ρ : Option Nat} {R : List Int} {v1 v2 : Value} (hh : w.heap[r]? = some (.cells #[.slice (roomA ρ) R.length R.length, v1, v2] 56 (0, 0))) (hR : Room w r ρ R) (hl : R.length ≤ 262144) (n s : Nat) (hn : n ≤ R.length) (hs : s ≤ n) :
    DK ((w.setCell ⟨r, 1, none⟩ (.int .i64 n)).setCell ⟨r, 2, none⟩ (.int .i64 s)) r ρ (R.take n) s ∧ Fr (· = r) w ((w.setCell ⟨r, 1, none⟩ (.int .i64 n)).setCell ⟨r, 2, none⟩ (.int .i64 s)) := by
  have f1 : Fr (· = r) w (w.setCell ⟨r, 1, none⟩ (.int .i64 n)) := Fr.setCell _ _ _ rfl
  have f2 := f1.trans (Fr.setCell (w.setCell ⟨r, 1, none⟩ (.int .i64 n)) ⟨r, 2, none⟩ (.int .i64 s) rfl)
  have hl' : (R.take n).length = n := by simp; omega
  refine ⟨⟨R, ?_, hR.fr f2 hR.ne, ?_, by omega, by omega, hl⟩, f2⟩
  · rw [set_row (set_row hh 1 _) 2 _, hl']
    rfl
  · rw [hl']

theorem DK.setS {w : World} {r : Nat} {ρ : Option Nat} {B : List Int} {s : Nat} (h : DK w r ρ B s) (s' : Nat) (hs : s' ≤ B.length) :
    DK (w.setCell ⟨r, 2, none⟩ (.int .i64 s')) r ρ B s' ∧ Fr (· = r) w (w.setCell ⟨r, 2, none⟩ (.int .i64 s')) := by
  obtain ⟨R, hh, hR, h1, h2, h3, h4⟩ := h
  have f1 : Fr (· = r) w (w.setCell ⟨r, 2, none⟩ (.int .i64 s')) := Fr.setCell _ _ _ rfl
  refine ⟨⟨R, ?_, hR.fr f1 hR.ne, h1, h2, hs, h4⟩, f1⟩
  rw [set_row hh 2 _]
  rfl

set_option maxHeartbeats 800000 in
theorem sync_any (r : Nat) (ρ : Option Nat) (B : List Int) (s : Nat) (w : World) (h : DK w r ρ B s) :
    Calls Try.prog 22 #[.pointer (some ⟨r, 0, none⟩)] w fun x w' => x = .returned (.int .i64 ((B.length - s : Nat) : Int)) ∧ DK w' r ρ B B.length ∧ Fr (· = r) w w' := by
  have H := hd h
  have hle := h.size_le
  clear h
  go_enter Try.func22, Try.ntmps22
  go_wp2_with fail
  refine (tail_any r ρ B s _ H.out).mono ?_
  rintro x w1 ⟨a, rfl, ⟨m, rfl⟩, -, -⟩
  have D1 := hd (H.out.drewN m)
  have F1 := hd (Fr.drewN (· = r) w m)
  clear H
  generalize w.drewN m = w1 at *
  have G := hd (D1.out.setS B.length (Nat.le_refl _))
  obtain ⟨R, hh, -⟩ := D1.out
  have c1 := cell_row hh 1
  simp at c1
  have c2 := cell_row hh 2
  simp at c2
  have f2 := frozen_row hh 2
  clear hh D1
  go_wp2
  go_ret
  exact ⟨rfl, G.out.1, F1.out.trans G.out.2⟩

set_option maxHeartbeats 800000 in
theorem cut_bad (r : Nat) (ρ : Option Nat) (B : List Int) (s : Nat) (n : Int) (w : World) (h : DK w r ρ B s) (hn : n < 0 ∨ (B.length : Int) < n) :
    Calls Try.prog 24 #[.pointer (some ⟨r, 0, none⟩), .int .i64 n] w fun x w' => x = .returned (.int .i64 23) ∧ w = w' := by
  obtain ⟨R, hh, -⟩ := h
  have c1 := cell_row hh 1
  simp at c1
  clear hh
  generalize B.length = L at *
  by_cases h0 : n < 0
  · clear hn
    go_enter Try.func24, Try.ntmps24
    go_wp2
    go_ret
    exact ⟨rfl, rfl⟩
  · have h1 : (L : Int) < n := by omega
    clear hn
    go_enter Try.func24, Try.ntmps24
    go_wp2
    go_ret
    exact ⟨rfl, rfl⟩

set_option maxHeartbeats 800000 in
theorem cut_good (r : Nat) (ρ : Option Nat) (B : List Int) (s : Nat) (n : Nat) (w : World) (h : DK w r ρ B s) (hn : n ≤ B.length) :
    Calls Try.prog 24 #[.pointer (some ⟨r, 0, none⟩), .int .i64 n] w fun x w' => x = .returned (.int .i64 0) ∧ DK w' r ρ (B.take n) (min s n) ∧ Fr (· = r) w w' := by
  obtain ⟨R, hh, hR, h1, h2, h3, h4⟩ := h
  have c1 := cell_row hh 1
  simp at c1
  have c2 := cell_row hh 2
  simp at c2
  have f1 := frozen_row hh 1
  have f2 := frozen_row hh 2
  have G := hd (DK.set hh hR h4 n (min s n) (by omega) (by omega))
  have e : R.take n = B.take n := by
    rw [h1, List.take_take, Nat.min_eq_left hn]
  rw [e] at G
  clear hh hR h1 e
  generalize B.length = L at *
  have i1 : ¬ (L : Int) < (n : Int) := by omega
  by_cases hsn : n < s
  · have i2 : (n : Int) < (s : Int) := by omega
    rw [show min s n = n from by omega] at G ⊢
    go_enter Try.func24, Try.ntmps24
    go_wp2
    go_ret
    exact ⟨rfl, G.out⟩
  · have i2 : ¬ (n : Int) < (s : Int) := by omega
    rw [show min s n = s from by omega] at G ⊢
    go_enter Try.func24, Try.ntmps24
    go_wp2
    go_ret
    exact ⟨rfl, G.out⟩

end Go.Proofs.Ytdlelbdhcpjdfab
