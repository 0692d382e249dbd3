/-
  Crash.
-/
import Derived.Test.YtdlelbdhcpjdfabDd
namespace Go.Proofs.Ytdlelbdhcpjdfab
open Go.RowKit
set_option linter.unusedVariables false

set_option maxRecDepth 100000 in
set_option maxHeartbeats 2000000 in
theorem crash_keep (r : Nat) (ρ : Option Nat) (B : List Int) (s : Nat) (keep at_ mask : Int) (w : World) (h : DK w r ρ B s) (hk : keep < 0 ∨ ((B.length - s : Nat) : Int) < keep) :
    Calls Try.prog 25 #[.pointer (some ⟨r, 0, none⟩), .int .i64 keep, .int .i64 at_, .int .i64 mask] w fun x w' => x = .returned (.int .i64 21) ∧ ∃ m, w' = w.drewN m := by
  have H := hd h
  clear h
  by_cases h0 : keep < 0
  · clear hk
    go_enter Try.func25, Try.ntmps25
    go_wp2
    go_ret
    exact ⟨rfl, 0, rfl⟩
  · have h1 : ((B.length - s : Nat) : Int) < keep := by omega
    clear hk
    go_enter Try.func25, Try.ntmps25
    go_wp2_with fail
    refine (tail_any r ρ B s _ H.out).mono ?_
    rintro x w1 ⟨a, rfl, ⟨m, rfl⟩, -, -⟩
    generalize B.length - s = T at *
    go_wp2
    go_ret
    exact ⟨rfl, m, rfl⟩

set_option maxRecDepth 100000 in
set_option maxHeartbeats 2000000 in
theorem crash_garble (r : Nat) (ρ : Option Nat) (B : List Int) (s : Nat) (keep at_ mask : Int) (w : World) (h : DK w r ρ B s) (hk0 : ¬ keep < 0) (hk : ¬ ((B.length - s : Nat) : Int) < keep) (hm : ¬ mask = 0) (hg : ¬ (0 ≤ mask ∧ mask ≤ 255 ∧ 0 ≤ at_ ∧ at_ < keep)) :
    Calls Try.prog 25 #[.pointer (some ⟨r, 0, none⟩), .int .i64 keep, .int .i64 at_, .int .i64 mask] w fun x w' => x = .returned (.int .i64 22) ∧ ∃ m, w' = w.drewN m := by
  have H := hd h
  have hg' := hd (decide_eq_false hg)
  clear h hg
  go_enter Try.func25, Try.ntmps25
  go_wp2_with fail
  refine (tail_any r ρ B s _ H.out).mono ?_
  rintro x w1 ⟨a, rfl, ⟨m, rfl⟩, -, -⟩
  generalize B.length - s = T at *
  go_wp2_with fail
  refine (garbles_any keep at_ mask _).mono ?_
  rintro x w2 ⟨rfl, rfl⟩
  rw [hg'.out]
  go_wp2
  go_ret
  exact ⟨rfl, m, rfl⟩

set_option maxRecDepth 100000 in
set_option maxHeartbeats 2000000 in
theorem crash_plain (r : Nat) (ρ : Option Nat) (B : List Int) (s k : Nat) (at_ : Int) (w : World) (h : DK w r ρ B s) (hk : k ≤ B.length - s) :
    Calls Try.prog 25 #[.pointer (some ⟨r, 0, none⟩), .int .i64 k, .int .i64 at_, .int .i64 0] w fun x w' => x = .returned (.int .i64 0) ∧ DK w' r ρ (B.take (s + k)) (s + k) ∧ Fr (· = r) w w' := by
  have H := hd h
  have hle := h.size_le
  clear h
  go_enter Try.func25, Try.ntmps25
  go_wp2_with fail
  refine (tail_any r ρ B s _ H.out).mono ?_
  rintro x w1 ⟨a, rfl, ⟨m, rfl⟩, -, -⟩
  have D1 := hd (H.out.drewN m)
  have F1 := hd (Fr.drewN (· = r) w m)
  clear H
  generalize w.drewN m = w1 at *
  obtain ⟨R, hh, hR, h1, h2, h3, h4⟩ := D1.out
  have c2 := cell_row hh 2
  simp at c2
  have c1 := cell_row hh 1
  simp at c1
  have f1 := frozen_row hh 1
  have f2 := frozen_row hh 2
  have G := hd (DK.set hh hR h4 (s + k) (s + k) (by omega) (by omega))
  rw [show R.take (s + k) = B.take (s + k) from by rw [h1, List.take_take, Nat.min_eq_left (by omega)]] at G
  clear hh hR h1 D1
  have i1 : ¬ ((B.length - s : Nat) : Int) < (k : Int) := by omega
  generalize hT : B.length - s = T at *
  go_wp2
  go_ret
  exact ⟨rfl, G.out.1, F1.out.trans G.out.2⟩

/-- What the program, and the law, make of a byte and a mask. -/
def xorB (y mask : Int) : Int := bits BinOp.xor IntKind.u8 y mask

theorem ints_set (R : List Int) (i : Nat) (z : Int) : (ints R).set i (.int .u8 z) = ints (R.set i z) := by
  simp [ints, List.map_set]

theorem DK.mask {w : World} {r p : Nat} {B : List Int} {s k j : Nat} (z : Int) (h : DK w r (some p) B s) (hk : s + k ≤ B.length) (hj : j < k) :
    DK (((w.setCell ⟨p, s + j, none⟩ (.int .u8 z)).setCell ⟨r, 1, none⟩ (.int .i64 ((s : Int) + (k : Int)))).setCell ⟨r, 2, none⟩ (.int .i64 ((s : Int) + (k : Int)))) r (some p) ((B.take (s + k)).set (s + j) z) (s + k) ∧
      Fr (Own r (some p)) w (((w.setCell ⟨p, s + j, none⟩ (.int .u8 z)).setCell ⟨r, 1, none⟩ (.int .i64 ((s : Int) + (k : Int)))).setCell ⟨r, 2, none⟩ (.int .i64 ((s : Int) + (k : Int)))) := by
  obtain ⟨R, hh, ⟨hpr, hR⟩, h1, h2, h3, h4⟩ := h
  have f1 : Fr (· = p) w (w.setCell ⟨p, s + j, none⟩ (.int .u8 z)) := Fr.setCell _ _ _ rfl
  have hh1 := f1.keeps hh (fun e => hpr e.symm)
  have hl : (R.set (s + j) z).length = R.length := by simp
  rw [← hl] at hh1
  have hR1 : (w.setCell ⟨p, s + j, none⟩ (.int .u8 z)).heap[p]? = some (.cells (ints (R.set (s + j) z)).toArray 5 (0, 0)) := by
    rw [set_row hR (s + j) _, ← ints_set]
    simp
  have G := DK.set (ρ := some p) (R := R.set (s + j) z) hh1 ⟨hpr, hR1⟩ (by omega) (s + k) (s + k) (by omega) (Nat.le_refl _)
  rw [Int.natCast_add] at G
  refine ⟨?_, (f1.mono (fun k _ e => .inr (by rw [e]))).trans (G.2.mono (fun k _ e => .inl e))⟩
  have e : (R.set (s + j) z).take (s + k) = (B.take (s + k)).set (s + j) z := by
    rw [h1, List.take_take, Nat.min_eq_left (by omega), List.take_set]
  rw [← e]
  exact G.1

set_option maxRecDepth 100000 in
set_option maxHeartbeats 2000000 in
theorem crash_mask (r p : Nat) (B : List Int) (s k j : Nat) (mask : Int) (w : World) (h : DK w r (some p) B s) (hk : k ≤ B.length - s) (hj : j < k) (hm : ¬ mask = 0) (hg : 0 ≤ mask ∧ mask ≤ 255) (y : Int) (hy : B.getD (s + j) 0 = y) :
    Calls Try.prog 25 #[.pointer (some ⟨r, 0, none⟩), .int .i64 k, .int .i64 j, .int .i64 mask] w fun x w' => x = .returned (.int .i64 0) ∧ DK w' r (some p) ((B.take (s + k)).set (s + j) (xorB y mask)) (s + k) ∧ Fr (Own r (some p)) w w' := by
  have HY := hd hy
  clear hy
  have H := hd h
  have hle := h.size_le
  have hg' : Hid (decide (0 ≤ mask ∧ mask ≤ 255 ∧ 0 ≤ (j : Int) ∧ (j : Int) < (k : Int)) = true) := decide_eq_true (by omega)
  clear h
  go_enter Try.func25, Try.ntmps25
  go_wp2_with fail
  refine (tail_any r (some p) B s _ H.out).mono ?_
  rintro x w1 ⟨a, rfl, ⟨m, rfl⟩, -, -⟩
  have D1 := hd (H.out.drewN m)
  have F1 := hd (Fr.drewN (Own r (some p)) w m)
  clear H
  generalize w.drewN m = w1 at *
  have i1 : ¬ ((B.length - s : Nat) : Int) < (k : Int) := by omega
  have i2 : (j : Int) < ((B.length - s : Nat) : Int) := by omega
  go_wp2_with fail
  refine (garbles_any k j mask _).mono ?_
  rintro x w2 ⟨rfl, rfl⟩
  rw [hg'.out]
  go_wp2_with fail
  refine (tail_any r (some p) B s _ D1.out).mono ?_
  rintro x w2 ⟨a2, rfl, ⟨m2, rfl⟩, -, hpos⟩
  obtain ⟨p', e', rfl⟩ := hpos (by omega)
  obtain rfl := Option.some.inj e'
  have D2 := hd (D1.out.drewN m2)
  have F2 := hd (F1.out.trans (Fr.drewN (Own r (some p)) w1 m2))
  clear D1 F1
  generalize w1.drewN m2 = w2 at *
  obtain ⟨R, hh, ⟨hpr, hR⟩, h1, h2, h3, h4⟩ := D2.out
  have c2 := cell_row hh 2
  simp at c2
  have c1 := cell_row hh 1
  simp at c1
  have f1 := frozen_row hh 1
  have f2 := frozen_row hh 2
  have b1 : w2.cell? ⟨p, s + j, none⟩ = some (.int .u8 y) := by
    rw [cell_row hR, ← HY.out]
    simp only [List.getElem?_toArray]
    rw [ints_get _ _ (by omega)]
    congr 2
    rw [h1]
    simp [List.getD, List.getElem?_take]
    rw [if_pos (by omega)]
  have b2 := frozen_row hR (s + j)
  have Z := hd (D2.out.mask (k := k) (j := j) (xorB y mask) (by omega) hj)
  clear hh hR h1 D2
  go_wp2
  go_ret
  exact ⟨rfl, Z.out.1, F2.out.trans Z.out.2⟩

end Go.Proofs.Ytdlelbdhcpjdfab
