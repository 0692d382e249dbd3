/-
  The file of the document: Crash.
-/
import Derived.Test.YtdlelbdhcpjdfabRb
namespace Go.Proofs.Ytdlelbdhcpjdfab
open Go.RowKit
set_option linter.unusedVariables false

set_option maxRecDepth 100000 in
set_option maxHeartbeats 2000000 in
theorem rcrash_keep (r : Nat) (β : Option Nat) (B : List Int) (s : Nat) (keep at_ mask : Int) (w : World) (h : RK w r β B s) (hk : keep < 0 ∨ (B.length : Int) - (s : Int) < keep) :
    Calls Try.prog 33 #[.pointer (some ⟨r, 0, none⟩), .int .i64 keep, .int .i64 at_, .int .i64 mask] w fun x w' => x = .returned (.int .i64 21) ∧ ∃ m, w' = w.drewN m := by
  have hle := h.size_le
  obtain ⟨v, hh, hR, -⟩ := h
  obtain ⟨a, c, rfl, hB, -⟩ := hR.form
  have c0 := cell_row hh 0
  have c1 := cell_row hh 1
  simp at c0 c1
  clear hh hR hB
  generalize B.length = L at *
  by_cases h0 : keep < 0
  · clear hk
    go_enter Try.func33, Try.ntmps33
    go_wp2
    go_quiet (fail)
    go_wp2
    go_ret
    exact ⟨rfl, nq, rfl⟩
  · have h1 : (L : Int) - (s : Int) < keep := by omega
    clear hk
    go_enter Try.func33, Try.ntmps33
    go_wp2
    go_quiet (fail)
    go_wp2
    go_ret
    exact ⟨rfl, nq, rfl⟩

set_option maxRecDepth 100000 in
set_option maxHeartbeats 2000000 in
theorem rcrash_garble (r : Nat) (β : Option Nat) (B : List Int) (s : Nat) (keep at_ mask : Int) (w : World) (h : RK w r β B s) (hk0 : ¬ keep < 0) (hk : ¬ (B.length : Int) - (s : Int) < keep) (hm : ¬ mask = 0) (hg : ¬ (0 ≤ mask ∧ mask ≤ 255 ∧ 0 ≤ at_ ∧ at_ < keep)) :
    Calls Try.prog 33 #[.pointer (some ⟨r, 0, none⟩), .int .i64 keep, .int .i64 at_, .int .i64 mask] w fun x w' => x = .returned (.int .i64 22) ∧ ∃ m, w' = w.drewN m := by
  have hle := h.size_le
  obtain ⟨v, hh, hR, -⟩ := h
  obtain ⟨a, c, rfl, hB, -⟩ := hR.form
  have c0 := cell_row hh 0
  have c1 := cell_row hh 1
  simp at c0 c1
  clear hh hR hB
  generalize B.length = L at *
  have hmb : (mask != 0) = true := by simpa using hm
  have hor : mask < 0 ∨ (¬ mask < 0 ∧ 255 < mask) ∨ (¬ mask < 0 ∧ ¬ 255 < mask ∧ at_ < 0) ∨ (¬ mask < 0 ∧ ¬ 255 < mask ∧ ¬ at_ < 0 ∧ keep ≤ at_) := by omega
  clear hg
  rcases hor with q1 | ⟨q1, q2⟩ | ⟨q1, q2, q3⟩ | ⟨q1, q2, q3, q4⟩
  all_goals (
    go_enter Try.func33, Try.ntmps33
    go_wp2
    go_quiet (fail)
    go_wp2
    go_ret
    exact ⟨rfl, nq, rfl⟩)

set_option maxRecDepth 100000 in
set_option maxHeartbeats 4000000 in
theorem rcrash_plain (r : Nat) (β : Option Nat) (B : List Int) (s k : Nat) (at_ : Int) (w : World) (h : RK w r β B s) (hk : s + k ≤ B.length)  :
    Calls Try.prog 33 #[.pointer (some ⟨r, 0, none⟩), .int .i64 k, .int .i64 at_, .int .i64 0] w fun x w' => x = .returned (.int .i64 0) ∧ RNow w w' r β ⟨0, B.take (s + k), s + k⟩ := by
  have hle := h.size_le
  obtain ⟨v, hh, hR, -⟩ := h
  obtain ⟨a, c, rfl, hB, -⟩ := hR.form
  have c0 := cell_row hh 0
  have c1 := cell_row hh 1
  simp at c0 c1
  have X := hd hB
  have HH := hd hh
  have hrl := hd (block_lt hh)
  clear hh hR hB
  have i1 : ¬ (B.length : Int) - (s : Int) < (k : Int) := by omega
  have hw : IntKind.i64.wrap ((s : Int) + (k : Int)) = (s : Int) + (k : Int) := by
    rw [IntKind.wrap_i64]
    omega
  go_enter Try.func33, Try.ntmps33
  go_wp2
  go_quiet (fail)
  have B1 := hd (below_drewN (Below.refl w.heap.size w) nq)
  have X1 := hd (X.out.below B1.out)
  have H1 : Hid ((w.drewN nq).heap[r]? = some (.cells #[.slice a B.length c, .int .i64 s] 69 (0, 0))) := (B1.out.block r hrl.out).trans HH.out
  have d0 := cell_row H1.out 0
  have d1 := cell_row H1.out 1
  simp only [List.getElem?_toArray, List.getElem?_cons_zero, List.getElem?_cons_succ] at d0 d1
  clear X HH c0 c1
  have hsz : Hid (w.heap.size ≤ (w.drewN nq).heap.size) := Nat.le_refl _
  generalize w.drewN nq = w1 at *
  have X2 := hd (X1.out.fr (Fr.drew (fun _ => False) w1) (fun _ _ _ _ h => h))
  have H2 := hd ((Fr.drew (fun _ => False) w1).keeps H1.out (fun h => h))
  have B2 : Hid (Below w.heap.size w w1.drew) := B1.out.drew
  go_wp2_with fail
  go_region_held3 (fun w' => w'.cell? ⟨r, 0, none⟩ = some (.slice a B.length c) ∧ w'.cell? ⟨r, 1, none⟩ = some (.int .i64 s)) (first | go_keep | (exact ⟨by assumption, by assumption⟩)) (first | (go_at_call 42; refine (part_any a B.length c (s + k) B _ X2.out hk (by omega)).mono ?_; rintro e w2 ⟨g, rfl, hg, hRow, hb⟩; have H3 := hd ((Fr.of_below hb : Fr (fun _ => False) _ _).keeps H2.out (fun h => h)); have k0 : w2.cell? ⟨r, 0, none⟩ = some (.slice a B.length c) := (cell_row H3.out 0).trans rfl; have k1 : w2.cell? ⟨r, 1, none⟩ = some (.int .i64 s) := (cell_row H3.out 1).trans rfl; have RW := hd hRow; have B3 := hd (B2.out.trans (hb.mono B2.out.size)); have hgl : Hid (w.heap.size ≤ g) := Nat.le_trans B2.out.size hg; clear hRow hb hg))
  have f0 := frozen_row H3.out 0
  have f1 := frozen_row H3.out 1
  have hgr : ¬ g = r := by
    have h1 := hgl.out
    have h2 := hrl.out
    omega
  have Z0 := RK.set H3.out RW.out hgr (by omega) (s + k) (Nat.le_refl _)
  rw [Int.natCast_add] at Z0
  have Z : Hid (RNow w ((w2.setCell ⟨r, 0, none⟩ (.slice (some ⟨g, 0, none⟩) (s + k) (s + k))).setCell ⟨r, 1, none⟩ (.int .i64 ((s : Int) + (k : Int)))) r β ⟨0, B.take (s + k), s + k⟩) := RNow.of_new B3.out Z0.1 Z0.2 hgl.out
  clear Z0 RW B3 H1 H2 H3 X1 X2 B1 B2
  go_wp2
  go_ret
  exact ⟨rfl, Z.out⟩

set_option maxRecDepth 100000 in
set_option maxHeartbeats 4000000 in
theorem rcrash_mask (r : Nat) (β : Option Nat) (B : List Int) (s k : Nat) (j : Nat) (mask : Int) (w : World) (h : RK w r β B s) (hk : s + k ≤ B.length) (hj : j < k) (hm : ¬ mask = 0) (hg0 : 0 ≤ mask) (hg1 : mask ≤ 255) (y : Int) (hy : B.getD (s + j) 0 = y) :
    Calls Try.prog 33 #[.pointer (some ⟨r, 0, none⟩), .int .i64 k, .int .i64 j, .int .i64 mask] w fun x w' => x = .returned (.int .i64 0) ∧ RNow w w' r β ⟨0, (B.take (s + k)).set (s + j) (xorB y mask), s + k⟩ := by
  have hle := h.size_le
  obtain ⟨v, hh, hR, -⟩ := h
  obtain ⟨a, c, rfl, hB, -⟩ := hR.form
  have c0 := cell_row hh 0
  have c1 := cell_row hh 1
  simp at c0 c1
  have X := hd hB
  have HY := hd hy
  clear hy
  have HH := hd hh
  have hrl := hd (block_lt hh)
  clear hh hR hB
  have i1 : ¬ (B.length : Int) - (s : Int) < (k : Int) := by omega
  have hw : IntKind.i64.wrap ((s : Int) + (k : Int)) = (s : Int) + (k : Int) := by
    rw [IntKind.wrap_i64]
    omega
  go_enter Try.func33, Try.ntmps33
  go_wp2
  go_quiet (fail)
  have B1 := hd (below_drewN (Below.refl w.heap.size w) nq)
  have X1 := hd (X.out.below B1.out)
  have H1 : Hid ((w.drewN nq).heap[r]? = some (.cells #[.slice a B.length c, .int .i64 s] 69 (0, 0))) := (B1.out.block r hrl.out).trans HH.out
  have d0 := cell_row H1.out 0
  have d1 := cell_row H1.out 1
  simp only [List.getElem?_toArray, List.getElem?_cons_zero, List.getElem?_cons_succ] at d0 d1
  clear X HH c0 c1
  have hsz : Hid (w.heap.size ≤ (w.drewN nq).heap.size) := Nat.le_refl _
  generalize w.drewN nq = w1 at *
  have X2 := hd (X1.out.fr (Fr.drew (fun _ => False) w1) (fun _ _ _ _ h => h))
  have H2 := hd ((Fr.drew (fun _ => False) w1).keeps H1.out (fun h => h))
  have B2 : Hid (Below w.heap.size w w1.drew) := B1.out.drew
  go_wp2_with fail
  go_region_held3 (fun w' => w'.cell? ⟨r, 0, none⟩ = some (.slice a B.length c) ∧ w'.cell? ⟨r, 1, none⟩ = some (.int .i64 s)) (first | go_keep | (exact ⟨by assumption, by assumption⟩)) (first | (go_at_call 42; refine (part_any a B.length c (s + k) B _ X2.out hk (by omega)).mono ?_; rintro e w2 ⟨g, rfl, hg, hRow, hb⟩; have H3 := hd ((Fr.of_below hb : Fr (fun _ => False) _ _).keeps H2.out (fun h => h)); have k0 : w2.cell? ⟨r, 0, none⟩ = some (.slice a B.length c) := (cell_row H3.out 0).trans rfl; have k1 : w2.cell? ⟨r, 1, none⟩ = some (.int .i64 s) := (cell_row H3.out 1).trans rfl; have RW := hd hRow; have B3 := hd (B2.out.trans (hb.mono B2.out.size)); have hgl : Hid (w.heap.size ≤ g) := Nat.le_trans B2.out.size hg; clear hRow hb hg))
  have f0 := frozen_row H3.out 0
  have f1 := frozen_row H3.out 1
  have hgr : ¬ g = r := by
    have h1 := hgl.out
    have h2 := hrl.out
    omega
  have e3 : w2.cell? ⟨g, s + j, none⟩ = some (.int .u8 y) := by
    rw [RW.out.cell (s + j) (by omega), ← HY.out]
    congr 2
    simp [List.getD, List.getElem?_take]
    rw [if_pos (by omega)]
  have f3 := RW.out.frozen (s + j)
  have hwj : IntKind.i64.wrap ((s : Int) + (j : Int)) = (s : Int) + (j : Int) := by
    rw [IntKind.wrap_i64]
    omega
  have i3 : (s : Int) + (j : Int) < (s : Int) + (k : Int) := by omega
  have i4 : (0 : Int) ≤ (s : Int) + (j : Int) := by omega
  have i5 : ((s : Int) + (j : Int)).toNat = s + j := by omega
  have hrg : ¬ r = g := fun e => hgr e.symm
  have hxy : Hid (xorB y mask = bits BinOp.xor IntKind.u8 y mask) := rfl
  have H4 := hd ((Fr.drew (fun _ => False) w2).keeps H3.out (fun h => h))
  have Z0 : RowB ((w2.drew).setCell ⟨g, s + j, none⟩ (.int .u8 (xorB y mask))) g (s + k) (s + k) ((B.take (s + k)).set (s + j) (xorB y mask)) := (RW.out.fr (Fr.drew (fun _ => False) w2) (fun h => h)).set (s + j) _ (by omega)
  have H5 : (w2.drew.setCell ⟨g, s + j, none⟩ (.int .u8 (xorB y mask))).heap[r]? = some (.cells #[.slice a B.length c, .int .i64 s] 69 (0, 0)) := (Fr.setCell (S := (· = g)) w2.drew ⟨g, s + j, none⟩ _ rfl).keeps H4.out hrg
  have Z1 := RK.set H5 Z0 hgr (by omega) (s + k) (Nat.le_refl _)
  rw [Int.natCast_add] at Z1
  have BF : Below w.heap.size w (w2.drew.setCell ⟨g, s + j, none⟩ (.int .u8 (xorB y mask))) := (B3.out.drew).setCell (p := ⟨g, s + j, none⟩) hgl.out _
  have Z : Hid (RNow w (((w2.drew.setCell ⟨g, s + j, none⟩ (.int .u8 (bits BinOp.xor IntKind.u8 y mask))).setCell ⟨r, 0, none⟩ (.slice (some ⟨g, 0, none⟩) (s + k) (s + k))).setCell ⟨r, 1, none⟩ (.int .i64 ((s : Int) + (k : Int)))) r β ⟨0, (B.take (s + k)).set (s + j) (xorB y mask), s + k⟩) := RNow.of_new BF Z1.1 Z1.2 hgl.out
  clear Z0 Z1 BF RW B3 H1 H2 H4 H5 X1 X2 B1 B2 hxy
  go_wp2_with fail
  go_region_law (fail)
  all_goals (
    go_wp2
    go_ret
    exact ⟨rfl, Z.out⟩)


theorem rcrash_any (r : Nat) (β : Option Nat) (B : List Int) (s : Nat) (keep at_ mask : Int) (w : World) (h : RK w r β B s) :
    Calls Try.prog 33 #[.pointer (some ⟨r, 0, none⟩), .int .i64 keep, .int .i64 at_, .int .i64 mask] w fun x w' => x = .returned (.int .i64 (crashP keep at_ mask B s).e) ∧ RNow w w' r β (crashP keep at_ mask B s) := by
  have hle := h.size_le
  unfold crashP
  by_cases hk : keep < 0 ∨ ((B.length - s : Nat) : Int) < keep
  · rw [if_pos hk]
    refine (rcrash_keep r β B s keep at_ mask w h (by omega)).mono ?_
    rintro x w' ⟨rfl, m, rfl⟩
    exact ⟨rfl, RNow.of_fr (t := ⟨21, B, s⟩) (h.drewN m) (Fr.drewN _ _ _)⟩
  · rw [if_neg hk]
    obtain ⟨k, rfl⟩ := Int.eq_ofNat_of_zero_le (show 0 ≤ keep by omega)
    by_cases hm : mask = 0
    · rw [if_pos hm]
      subst hm
      exact rcrash_plain r β B s k at_ w h (by omega)
    · rw [if_neg hm]
      by_cases hg : 0 ≤ mask ∧ mask ≤ 255 ∧ 0 ≤ at_ ∧ at_ < (k : Int)
      · rw [if_pos hg]
        obtain ⟨j, rfl⟩ := Int.eq_ofNat_of_zero_le hg.2.2.1
        exact rcrash_mask r β B s k j mask w h (by omega) (by omega) hm hg.1 hg.2.1 _ rfl
      · rw [if_neg hg]
        refine (rcrash_garble r β B s k at_ mask w h (by omega) (by omega) hm hg).mono ?_
        rintro x w' ⟨rfl, m, rfl⟩
        exact ⟨rfl, RNow.of_fr (t := ⟨22, B, s⟩) (h.drewN m) (Fr.drewN _ _ _)⟩

end Go.Proofs.Ytdlelbdhcpjdfab
