/-
  Texts put together: Xi Xj Xk.
-/
import Derived.Test.YtkkklfnooeofcabXc
import Derived.Test.YtkkklfnooeofcabMJo
/-! Xi -/
namespace Go.Proofs.Ytkkklfnooeofcab
open Go.RowKit
set_option linter.unusedVariables false

set_option maxRecDepth 100000 in
set_option maxHeartbeats 4000000 in
theorem eqElems_true (u v : Value) (β β' : Option Nat) (xs : List El) (w : World) (hu : SF elc 3 w 41 β u xs) (hv : SF elc 3 w 41 β' v xs) :
    Calls Try.prog 46 #[u, v] w fun e w' => e = .returned (.bool true) ∧ ∃ m, w' = w.drewN m := by
  obtain ⟨a1, c, rfl, hc, hc'⟩ := hu.form
  obtain ⟨a2, d, rfl, hd1, hd2⟩ := hv.form
  have RU := hd (fun k hk => hu.e3 k hk)
  have RV := hd (fun k hk => hv.e3 k hk)
  obtain ⟨n, hn⟩ : ∃ n, xs.length = n := ⟨_, rfl⟩
  rw [hn] at hc hd1 ⊢
  have HN := hd hn
  clear hu hv hn
  go_enter Try.func46, Try.ntmps46
  go_wp2
  go_loopw [5] (fun i wr => ∃ k m : Nat, k ≤ n ∧ i = .int .i64 k ∧ wr = w.drewN m) (fun i _ => n - (intOf i).toNat)
  case atStart => exact ⟨0, 0, Nat.zero_le _, rfl, rfl⟩
  case round =>
    obtain ⟨k, m, hk, rfl, rfl⟩ := hrel
    by_cases hlt : k < n
    · have kx : k < xs.length := by have := HN.out; omega
      obtain ⟨b1, rfl, x0, x1, x2⟩ := RU.out k kx
      obtain ⟨b2, rfl, y0, y1, y2⟩ := RV.out k kx
      have i1 : (k : Int) < (n : Int) := by omega
      generalize xs[k] = x at *
      obtain ⟨xa, xb, xc⟩ := x
      simp only [] at x0 x1 x2 y0 y1 y2
      go_wp2
      go_big_quiet (fail)
      go_wp2
      exact ⟨⟨k + 1, _, by omega, by go_num, rfl⟩, by simp [intOf]; omega⟩
    · obtain rfl : k = n := by omega
      go_wp2
      go_ret
      exact ⟨rfl, _, rfl⟩

end Go.Proofs.Ytkkklfnooeofcab

/-! Xj -/
namespace Go.Proofs.Ytkkklfnooeofcab
open Go.RowKit
set_option linter.unusedVariables false

/-- append of a whole text onto an empty row of the call's own. -/
theorem push_isE (w : World) (b : Nat) (hb : w.heap[b]? = some (.cells #[] 41 (0, 0))) (a : Option Addr) (n c : Nat) (xs : List El) (hE : IsE w a n c xs) (hl : roomy n 24) :
    ∃ v' w' g', (∀ ty, (Builtin.append_ #[24, 24] ty #[.slice (some ⟨b, 0, none⟩) 0 0, .slice a n c]).run Try.prog w = .ok v' w') ∧ SF elc 3 w' 41 (some g') v' xs ∧ (g' = b ∨ g' = w.heap.size) ∧ Fr (· = b) w w' := by
  obtain ⟨i0, hi0, hz0, hz1, hz2⟩ := info_parts Try.infoE
  obtain ⟨h1, h2, h3, h4⟩ := hE
  by_cases h0 : n = 0
  · subst h0
    obtain rfl : xs = [] := List.eq_nil_of_length_eq_zero h1
    have hlc : ∀ (x : Addr), (loadCells x 0).run Try.prog w = .ok #[] w := fun x => by simpa using run_loadCells_list (P := Try.prog) w x [] (by simp)
    refine ⟨.slice (some ⟨b, 0, none⟩) 0 0, w, b, fun ty => ?_, ⟨0, rfl, [], by simpa using hb, by simp [cl_nil], rfl, Nat.le_refl _, by omega, by simp⟩, .inl rfl, Fr.refl _ _⟩
    cases a with
    | none => simp [Builtin.append_, run_underlying Try.underlying24, sizeOf, typeInfo, hi0, Builtin.lenOf, Builtin.firstCells, storeCells]
    | some a => simp [Builtin.append_, run_underlying Try.underlying24, sizeOf, typeInfo, hi0, Builtin.lenOf, Builtin.firstCells, storeCells, hlc]
  · obtain ⟨g, off, rfl, hg, hc⟩ := h4 (by omega)
    subst h1
    exact run_clone sz_elc w 24 41 i0 _ 24 Try.underlying24 hi0 hz0 hz1 rfl hz2 b c ⟨g, off, none⟩ hb xs (fun j u hj => by rw [add_lit]; exact hc j u hj) hl

def mkR (xs : List El) : List El := xs ++ [(0, -7, 0), (0, -8, 0)]
theorem mkR_len (xs : List El) : (mkR xs).length = xs.length + 2 := by simp [mkR]

set_option maxRecDepth 100000 in
set_option maxHeartbeats 8000000 in
theorem room_any (a : Option Addr) (n c : Nat) (xs : List El) (w : World) (hE : IsE w a n c xs) (hn : n ≤ 900000) :
    Calls Try.prog 16 #[.slice a n c] w fun e w' => ∃ g c', e = .returned (.slice (some ⟨g, 0, none⟩) (n + 2) c') ∧ w.heap.size ≤ g ∧ SF elc 3 w' 41 (some g) (.slice (some ⟨g, 0, none⟩) (n + 2) c') (mkR xs) ∧ Below w.heap.size w w' := by
  have hxn : xs.length = n := hE.1
  have F0 : Fr (fun _ => False) w (w.alloc (.cells #[] 41)) := Fr.alloc _ _ _
  obtain ⟨v1, w1, g1, hr1, hS1, hg1, hF1⟩ := push_isE (w.alloc (.cells #[] 41)) w.heap.size (heap_alloc_new w _) a n c xs (hE.fr F0 (fun _ _ _ _ h => h)) (roomy24 n (by omega))
  obtain ⟨a1, c1, rfl, -, -⟩ := hS1.form
  rw [hxn] at hr1 hS1
  have z1 : w.heap.size ≤ g1 := by
    rcases hg1 with h | h
    · omega
    · have := F0.size; omega
  have B1 : Below w.heap.size w w1 := ((Below.refl _ _).alloc (Nat.le_refl _) _).trans (hF1.below F0.size (fun j hj => by omega))
  have F2 : Fr (fun _ => False) w1 (w1.alloc (.cells #[.int .u8 0, .int .i64 (-7), .int .i64 0, .int .u8 0, .int .i64 (-8), .int .i64 0] 41)) := Fr.alloc _ _ _
  obtain ⟨v2, w2, hr2, hN2⟩ := push_two sz_elc Try.underlying24 Try.infoE rfl (w1.alloc (.cells #[.int .u8 0, .int .i64 (-7), .int .i64 0, .int .u8 0, .int .i64 (-8), .int .i64 0] 41)) (some g1) (.slice a1 n c1) xs (hS1.fr F2 (fun _ _ h => h)) w1.heap.size (0, -7, 0) (0, -8, 0) (heap_alloc_new w1 _) (roomy24 _ (by omega))
  obtain ⟨g2, hS2, hg2, hF2⟩ := now_out hN2
  have Z : Hid (∃ c', v2 = .slice (some ⟨g2, 0, none⟩) (n + 2) c' ∧ w.heap.size ≤ g2 ∧ SF elc 3 w2 41 (some g2) v2 (mkR xs) ∧ Below w.heap.size w w2) := by
    obtain ⟨cap, hv, hR⟩ := hS2
    have hl : (xs ++ [((0 : Int), ((-7 : Int), (0 : Int))), (0, -8, 0)]).length = n + 2 := by simp [hxn]
    have hv2 := hv
    rw [hl] at hv2
    have hb1 := B1.size
    refine ⟨cap, hv2, ?_, ⟨cap, hv, hR⟩, (B1.trans ((Fr.of_below (S := fun _ => False) ((Below.refl _ _).alloc (Nat.le_refl _) _)).below hb1 (fun _ h => h.elim))).trans (hF2.below (Nat.le_trans hb1 F2.size) (fun j hj => ?_))⟩
    · rcases hg2 with h | h
      · injection h with h; omega
      · have := F2.size; omega
    · injection hj with hj; omega
  obtain ⟨a2, c2, rfl⟩ := hN2.slice
  have hl : (xs ++ [((0 : Int), ((-7 : Int), (0 : Int))), (0, -8, 0)]).length = n + 2 := by simp [hxn]
  rw [hl] at hr2 Z
  clear hN2 hS2 hg2 hF2 F2 B1 z1 hg1 hF1 hS1 F0 hE hl
  go_enter Try.func16, Try.ntmps16
  go_upto_region 2 with (at_builtin; refine wpList_append_k _ rfl (.tmp 4) (.tmp 5) 24 24 rfl _ _ rfl rfl (hr1 _) ?_)
  clear hr1
  go_wp2_with (at_builtin; refine wpList_append_k _ rfl (.tmp 7) (.tmp 10) 24 24 rfl _ _ rfl rfl (hr2 _) ?_)
  go_ret
  obtain ⟨c', e1, h1, h2, h3⟩ := Z.out
  injection e1 with e1 e2 e3
  subst e1 e3
  exact ⟨g2, _, rfl, h1, h2, h3⟩

end Go.Proofs.Ytkkklfnooeofcab

/-! Xk -/
namespace Go.Proofs.Ytkkklfnooeofcab
open Go.RowKit
set_option linter.unusedVariables false

/-- A row of elements of which nothing is said. -/
def CB (w : World) (g N : Nat) : Prop := ∃ cs : Array Value, w.heap[g]? = some (.cells cs 41 (0, 0)) ∧ N * 3 ≤ cs.size
theorem CB.cell {w : World} {g N : Nat} (h : CB w g N) (i j : Nat) (hi : i < N) (hj : j < 3) : ∃ v, w.cell? ⟨g, i * 3 + j, none⟩ = some v := by
  obtain ⟨cs, h1, h2⟩ := h
  exact ⟨cs[i * 3 + j]'(by omega), by rw [cell_row h1, Array.getElem?_eq_getElem]⟩
theorem CB.frozen {w : World} {g N : Nat} (h : CB w g N) (i : Nat) : w.frozen? ⟨g, i, none⟩ = false := by
  obtain ⟨cs, h1, h2⟩ := h
  exact frozen_row h1 i
theorem CB.set {w : World} {g N : Nat} (h : CB w g N) (i : Nat) (u : Value) : CB (w.setCell ⟨g, i, none⟩ u) g N := by
  obtain ⟨cs, h1, h2⟩ := h
  exact ⟨_, set_row h1 i u, by simpa using h2⟩

theorem CB3.of {w wr : World} {g N : Nat} (h1 : CB wr g N) (h2 : Fr (fun j => j = g) w wr) (i : Nat) (u0 u1 u2 : Value) : CB (((wr.setCell ⟨g, i, none⟩ u0).setCell ⟨g, i + 1, none⟩ u1).setCell ⟨g, i + 2, none⟩ u2) g N ∧ Fr (fun j => j = g) w (((wr.setCell ⟨g, i, none⟩ u0).setCell ⟨g, i + 1, none⟩ u1).setCell ⟨g, i + 2, none⟩ u2) := by
  have o : ∀ (v : World) (j : Nat) (x : Value), Fr (fun j => j = g) v (v.setCell ⟨g, j, none⟩ x) := fun v j x => Fr.setCell v _ x rfl
  exact ⟨((h1.set _ _).set _ _).set _ _, ((h2.trans (o _ _ _)).trans (o _ _ _)).trans (o _ _ _)⟩

set_option maxRecDepth 100000 in
set_option maxHeartbeats 8000000 in
theorem kept_any (g c' N : Nat) (a : Option Addr) (n c : Nat) (xs : List El) (w : World) (hE : IsE w a n c xs) (hn : n ≤ 900000) (hS : SF elc 3 w 41 (some g) (.slice (some ⟨g, 0, none⟩) N c') (mkR xs)) :
    Calls Try.prog 26 #[.slice (some ⟨g, 0, none⟩) N c', .slice a n c] w fun e w' => e = .returned (.bool true) ∧ Fr (fun j => j = g) w w' := by
  have hxn : xs.length = n := hE.1
  have hN : N = n + 2 := by
    obtain ⟨cap, hv, -⟩ := hS
    have := (Value.slice.inj hv).2.1
    rw [mkR_len] at this
    omega
  have hc : N ≤ c' ∧ c' ≤ 9223372036854775807 := by obtain ⟨a', d', hv, h1, h2⟩ := hS.form; obtain ⟨-, -, rfl⟩ := Value.slice.inj hv; exact ⟨by rw [mkR_len] at h1; omega, h2⟩
  have CR := hd (room_any a n c xs w hE hn)
  have HS := hd hS
  have HN := hd hN
  clear hE hS hxn hN
  go_enter Try.func26, Try.ntmps26
  go_upto_region 2 with (first
    | (go_at_call 16; refine CR.out.mono ?_; rintro e w1 ⟨g1, c1, rfl, hg1, hS1, hb1⟩)
    | (go_at_call 46; refine (eqElems_true _ _ (some g) (some g1) (mkR xs) w1 (HS.out.fr (S := fun _ => False) (Fr.of_below hb1) (fun _ _ h => h)) hS1).mono ?_; rintro e w2 ⟨rfl, q, rfl⟩))
  have hS2 := (HS.out.fr (S := fun _ => False) (Fr.of_below hb1) (fun _ _ h => h)).fr (Fr.drewN (fun _ => False) w1 q) (fun _ _ h => h)
  have Z0 : Hid (CB (w1.drewN q) g N ∧ Fr (fun j => j = g) w (w1.drewN q)) := by
    obtain ⟨cap, hv, cur, hh, ht, hl, h1, h2, h3⟩ := hS2
    rw [mkR_len] at h1 hv
    have hN := HN.out
    refine ⟨⟨cur.toArray, hh, ?_⟩, (Fr.of_below hb1).trans (Fr.drewN _ _ _)⟩
    have := (Value.slice.inj hv).2.1
    simp
    omega
  clear hS2 hS1 hb1 hg1 CR HS
  go_wp2
  go_loopw [6] (fun iv wr => ∃ k : Nat, iv = .int .i64 k ∧ k ≤ N ∧ Hid (CB wr g N ∧ Fr (fun j => j = g) w wr)) (fun iv _ => N - (intOf iv).toNat)
  case atStart => exact ⟨0, rfl, Nat.zero_le _, Z0⟩
  case round =>
    obtain ⟨k, rfl, hk, hI⟩ := hrel
    clear Z0
    by_cases hlt : k < N
    · obtain ⟨hI1, hI2⟩ := hI.out
      obtain ⟨y0, d0⟩ := hI1.cell k 0 hlt (by omega); obtain ⟨y1, d1⟩ := hI1.cell k 1 hlt (by omega); obtain ⟨y2, d2⟩ := hI1.cell k 2 hlt (by omega)
      have f0 := hI1.frozen (k * 3); have f1 := hI1.frozen (k * 3 + 1); have f2 := hI1.frozen (k * 3 + 2)
      rw [Nat.add_zero] at d0
      have ST := hd (fun u0 u1 u2 => CB3.of hI1 hI2 (k * 3) u0 u1 u2)
      have i1 : (k : Int) < (N : Int) := by omega
      clear hI hI1 hI2
      go_wp2
      exact ⟨⟨k + 1, by go_num, by omega, hd (ST.out _ _ _)⟩, by simp only [intOf]; omega⟩
    · obtain rfl : k = N := by omega
      have Z := hd hI.out.2
      clear hI
      go_wp2
      go_ret
      exact ⟨rfl, Z.out⟩
end Go.Proofs.Ytkkklfnooeofcab
