/-
  begun, sides.
-/
import Derived.Test.YtmbnimlibnheeabDoorMT
namespace Go.Proofs.YtmbnimlibnheeabDoor
open Go.RowKit Go.Lib
set_option linter.unusedVariables false

def inN (x : Int) (M : Nat) : Nat := (if x.tmod M < 0 then x.tmod M + M else x.tmod M).toNat
theorem inN_lt (x : Int) (M : Nat) (h0 : 0 < M) : inN x M < M := by
  have b1 : x.tmod M < M := Int.tmod_lt_of_pos _ (by omega)
  have b2 : -(M : Int) < x.tmod M := by
    have := Int.lt_tmod_of_pos x (b := (M : Int)) (by omega)
    omega
  unfold inN
  split <;> omega
set_option maxHeartbeats 1000000 in
theorem into_is (x : Int) (M : Nat) (w : World) (h0 : 0 < M) (h1 : M ≤ 1000000000000000) :
    Calls Tryd.prog 19 #[.int .i64 x, .int .i64 M] w fun e w' => e = .returned (.int .i64 (inN x M)) ∧ w' = w := by
  have b1 : x.tmod M < M := Int.tmod_lt_of_pos _ (by omega)
  have b2 : -(M : Int) < x.tmod M := by
    have := Int.lt_tmod_of_pos x (b := (M : Int)) (by omega)
    omega
  have hM : ¬ ((M : Int) = 0) := by omega
  have hN : inN x M = (if x.tmod M < 0 then x.tmod M + M else x.tmod M).toNat := rfl
  obtain ⟨r, hr⟩ : ∃ r, r = x.tmod M := ⟨_, rfl⟩
  rw [← hr] at b1 b2 hN
  have ht : x.tmod (M : Int) = r := hr.symm
  generalize inN x M = P at *
  clear hr
  by_cases hn : r < 0
  · rw [if_pos hn] at hN
    have hp : r + (M : Int) = (P : Int) := by omega
    clear hN
    go_enter Tryd.func19, Tryd.ntmps19
    go_wp2
    go_ret
    exact ⟨by first | rfl | (simp; omega), rfl⟩
  · rw [if_neg hn] at hN
    have hp : r = (P : Int) := by omega
    clear hN
    go_enter Tryd.func19, Tryd.ntmps19
    go_wp2
    go_ret
    exact ⟨by first | rfl | (simp; omega), rfl⟩

/-- The text to begin with. -/
def bel (i : Nat) : El := (97 + (i : Int) % 26, 64, (i : Int) + 1)
def bgP : Nat → List El
  | 0 => []
  | k + 1 => bgP k ++ [bel k]
theorem bgP_len (k : Nat) : (bgP k).length = k := by
  induction k with
  | zero => rfl
  | succ k ih => simp [bgP, ih]

set_option maxRecDepth 100000 in
set_option maxHeartbeats 4000000 in
theorem begun_any (x : Int) (w : World) :
    Calls Tryd.prog 6 #[.int .i64 x] w fun e w' => ∃ u β, e = .returned u ∧ SE w' β u (bgP (inN x 40)) ∧ (∀ g, β = some g → w.heap.size ≤ g) ∧ Below w.heap.size w w' := by
  have hk := inN_lt x 40 (by omega)
  have CI : Hid (∀ W, Calls Tryd.prog 19 #[.int .i64 x, .int .i64 40] W fun e w' => e = .returned (.int .i64 (inN x 40)) ∧ w' = W) := fun W => into_is x 40 W (by omega) (by omega)
  generalize inN x 40 = K at *
  have S0 : Hid (∃ β, SE w β (.slice none 0 0) (bgP 0) ∧ (∀ g, β = some g → w.heap.size ≤ g) ∧ Below w.heap.size w w) := ⟨none, ⟨rfl, rfl⟩, fun g hg => (by cases hg), Below.refl _ _⟩
  go_enter Tryd.func6, Tryd.ntmps6
  go_wp2
  go_loopw [3, 4] (fun u i wr => ∃ k : Nat, k ≤ K ∧ i = .int .i64 k ∧ Hid (∃ β, SE wr β u (bgP k) ∧ (∀ g, β = some g → w.heap.size ≤ g) ∧ Below w.heap.size w wr)) (fun _ i _ => K - (intOf i).toNat)
  case atStart => exact ⟨0, Nat.zero_le _, rfl, S0⟩
  case round =>
    obtain ⟨k, hk1, rfl, hI⟩ := hrel
    clear S0
    by_cases hlt : k < K
    · have i1 : (k : Int) < (K : Int) := by omega
      obtain ⟨β, h1, h2, h3⟩ := hI.out
      have bA : Below wr.heap.size wr (wr.alloc (.cells #[.int .u8 (97 + (k : Int) % 26), .int .i64 64, .int .i64 ((k : Int) + 1)] 41)) := (Below.refl _ _).alloc (Nat.le_refl _) _
      obtain ⟨v', wb, hr, β', n1, n2, n3⟩ := run_pushE (wr.alloc (.cells #[.int .u8 (97 + (k : Int) % 26), .int .i64 64, .int .i64 ((k : Int) + 1)] 41)) β _ (bgP k) (h1.below bA) wr.heap.size (bel k) (heap_alloc_new wr _) (by rw [bgP_len]; omega)
      have hz := h3.size
      have Z : Hid (∃ β, SE wb β v' (bgP (k + 1)) ∧ (∀ g, β = some g → w.heap.size ≤ g) ∧ Below w.heap.size w wb) := by
        refine ⟨β', n1, fun g hg => ?_, (h3.trans (bA.mono hz)).trans (n3.below (by simp; omega) (fun j hj => h2 j hj))⟩
        rcases n2 with n2 | ⟨g', n2, hg'⟩
        · exact h2 g (n2 ▸ hg)
        · rw [n2] at hg
          injection hg with hg
          simp at hg'
          omega
      clear h1 h2 h3 bA n1 n2 n3 hz hI
      go_wp2_with fail
      refine (CI.out _).mono ?_
      rintro e wr ⟨rfl, rfl⟩
      go_wp2_with (at_builtin; refine wpList_append_k _ rfl _ _ 26 26 rfl _ _ rfl rfl (hr _) ?_; clear hr)
      exact ⟨⟨k + 1, by omega, by go_num, Z⟩, by simp [intOf]; omega⟩
    · obtain rfl : k = K := by omega
      go_wp2_with fail
      refine (CI.out _).mono ?_
      rintro e w2 ⟨rfl, rfl⟩
      obtain ⟨β, h1, h2, h3⟩ := hI.out
      have Z := hd (And.intro h1 (And.intro h2 h3))
      clear h1 h2 h3
      go_wp2
      go_ret
      exact ⟨_, β, rfl, Z.out⟩

/-- A new side. -/
theorem SA_start (B lo : Nat) (w : World) (f : Bool) (z : Nat) (a : Option Addr) (n c : Nat) (d : List El) (β : Option Nat) (S : Nat → Prop) (base : Int) (hd' : SE w β (.slice a n c) d) (hp : SpAt w z ⟨f, [], 0⟩ S) (hβ : ∀ g, β = some g → lo ≤ g) (hS : ∀ k, S k → lo ≤ k) (hB : B ≤ lo) (hlo : lo ≤ w.heap.size) :
    SA B (fun k => lo ≤ k ∧ k ≤ w.heap.size) (w.alloc (.cells #[.slice a n c, .pointer (some ⟨z, 0, none⟩), .int .i64 0, .int .i64 0, .slice none 0 0, .int .i64 base, .slice none 0 0] 30)) w.heap.size ⟨f, d, [], 0, 0, []⟩ base := by
  have hF : Fr (fun _ => False) w (w.alloc (.cells #[.slice a n c, .pointer (some ⟨z, 0, none⟩), .int .i64 0, .int .i64 0, .slice none 0 0, .int .i64 base, .slice none 0 0] 30)) := Fr.alloc _ _ _
  have hlt := hd'.lt
  have hol := hp.1.old
  refine ⟨z, .slice a n c, none, 0, 0, .slice none 0 0, β, none, [], ⟨heap_alloc_new w _, ⟨hlo, Nat.le_refl _⟩, hd'.fr hF (fun _ _ h => h), fun g hg => ⟨hβ g hg, Nat.le_of_lt (hlt g hg)⟩, (hp.t (T := fun k => lo ≤ k ∧ k ≤ w.heap.size) (fun k hk => ⟨hS k hk, Nat.le_of_lt (hol k hk)⟩)).fr hF (fun _ _ h => h), ⟨rfl, Nat.le_refl _, by omega, .inl rfl⟩, fun _ => rfl, ⟨rfl, rfl⟩, fun g hg => (by cases hg), fun g hg => (by cases hg)⟩, fun pc hpc => (by cases hpc), by simp, fun k hk => ⟨by omega, by simp; omega⟩⟩
theorem SA.below {B : Nat} {T : Nat → Prop} {w w' : World} {x : Nat} {sd : Sd} {base : Int} (h : SA B T w x sd base) (hb : Below w.heap.size w w') : SA B T w' x sd base := by
  obtain ⟨z, vt, aw, nw, cw, vg, βt, βg, G, c, h1, h2, h3⟩ := h
  exact ⟨z, vt, aw, nw, cw, vg, βt, βg, G, c.below hb, h1, h2, fun k hk => ⟨(h3 k hk).1, Nat.lt_of_lt_of_le (h3 k hk).2 hb.size⟩⟩
theorem SA.fr {B : Nat} {T S : Nat → Prop} {w w' : World} {x : Nat} {sd : Sd} {base : Int} (h : SA B T w x sd base) (hF : Fr S w w') (hS : ∀ k, T k → ¬ S k) : SA B T w' x sd base := by
  obtain ⟨z, vt, aw, nw, cw, vg, βt, βg, G, c, h1, h2, h3⟩ := h
  exact ⟨z, vt, aw, nw, cw, vg, βt, βg, G, c.fr hF hS, h1, h2, fun k hk => ⟨(h3 k hk).1, Nat.lt_of_lt_of_le (h3 k hk).2 hF.size⟩⟩

set_option maxRecDepth 100000 in
set_option maxHeartbeats 4000000 in
theorem sides_any (x : Int) (w : World) :
    Calls Tryd.prog 5 #[.int .i64 x] w fun e w' => ∃ a b, e = .returned (.tuple #[.pointer (some ⟨a, 0, none⟩), .pointer (some ⟨b, 0, none⟩)]) ∧ Hid (∃ T1 T2, SA w.heap.size T1 w' a ⟨true, bgP (inN x 40), [], 0, 0, []⟩ 0 ∧ SA w.heap.size T2 w' b ⟨false, bgP (inN x 40), [], 0, 0, []⟩ 32 ∧ (∀ k, T1 k → ¬ T2 k) ∧ Below w.heap.size w w') := by
  have CB : Hid (∀ W, Calls Tryd.prog 6 #[.int .i64 x] W fun e w' => ∃ a n c β, e = .returned (.slice a n c) ∧ Hid (SE w' β (.slice a n c) (bgP (inN x 40)) ∧ (∀ g, β = some g → W.heap.size ≤ g) ∧ Below W.heap.size W w')) := fun W => (begun_any x W).mono (by
    rintro e w' ⟨u, β, rfl, h1, h2, h3⟩
    obtain ⟨a, c, rfl, -⟩ := h1.form
    exact ⟨_, _, _, β, rfl, h1, h2, h3⟩)
  go_enter Tryd.func5, Tryd.ntmps5
  go_wp2_with fail
  refine (CB.out _).mono ?_
  rintro e w1 ⟨a1, n1, c1, β1, rfl, h1⟩
  go_wp2_with fail
  refine (new_any true _).mono ?_
  rintro e w2 ⟨z1, rfl, S1, p1, s1, b2⟩
  have A1 := hd (SA_start w.heap.size w.heap.size w2 true z1 a1 n1 c1 _ β1 S1 0 (h1.out.1.below b2) p1 h1.out.2.1 (fun k hk => Nat.le_trans h1.out.2.2.size (s1 k hk)) (Nat.le_refl _) (Nat.le_trans h1.out.2.2.size b2.size))
  have B2 := hd (h1.out.2.2.trans (b2.mono h1.out.2.2.size))
  clear h1 p1 s1 b2
  go_wp2_with fail
  refine (CB.out _).mono ?_
  rintro e w3 ⟨a3, n3, c3, β3, rfl, h3⟩
  go_wp2_with fail
  refine (new_any false _).mono ?_
  rintro e w4 ⟨z4, rfl, S4, p4, s4, b4⟩
  have z2 : (w2.alloc (.cells #[.slice a1 n1 c1, .pointer (some ⟨z1, 0, none⟩), .int .i64 0, .int .i64 0, .slice none 0 0, .int .i64 0, .slice none 0 0] 30)).heap.size = w2.heap.size + 1 := by simp
  have q3 := h3.out.2.2.size
  have q4 := b4.size
  have qB := B2.out.size
  rw [z2] at q3
  have b24 : Below (w2.heap.size + 1) (w2.alloc (.cells #[.slice a1 n1 c1, .pointer (some ⟨z1, 0, none⟩), .int .i64 0, .int .i64 0, .slice none 0 0, .int .i64 0, .slice none 0 0] 30)) w4 := by
    rw [← z2]
    exact h3.out.2.2.trans (b4.mono h3.out.2.2.size)
  have A4 := SA_start w.heap.size (w2.heap.size + 1) w4 false z4 a3 n3 c3 _ β3 S4 32 (h3.out.1.below b4) p4 (fun g hg => by have := h3.out.2.1 g hg; rw [z2] at this; exact this) (fun k hk => Nat.le_trans q3 (s4 k hk)) (by omega) (by omega)
  have A1' := (A1.out.below (by rw [z2]; exact b24)).below ((Below.refl _ _).alloc (Nat.le_refl _) (.cells #[.slice a3 n3 c3, .pointer (some ⟨z4, 0, none⟩), .int .i64 0, .int .i64 0, .slice none 0 0, .int .i64 32, .slice none 0 0] 30))
  have Z : Hid (∃ T1 T2, SA w.heap.size T1 (w4.alloc (.cells #[.slice a3 n3 c3, .pointer (some ⟨z4, 0, none⟩), .int .i64 0, .int .i64 0, .slice none 0 0, .int .i64 32, .slice none 0 0] 30)) w2.heap.size ⟨true, bgP (inN x 40), [], 0, 0, []⟩ 0 ∧ SA w.heap.size T2 (w4.alloc (.cells #[.slice a3 n3 c3, .pointer (some ⟨z4, 0, none⟩), .int .i64 0, .int .i64 0, .slice none 0 0, .int .i64 32, .slice none 0 0] 30)) w4.heap.size ⟨false, bgP (inN x 40), [], 0, 0, []⟩ 32 ∧ (∀ k, T1 k → ¬ T2 k) ∧ Below w.heap.size w (w4.alloc (.cells #[.slice a3 n3 c3, .pointer (some ⟨z4, 0, none⟩), .int .i64 0, .int .i64 0, .slice none 0 0, .int .i64 32, .slice none 0 0] 30))) := by
    refine ⟨_, _, A1', A4, fun k h1 h2 => by omega, ?_⟩
    have b0 : Below w.heap.size w (w2.alloc (.cells #[.slice a1 n1 c1, .pointer (some ⟨z1, 0, none⟩), .int .i64 0, .int .i64 0, .slice none 0 0, .int .i64 0, .slice none 0 0] 30)) := B2.out.alloc qB _
    exact (b0.trans (b24.mono (by omega))).alloc (by omega) _
  clear h3 p4 s4 b4 z2 q3 q4 qB b24 A4 A1' A1 B2 CB
  go_wp2
  refine bodyPost_ret (v := .tuple #[.pointer (some ⟨w2.heap.size, 0, none⟩), .pointer (some ⟨w4.heap.size, 0, none⟩)]) (by simp [results, Tryd.results5, go_sem]) rfl ?_
  exact ⟨_, _, rfl, Z⟩

end Go.Proofs.YtmbnimlibnheeabDoor
