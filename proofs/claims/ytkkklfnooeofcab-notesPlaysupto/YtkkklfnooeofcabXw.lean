/-
  The law's step.
-/
import Derived.Test.YtkkklfnooeofcabMXo
import Derived.Test.YtkkklfnooeofcabXv
namespace Go.Proofs.Ytkkklfnooeofcab
open Go.RowKit
set_option linter.unusedVariables false

theorem PI.succ {w : World} {X off k : Nat} {D : Nat → Prop} (h : PI w X off D k) : PI w X off D (k + 1) := by
  obtain ⟨r, q, O, Oq, K1, K2, g, Ns, m1, m2, h1, h2, h3, h4, h5⟩ := h
  exact ⟨r, q, O, Oq, K1, K2, g, Ns, m1, m2, h1, h2, fun n hn => Nat.le_succ_of_le (h3 n hn), by omega, by omega⟩
theorem PI.below {w w' : World} {X off k : Nat} {D : Nat → Prop} (h : PI w X off D k) (hb : Below w.heap.size w w') : PI w' X off D k := h.fr (T := fun _ => False) (Fr.of_below hb) (fun _ _ h => h) (fun h => h)
theorem StO.succ {w w' : World} {X off k : Nat} {D : Nat → Prop} (h : StO w w' X off D k) : StO w w' X off D (k + 1) := by
  obtain ⟨D', h1, h2⟩ := h
  exact ⟨D', h1.succ, h2⟩
theorem StO.of {w w1 w' : World} {X off k : Nat} {D : Nat → Prop} (h : StO w1 w' X off D k) (hb : Below w.heap.size w w1) : StO w w' X off D k := by
  obtain ⟨D', h1, h2, h3, h4⟩ := h
  have := hb.size
  exact ⟨D', h1, fun j hj => (h2 j hj).imp id (fun h => by omega), (Fr.of_below hb).trans h3, (XR.of_fr (T := fun _ => False) (Fr.of_below hb) (fun h => h)).trans h4⟩
theorem StO.same {w w1 : World} {X off k : Nat} {D : Nat → Prop} (h : PI w X off D k) (hb : Below w.heap.size w w1) : StO w w1 X off D k :=
  ⟨D, h.below hb, fun j hj => .inl hj, Fr.of_below hb, XR.of_fr (T := fun _ => False) (Fr.of_below hb) (fun h => h)⟩

set_option maxRecDepth 100000 in
set_option maxHeartbeats 4000000 in
theorem step_1 (X off k : Nat) (D : Nat → Prop) (sl id0 f t cc : Int) (s : ByteArray) (a : Option Addr) (n c : Nat) (xs : List El) (w : World) (h : PI w X off D k) (hE : IsE w a n c xs) (hwf : ∀ x ∈ xs, wfE x) (ha : 0 < n → ∀ b o, a = some ⟨b, o, none⟩ → ¬ D b ∧ b ≠ X) (hn : n ≤ 900000) (hsz : s.size ≤ 9223372036854775807) (hid : -9223372036854775808 ≤ id0 ∧ id0 ≤ 9223372036854775807) (hk : k ≤ 400000) :
    Calls Try.prog 7 #[.pointer (some ⟨X, off, none⟩), .agg (lopA 1 sl id0 f t cc s a n c)] w fun e w' => e = .returned (.bool true) ∧ StO w w' X off D (k + 1) := by
  have b1 : Below w.heap.size w (w.alloc (.cells (lopA 1 sl id0 f t cc s a n c) 36)) := (Below.refl _ _).alloc (Nat.le_refl _) _
  have CC : Hid (Calls Try.prog 13 #[.pointer (some ⟨X, off, none⟩), .agg (lopA 1 sl id0 f t cc s a n c)] (w.alloc (.cells (lopA 1 sl id0 f t cc s a n c) 36)) fun e w' => e = .returned (.bool true) ∧ StO w w' X off D (k + 1)) := by
    have hP := h.below b1
    have hE1 := hE.below b1
    generalize w.alloc (.cells (lopA 1 sl id0 f t cc s a n c) 36) = W at *
    exact (changes_put X off k D sl id0 f t cc s a n c xs W hP hE1 hwf ha hn hsz).mono fun e w2 h => ⟨h.1, h.2.succ.of b1⟩
  clear h hE hwf ha b1
  unfold lopA at CC ⊢
  go_enter Try.func7, Try.ntmps7
  go_wp2_with (go_at_call 13; refine CC.out.mono ?_; rintro e w2 ⟨rfl, hS⟩)
  go_ret
  exact ⟨rfl, hS⟩
set_option maxRecDepth 100000 in
set_option maxHeartbeats 4000000 in
theorem step_2 (X off k : Nat) (D : Nat → Prop) (sl id0 f t cc : Int) (s : ByteArray) (a : Option Addr) (n c : Nat) (xs : List El) (w : World) (h : PI w X off D k) (hE : IsE w a n c xs) (hwf : ∀ x ∈ xs, wfE x) (ha : 0 < n → ∀ b o, a = some ⟨b, o, none⟩ → ¬ D b ∧ b ≠ X) (hn : n ≤ 900000) (hsz : s.size ≤ 9223372036854775807) (hid : -9223372036854775808 ≤ id0 ∧ id0 ≤ 9223372036854775807) (hk : k ≤ 400000) :
    Calls Try.prog 7 #[.pointer (some ⟨X, off, none⟩), .agg (lopA 2 sl id0 f t cc s a n c)] w fun e w' => e = .returned (.bool true) ∧ StO w w' X off D (k + 1) := by
  have b1 : Below w.heap.size w (w.alloc (.cells (lopA 2 sl id0 f t cc s a n c) 36)) := (Below.refl _ _).alloc (Nat.le_refl _) _
  have CC : Hid (Calls Try.prog 13 #[.pointer (some ⟨X, off, none⟩), .agg (lopA 2 sl id0 f t cc s a n c)] (w.alloc (.cells (lopA 2 sl id0 f t cc s a n c) 36)) fun e w' => e = .returned (.bool true) ∧ StO w w' X off D (k + 1)) := by
    have hP := h.below b1
    have hE1 := hE.below b1
    generalize w.alloc (.cells (lopA 2 sl id0 f t cc s a n c) 36) = W at *
    exact (changes_reply X off k D sl id0 f t cc s a n c xs W hP hE1 ha hsz hid hk).mono fun e w2 h => ⟨h.1, h.2.of b1⟩
  clear h hE hwf ha b1
  unfold lopA at CC ⊢
  go_enter Try.func7, Try.ntmps7
  go_wp2_with (go_at_call 13; refine CC.out.mono ?_; rintro e w2 ⟨rfl, hS⟩)
  go_ret
  exact ⟨rfl, hS⟩
set_option maxRecDepth 100000 in
set_option maxHeartbeats 4000000 in
theorem step_3 (X off k : Nat) (D : Nat → Prop) (sl id0 f t cc : Int) (s : ByteArray) (a : Option Addr) (n c : Nat) (xs : List El) (w : World) (h : PI w X off D k) (hE : IsE w a n c xs) (hwf : ∀ x ∈ xs, wfE x) (ha : 0 < n → ∀ b o, a = some ⟨b, o, none⟩ → ¬ D b ∧ b ≠ X) (hn : n ≤ 900000) (hsz : s.size ≤ 9223372036854775807) (hid : -9223372036854775808 ≤ id0 ∧ id0 ≤ 9223372036854775807) (hk : k ≤ 400000) :
    Calls Try.prog 7 #[.pointer (some ⟨X, off, none⟩), .agg (lopA 3 sl id0 f t cc s a n c)] w fun e w' => e = .returned (.bool true) ∧ StO w w' X off D (k + 1) := by
  have b1 : Below w.heap.size w (w.alloc (.cells (lopA 3 sl id0 f t cc s a n c) 36)) := (Below.refl _ _).alloc (Nat.le_refl _) _
  have CC : Hid (Calls Try.prog 13 #[.pointer (some ⟨X, off, none⟩), .agg (lopA 3 sl id0 f t cc s a n c)] (w.alloc (.cells (lopA 3 sl id0 f t cc s a n c) 36)) fun e w' => e = .returned (.bool true) ∧ StO w w' X off D (k + 1)) := by
    have hP := h.below b1
    have hE1 := hE.below b1
    generalize w.alloc (.cells (lopA 3 sl id0 f t cc s a n c) 36) = W at *
    exact (changes_shut X off k D sl id0 f t cc s a n c xs W hP hE1 ha hsz hid hk).mono fun e w2 h => ⟨h.1, h.2.of b1⟩
  clear h hE hwf ha b1
  unfold lopA at CC ⊢
  go_enter Try.func7, Try.ntmps7
  go_wp2_with (go_at_call 13; refine CC.out.mono ?_; rintro e w2 ⟨rfl, hS⟩)
  go_ret
  exact ⟨rfl, hS⟩
set_option maxRecDepth 100000 in
set_option maxHeartbeats 4000000 in
theorem step_7 (X off k : Nat) (D : Nat → Prop) (sl id0 f t cc : Int) (s : ByteArray) (a : Option Addr) (n c : Nat) (xs : List El) (w : World) (h : PI w X off D k) (hE : IsE w a n c xs) (hwf : ∀ x ∈ xs, wfE x) (ha : 0 < n → ∀ b o, a = some ⟨b, o, none⟩ → ¬ D b ∧ b ≠ X) (hn : n ≤ 900000) (hsz : s.size ≤ 9223372036854775807) (hid : -9223372036854775808 ≤ id0 ∧ id0 ≤ 9223372036854775807) (hk : k ≤ 400000) :
    Calls Try.prog 7 #[.pointer (some ⟨X, off, none⟩), .agg (lopA 7 sl id0 f t cc s a n c)] w fun e w' => e = .returned (.bool true) ∧ StO w w' X off D (k + 1) := by
  have b1 : Below w.heap.size w (w.alloc (.cells (lopA 7 sl id0 f t cc s a n c) 36)) := (Below.refl _ _).alloc (Nat.le_refl _) _
  have CC : Hid (Calls Try.prog 13 #[.pointer (some ⟨X, off, none⟩), .agg (lopA 7 sl id0 f t cc s a n c)] (w.alloc (.cells (lopA 7 sl id0 f t cc s a n c) 36)) fun e w' => e = .returned (.bool true) ∧ StO w w' X off D (k + 1)) := by
    have hP := h.below b1
    have hE1 := hE.below b1
    generalize w.alloc (.cells (lopA 7 sl id0 f t cc s a n c) 36) = W at *
    exact (changes_sweep X off k D sl id0 f t cc s a n c xs W hP hE1 hwf ha hn hk).mono fun e w2 h => ⟨h.1, h.2.succ.of b1⟩
  clear h hE hwf ha b1
  unfold lopA at CC ⊢
  go_enter Try.func7, Try.ntmps7
  go_wp2_with (go_at_call 13; refine CC.out.mono ?_; rintro e w2 ⟨rfl, hS⟩)
  go_ret
  exact ⟨rfl, hS⟩
set_option maxRecDepth 100000 in
set_option maxHeartbeats 4000000 in
theorem step_4 (X off k : Nat) (D : Nat → Prop) (sl id0 f t cc : Int) (s : ByteArray) (a : Option Addr) (n c : Nat) (xs : List El) (w : World) (h : PI w X off D k) (hE : IsE w a n c xs) (hwf : ∀ x ∈ xs, wfE x) (ha : 0 < n → ∀ b o, a = some ⟨b, o, none⟩ → ¬ D b ∧ b ≠ X) (hn : n ≤ 900000) (hsz : s.size ≤ 9223372036854775807) (hid : -9223372036854775808 ≤ id0 ∧ id0 ≤ 9223372036854775807) (hk : k ≤ 400000) :
    Calls Try.prog 7 #[.pointer (some ⟨X, off, none⟩), .agg (lopA 4 sl id0 f t cc s a n c)] w fun e w' => e = .returned (.bool true) ∧ StO w w' X off D (k + 1) := by
  have b1 : Below w.heap.size w (w.alloc (.cells (lopA 4 sl id0 f t cc s a n c) 36)) := (Below.refl _ _).alloc (Nat.le_refl _) _
  have CC : Hid (Calls Try.prog 9 #[.pointer (some ⟨X, off, none⟩), .agg (lopA 4 sl id0 f t cc s a n c)] (w.alloc (.cells (lopA 4 sl id0 f t cc s a n c) 36)) fun e w' => e = .returned (.bool true) ∧ StO w w' X off D (k + 1)) := by
    have hP := h.below b1
    have hE1 := hE.below b1
    generalize w.alloc (.cells (lopA 4 sl id0 f t cc s a n c) 36) = W at *
    exact (asks_look X off k D sl id0 f t cc s a n c xs W hP hE1 hwf ha hn hid hk).mono fun e w2 h => ⟨h.1, h.2.of b1⟩
  clear h hE hwf ha b1
  unfold lopA at CC ⊢
  go_enter Try.func7, Try.ntmps7
  go_wp2_with (go_at_call 9; refine CC.out.mono ?_; rintro e w2 ⟨rfl, hS⟩)
  go_ret
  exact ⟨rfl, hS⟩
set_option maxRecDepth 100000 in
set_option maxHeartbeats 4000000 in
theorem step_5 (X off k : Nat) (D : Nat → Prop) (sl id0 f t cc : Int) (s : ByteArray) (a : Option Addr) (n c : Nat) (xs : List El) (w : World) (h : PI w X off D k) (hE : IsE w a n c xs) (hwf : ∀ x ∈ xs, wfE x) (ha : 0 < n → ∀ b o, a = some ⟨b, o, none⟩ → ¬ D b ∧ b ≠ X) (hn : n ≤ 900000) (hsz : s.size ≤ 9223372036854775807) (hid : -9223372036854775808 ≤ id0 ∧ id0 ≤ 9223372036854775807) (hk : k ≤ 400000) :
    Calls Try.prog 7 #[.pointer (some ⟨X, off, none⟩), .agg (lopA 5 sl id0 f t cc s a n c)] w fun e w' => e = .returned (.bool true) ∧ StO w w' X off D (k + 1) := by
  have b1 : Below w.heap.size w (w.alloc (.cells (lopA 5 sl id0 f t cc s a n c) 36)) := (Below.refl _ _).alloc (Nat.le_refl _) _
  have CC : Hid (Calls Try.prog 9 #[.pointer (some ⟨X, off, none⟩), .agg (lopA 5 sl id0 f t cc s a n c)] (w.alloc (.cells (lopA 5 sl id0 f t cc s a n c) 36)) fun e w' => e = .returned (.bool true) ∧ StO w w' X off D (k + 1)) := by
    have hP := h.below b1
    have hE1 := hE.below b1
    generalize w.alloc (.cells (lopA 5 sl id0 f t cc s a n c) 36) = W at *
    exact (asks_all X off k D sl id0 f t cc s a n c xs W hP hE1 hwf ha hn hk).mono fun e w2 h => ⟨h.1, h.2.of b1⟩
  clear h hE hwf ha b1
  unfold lopA at CC ⊢
  go_enter Try.func7, Try.ntmps7
  go_wp2_with (go_at_call 9; refine CC.out.mono ?_; rintro e w2 ⟨rfl, hS⟩)
  go_ret
  exact ⟨rfl, hS⟩
set_option maxRecDepth 100000 in
set_option maxHeartbeats 4000000 in
theorem step_6 (X off k : Nat) (D : Nat → Prop) (sl id0 f t cc : Int) (s : ByteArray) (a : Option Addr) (n c : Nat) (xs : List El) (w : World) (h : PI w X off D k) (hE : IsE w a n c xs) (hwf : ∀ x ∈ xs, wfE x) (ha : 0 < n → ∀ b o, a = some ⟨b, o, none⟩ → ¬ D b ∧ b ≠ X) (hn : n ≤ 900000) (hsz : s.size ≤ 9223372036854775807) (hid : -9223372036854775808 ≤ id0 ∧ id0 ≤ 9223372036854775807) (hk : k ≤ 400000) :
    Calls Try.prog 7 #[.pointer (some ⟨X, off, none⟩), .agg (lopA 6 sl id0 f t cc s a n c)] w fun e w' => e = .returned (.bool true) ∧ StO w w' X off D (k + 1) := by
  have b1 : Below w.heap.size w (w.alloc (.cells (lopA 6 sl id0 f t cc s a n c) 36)) := (Below.refl _ _).alloc (Nat.le_refl _) _
  have CC : Hid (Calls Try.prog 9 #[.pointer (some ⟨X, off, none⟩), .agg (lopA 6 sl id0 f t cc s a n c)] (w.alloc (.cells (lopA 6 sl id0 f t cc s a n c) 36)) fun e w' => e = .returned (.bool true) ∧ StO w w' X off D (k + 1)) := by
    have hP := h.below b1
    have hE1 := hE.below b1
    generalize w.alloc (.cells (lopA 6 sl id0 f t cc s a n c) 36) = W at *
    exact (asks_at X off k D sl id0 f t cc s a n c xs W hP hE1 hwf ha hn hk).mono fun e w2 h => ⟨h.1, h.2.of b1⟩
  clear h hE hwf ha b1
  unfold lopA at CC ⊢
  go_enter Try.func7, Try.ntmps7
  go_wp2_with (go_at_call 9; refine CC.out.mono ?_; rintro e w2 ⟨rfl, hS⟩)
  go_ret
  exact ⟨rfl, hS⟩
set_option maxRecDepth 100000 in
set_option maxHeartbeats 4000000 in
theorem step_other (kd : Int) (X off k : Nat) (D : Nat → Prop) (sl id0 f t cc : Int) (s : ByteArray) (a : Option Addr) (n c : Nat) (w : World) (h : PI w X off D k) (k1 : ¬ kd = 1) (k2 : ¬ kd = 2) (k3 : ¬ kd = 3) (k4 : ¬ kd = 4) (k5 : ¬ kd = 5) (k6 : ¬ kd = 6) (k7 : ¬ kd = 7) :
    Calls Try.prog 7 #[.pointer (some ⟨X, off, none⟩), .agg (lopA kd sl id0 f t cc s a n c)] w fun e w' => e = .returned (.bool true) ∧ StO w w' X off D (k + 1) := by
  have Z := hd (StO.same h.succ ((Below.refl w.heap.size w).alloc (Nat.le_refl _) (.cells (lopA kd sl id0 f t cc s a n c) 36)))
  clear h
  unfold lopA at Z ⊢
  go_enter Try.func7, Try.ntmps7
  go_wp2
  go_ret
  exact ⟨rfl, Z.out⟩
theorem step_any (kd : Int) (X off k : Nat) (D : Nat → Prop) (sl id0 f t cc : Int) (s : ByteArray) (a : Option Addr) (n c : Nat) (xs : List El) (w : World) (h : PI w X off D k) (hE : IsE w a n c xs) (hwf : ∀ x ∈ xs, wfE x) (ha : 0 < n → ∀ b o, a = some ⟨b, o, none⟩ → ¬ D b ∧ b ≠ X) (hn : n ≤ 900000) (hsz : s.size ≤ 9223372036854775807) (hid : -9223372036854775808 ≤ id0 ∧ id0 ≤ 9223372036854775807) (hk : k ≤ 400000) :
    Calls Try.prog 7 #[.pointer (some ⟨X, off, none⟩), .agg (lopA kd sl id0 f t cc s a n c)] w fun e w' => e = .returned (.bool true) ∧ StO w w' X off D (k + 1) := by
  by_cases k1 : kd = 1
  · subst k1; exact step_1 X off k D sl id0 f t cc s a n c xs w h hE hwf ha hn hsz hid hk
  by_cases k2 : kd = 2
  · subst k2; exact step_2 X off k D sl id0 f t cc s a n c xs w h hE hwf ha hn hsz hid hk
  by_cases k3 : kd = 3
  · subst k3; exact step_3 X off k D sl id0 f t cc s a n c xs w h hE hwf ha hn hsz hid hk
  by_cases k4 : kd = 4
  · subst k4; exact step_4 X off k D sl id0 f t cc s a n c xs w h hE hwf ha hn hsz hid hk
  by_cases k5 : kd = 5
  · subst k5; exact step_5 X off k D sl id0 f t cc s a n c xs w h hE hwf ha hn hsz hid hk
  by_cases k6 : kd = 6
  · subst k6; exact step_6 X off k D sl id0 f t cc s a n c xs w h hE hwf ha hn hsz hid hk
  by_cases k7 : kd = 7
  · subst k7; exact step_7 X off k D sl id0 f t cc s a n c xs w h hE hwf ha hn hsz hid hk
  exact step_other kd X off k D sl id0 f t cc s a n c w h k1 k2 k3 k4 k5 k6 k7
end Go.Proofs.Ytkkklfnooeofcab
