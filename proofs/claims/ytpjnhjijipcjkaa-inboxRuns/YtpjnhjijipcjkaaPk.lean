/-
  step.
-/
import Derived.Test.YtpjnhjijipcjkaaPg
import Derived.Test.YtpjnhjijipcjkaaPh
import Derived.Test.YtpjnhjijipcjkaaPia
import Derived.Test.YtpjnhjijipcjkaaPib
import Derived.Test.YtpjnhjijipcjkaaPic
namespace Go.Proofs.Ytpjnhjijipcjkaa
open Go.RowKit
set_option linter.unusedVariables false

theorem changes_any {G : Thg} {w0 w : World} {x a b r q : Nat} {A B : Rb} {m : Nat} (h : PB G w0 w NoK x a b r q A B m) (k s n v : Int) (ia : Option Addr) (il ic : Nat) (hk : k = 1 ∨ k = 3 ∨ k = 4 ∨ k = 7) :
    Calls Try.prog 44 #[pt x, opA k s n v ia il ic] w fun ex w' => ex = .returned (.bool true) ∧ ∃ A' B', PB G w0 w' NoK x a b r q A' B' m := by
  rcases bit1 s with hs | hs
  · rcases hk with rfl | rfl | rfl | rfl
    · exact changes_1_0 h s n v ia il ic hs
    · exact changes_3_0 h s n v ia il ic hs
    · exact changes_4_0 h s n v ia il ic hs
    · exact changes_7_0 h s n v ia il ic hs
  · rcases hk with rfl | rfl | rfl | rfl
    · exact changes_1_1 h s n v ia il ic hs
    · exact changes_3_1 h s n v ia il ic hs
    · exact changes_4_1 h s n v ia il ic hs
    · exact changes_7_1 h s n v ia il ic hs

set_option maxRecDepth 100000 in
set_option maxHeartbeats 4000000 in
theorem step_1 {G : Thg} {w0 w : World} {x a b r q : Nat} {A B : Rb} {m : Nat} (h : PB G w0 w NoK x a b r q A B m) (hm : m ≤ 44) (s n v : Int) (ia : Option Addr) (il ic : Nat) :
    Calls Try.prog 26 #[pt x, opA 1 s n v ia il ic] w fun ex w' => ex = .returned (.bool true) ∧ ∃ A' B' m', m' ≤ 44 ∧ PB G w0 w' NoK x a b r q A' B' m' := by
  obtain ⟨U, hU⟩ : ∃ U, U = w.alloc (.cells #[.int .i64 1, .int .i64 s, .int .i64 n, .int .i64 v, .slice ia il ic] 56) := ⟨_, rfl⟩
  have hbU : RowKit.Below w.heap.size w U := by rw [hU]; exact (Below.refl _ _).alloc (Nat.le_refl _) _
  have h1 := MO.below h hbU
  have hg : U.heap[w.heap.size]? = some (.cells #[.int .i64 1, .int .i64 s, .int .i64 n, .int .i64 v, .slice ia il ic] 56 (0, 0)) := by rw [hU]; exact heap_alloc_new w _
  obtain ⟨g, hgg⟩ : ∃ g, g = w.heap.size := ⟨_, rfl⟩
  obtain ⟨aL, cL, vW, hbx, -, -, hx⟩ := pb_box h1
  rw [← hgg] at hg
  have c0 := cell_row hbx 0
  have c1 := cell_row hbx 1
  have c2 := cell_row hbx 2
  have c3 := cell_row hbx 3
  have d0 := cell_row hg 0
  have d1 := cell_row hg 1
  have d2 := cell_row hg 2
  have d3 := cell_row hg 3
  have d4 := cell_row hg 4
  simp at c0 c1 c2 c3 d0 d1 d2 d3 d4
  have H1 := hd h1
  have HW := hd hU
  clear h h1 hbx hg hbU hU
  go_enter Try.func26, Try.ntmps26
  go_wp2_with fail
  rw [← HW.out]
  clear HW
  subst hgg
  go_wp2_with fail
  refine (changes_any H1.out 1 s n v ia il ic (by omega)).mono ?_
  rintro _ w1 ⟨rfl, A', B', M⟩
  have H2 := hd M
  clear M H1
  go_wp2_with fail
  go_ret
  exact ⟨rfl, A', B', m, hm, H2.out⟩

set_option maxRecDepth 100000 in
set_option maxHeartbeats 4000000 in
theorem step_3 {G : Thg} {w0 w : World} {x a b r q : Nat} {A B : Rb} {m : Nat} (h : PB G w0 w NoK x a b r q A B m) (hm : m ≤ 44) (s n v : Int) (ia : Option Addr) (il ic : Nat) :
    Calls Try.prog 26 #[pt x, opA 3 s n v ia il ic] w fun ex w' => ex = .returned (.bool true) ∧ ∃ A' B' m', m' ≤ 44 ∧ PB G w0 w' NoK x a b r q A' B' m' := by
  obtain ⟨U, hU⟩ : ∃ U, U = w.alloc (.cells #[.int .i64 3, .int .i64 s, .int .i64 n, .int .i64 v, .slice ia il ic] 56) := ⟨_, rfl⟩
  have hbU : RowKit.Below w.heap.size w U := by rw [hU]; exact (Below.refl _ _).alloc (Nat.le_refl _) _
  have h1 := MO.below h hbU
  have hg : U.heap[w.heap.size]? = some (.cells #[.int .i64 3, .int .i64 s, .int .i64 n, .int .i64 v, .slice ia il ic] 56 (0, 0)) := by rw [hU]; exact heap_alloc_new w _
  obtain ⟨g, hgg⟩ : ∃ g, g = w.heap.size := ⟨_, rfl⟩
  obtain ⟨aL, cL, vW, hbx, -, -, hx⟩ := pb_box h1
  rw [← hgg] at hg
  have c0 := cell_row hbx 0
  have c1 := cell_row hbx 1
  have c2 := cell_row hbx 2
  have c3 := cell_row hbx 3
  have d0 := cell_row hg 0
  have d1 := cell_row hg 1
  have d2 := cell_row hg 2
  have d3 := cell_row hg 3
  have d4 := cell_row hg 4
  simp at c0 c1 c2 c3 d0 d1 d2 d3 d4
  have H1 := hd h1
  have HW := hd hU
  clear h h1 hbx hg hbU hU
  go_enter Try.func26, Try.ntmps26
  go_wp2_with fail
  rw [← HW.out]
  clear HW
  subst hgg
  go_wp2_with fail
  refine (changes_any H1.out 3 s n v ia il ic (by omega)).mono ?_
  rintro _ w1 ⟨rfl, A', B', M⟩
  have H2 := hd M
  clear M H1
  go_wp2_with fail
  go_ret
  exact ⟨rfl, A', B', m, hm, H2.out⟩

set_option maxRecDepth 100000 in
set_option maxHeartbeats 4000000 in
theorem step_4 {G : Thg} {w0 w : World} {x a b r q : Nat} {A B : Rb} {m : Nat} (h : PB G w0 w NoK x a b r q A B m) (hm : m ≤ 44) (s n v : Int) (ia : Option Addr) (il ic : Nat) :
    Calls Try.prog 26 #[pt x, opA 4 s n v ia il ic] w fun ex w' => ex = .returned (.bool true) ∧ ∃ A' B' m', m' ≤ 44 ∧ PB G w0 w' NoK x a b r q A' B' m' := by
  obtain ⟨U, hU⟩ : ∃ U, U = w.alloc (.cells #[.int .i64 4, .int .i64 s, .int .i64 n, .int .i64 v, .slice ia il ic] 56) := ⟨_, rfl⟩
  have hbU : RowKit.Below w.heap.size w U := by rw [hU]; exact (Below.refl _ _).alloc (Nat.le_refl _) _
  have h1 := MO.below h hbU
  have hg : U.heap[w.heap.size]? = some (.cells #[.int .i64 4, .int .i64 s, .int .i64 n, .int .i64 v, .slice ia il ic] 56 (0, 0)) := by rw [hU]; exact heap_alloc_new w _
  obtain ⟨g, hgg⟩ : ∃ g, g = w.heap.size := ⟨_, rfl⟩
  obtain ⟨aL, cL, vW, hbx, -, -, hx⟩ := pb_box h1
  rw [← hgg] at hg
  have c0 := cell_row hbx 0
  have c1 := cell_row hbx 1
  have c2 := cell_row hbx 2
  have c3 := cell_row hbx 3
  have d0 := cell_row hg 0
  have d1 := cell_row hg 1
  have d2 := cell_row hg 2
  have d3 := cell_row hg 3
  have d4 := cell_row hg 4
  simp at c0 c1 c2 c3 d0 d1 d2 d3 d4
  have H1 := hd h1
  have HW := hd hU
  clear h h1 hbx hg hbU hU
  go_enter Try.func26, Try.ntmps26
  go_wp2_with fail
  rw [← HW.out]
  clear HW
  subst hgg
  go_wp2_with fail
  refine (changes_any H1.out 4 s n v ia il ic (by omega)).mono ?_
  rintro _ w1 ⟨rfl, A', B', M⟩
  have H2 := hd M
  clear M H1
  go_wp2_with fail
  go_ret
  exact ⟨rfl, A', B', m, hm, H2.out⟩

set_option maxRecDepth 100000 in
set_option maxHeartbeats 4000000 in
theorem step_7 {G : Thg} {w0 w : World} {x a b r q : Nat} {A B : Rb} {m : Nat} (h : PB G w0 w NoK x a b r q A B m) (hm : m ≤ 44) (s n v : Int) (ia : Option Addr) (il ic : Nat) :
    Calls Try.prog 26 #[pt x, opA 7 s n v ia il ic] w fun ex w' => ex = .returned (.bool true) ∧ ∃ A' B' m', m' ≤ 44 ∧ PB G w0 w' NoK x a b r q A' B' m' := by
  obtain ⟨U, hU⟩ : ∃ U, U = w.alloc (.cells #[.int .i64 7, .int .i64 s, .int .i64 n, .int .i64 v, .slice ia il ic] 56) := ⟨_, rfl⟩
  have hbU : RowKit.Below w.heap.size w U := by rw [hU]; exact (Below.refl _ _).alloc (Nat.le_refl _) _
  have h1 := MO.below h hbU
  have hg : U.heap[w.heap.size]? = some (.cells #[.int .i64 7, .int .i64 s, .int .i64 n, .int .i64 v, .slice ia il ic] 56 (0, 0)) := by rw [hU]; exact heap_alloc_new w _
  obtain ⟨g, hgg⟩ : ∃ g, g = w.heap.size := ⟨_, rfl⟩
  obtain ⟨aL, cL, vW, hbx, -, -, hx⟩ := pb_box h1
  rw [← hgg] at hg
  have c0 := cell_row hbx 0
  have c1 := cell_row hbx 1
  have c2 := cell_row hbx 2
  have c3 := cell_row hbx 3
  have d0 := cell_row hg 0
  have d1 := cell_row hg 1
  have d2 := cell_row hg 2
  have d3 := cell_row hg 3
  have d4 := cell_row hg 4
  simp at c0 c1 c2 c3 d0 d1 d2 d3 d4
  have H1 := hd h1
  have HW := hd hU
  clear h h1 hbx hg hbU hU
  go_enter Try.func26, Try.ntmps26
  go_wp2_with fail
  rw [← HW.out]
  clear HW
  subst hgg
  go_wp2_with fail
  refine (changes_any H1.out 7 s n v ia il ic (by omega)).mono ?_
  rintro _ w1 ⟨rfl, A', B', M⟩
  have H2 := hd M
  clear M H1
  go_wp2_with fail
  go_ret
  exact ⟨rfl, A', B', m, hm, H2.out⟩

set_option maxRecDepth 100000 in
set_option maxHeartbeats 4000000 in
theorem step_2_0 {G : Thg} {w0 w : World} {x a b r q : Nat} {A B : Rb} {m : Nat} (h : PB G w0 w NoK x a b r q A B m) (hm : m ≤ 44) (s n v : Int) (ia : Option Addr) (il ic : Nat) (hs : bits BinOp.and IntKind.i64 s 1 = 0) :
    Calls Try.prog 26 #[pt x, opA 2 s n v ia il ic] w fun ex w' => ex = .returned (.bool true) ∧ ∃ A' B' m', m' ≤ 44 ∧ PB G w0 w' NoK x a b r q A' B' m' := by
  obtain ⟨U, hU⟩ : ∃ U, U = w.alloc (.cells #[.int .i64 2, .int .i64 s, .int .i64 n, .int .i64 v, .slice ia il ic] 56) := ⟨_, rfl⟩
  have hbU : RowKit.Below w.heap.size w U := by rw [hU]; exact (Below.refl _ _).alloc (Nat.le_refl _) _
  have h1 := MO.below h hbU
  have hg : U.heap[w.heap.size]? = some (.cells #[.int .i64 2, .int .i64 s, .int .i64 n, .int .i64 v, .slice ia il ic] 56 (0, 0)) := by rw [hU]; exact heap_alloc_new w _
  obtain ⟨g, hgg⟩ : ∃ g, g = w.heap.size := ⟨_, rfl⟩
  obtain ⟨aL, cL, vW, hbx, -, -, hx⟩ := pb_box h1
  rw [← hgg] at hg
  have c0 := cell_row hbx 0
  have c1 := cell_row hbx 1
  have c2 := cell_row hbx 2
  have c3 := cell_row hbx 3
  have d0 := cell_row hg 0
  have d1 := cell_row hg 1
  have d2 := cell_row hg 2
  have d3 := cell_row hg 3
  have d4 := cell_row hg 4
  simp at c0 c1 c2 c3 d0 d1 d2 d3 d4
  have H1 := hd h1
  have HW := hd hU
  clear h h1 hbx hg hbU hU
  go_enter Try.func26, Try.ntmps26
  go_wp2_with fail
  rw [← HW.out]
  clear HW
  subst hgg
  go_wp2_with fail
  refine (head_0 H1.out).mono ?_
  rintro _ w1 ⟨rfl, M⟩
  have H2 := hd M
  clear M H1
  go_wp2_with fail
  go_ret
  exact ⟨rfl, A, B, m, hm, H2.out⟩

set_option maxRecDepth 100000 in
set_option maxHeartbeats 4000000 in
theorem step_6_0 {G : Thg} {w0 w : World} {x a b r q : Nat} {A B : Rb} {m : Nat} (h : PB G w0 w NoK x a b r q A B m) (hm : m ≤ 44) (s n v : Int) (ia : Option Addr) (il ic : Nat) (hs : bits BinOp.and IntKind.i64 s 1 = 0) :
    Calls Try.prog 26 #[pt x, opA 6 s n v ia il ic] w fun ex w' => ex = .returned (.bool true) ∧ ∃ A' B' m', m' ≤ 44 ∧ PB G w0 w' NoK x a b r q A' B' m' := by
  obtain ⟨U, hU⟩ : ∃ U, U = w.alloc (.cells #[.int .i64 6, .int .i64 s, .int .i64 n, .int .i64 v, .slice ia il ic] 56) := ⟨_, rfl⟩
  have hbU : RowKit.Below w.heap.size w U := by rw [hU]; exact (Below.refl _ _).alloc (Nat.le_refl _) _
  have h1 := MO.below h hbU
  have hg : U.heap[w.heap.size]? = some (.cells #[.int .i64 6, .int .i64 s, .int .i64 n, .int .i64 v, .slice ia il ic] 56 (0, 0)) := by rw [hU]; exact heap_alloc_new w _
  obtain ⟨g, hgg⟩ : ∃ g, g = w.heap.size := ⟨_, rfl⟩
  obtain ⟨aL, cL, vW, hbx, -, -, hx⟩ := pb_box h1
  rw [← hgg] at hg
  have c0 := cell_row hbx 0
  have c1 := cell_row hbx 1
  have c2 := cell_row hbx 2
  have c3 := cell_row hbx 3
  have d0 := cell_row hg 0
  have d1 := cell_row hg 1
  have d2 := cell_row hg 2
  have d3 := cell_row hg 3
  have d4 := cell_row hg 4
  simp at c0 c1 c2 c3 d0 d1 d2 d3 d4
  have H1 := hd h1
  have HW := hd hU
  clear h h1 hbx hg hbU hU
  go_enter Try.func26, Try.ntmps26
  go_wp2_with fail
  rw [← HW.out]
  clear HW
  subst hgg
  go_wp2_with fail
  refine (held_0 H1.out hm).mono ?_
  rintro _ w1 ⟨rfl, m', hm', M⟩
  have H2 := hd M
  clear M H1
  go_wp2_with fail
  go_ret
  exact ⟨rfl, A, B, m', hm', H2.out⟩

set_option maxRecDepth 100000 in
set_option maxHeartbeats 4000000 in
theorem step_5_0 {G : Thg} {w0 w : World} {x a b r q : Nat} {A B : Rb} {m : Nat} (h : PB G w0 w NoK x a b r q A B m) (hm : m ≤ 44) (s n v : Int) (ia : Option Addr) (il ic : Nat) (hs : bits BinOp.and IntKind.i64 s 1 = 0) :
    Calls Try.prog 26 #[pt x, opA 5 s n v ia il ic] w fun ex w' => ex = .returned (.bool true) ∧ ∃ A' B' m', m' ≤ 44 ∧ PB G w0 w' NoK x a b r q A' B' m' := by
  obtain ⟨U, hU⟩ : ∃ U, U = w.alloc (.cells #[.int .i64 5, .int .i64 s, .int .i64 n, .int .i64 v, .slice ia il ic] 56) := ⟨_, rfl⟩
  have hbU : RowKit.Below w.heap.size w U := by rw [hU]; exact (Below.refl _ _).alloc (Nat.le_refl _) _
  have h1 := MO.below h hbU
  have hg : U.heap[w.heap.size]? = some (.cells #[.int .i64 5, .int .i64 s, .int .i64 n, .int .i64 v, .slice ia il ic] 56 (0, 0)) := by rw [hU]; exact heap_alloc_new w _
  obtain ⟨g, hgg⟩ : ∃ g, g = w.heap.size := ⟨_, rfl⟩
  obtain ⟨aL, cL, vW, hbx, -, -, hx⟩ := pb_box h1
  rw [← hgg] at hg
  have c0 := cell_row hbx 0
  have c1 := cell_row hbx 1
  have c2 := cell_row hbx 2
  have c3 := cell_row hbx 3
  have d0 := cell_row hg 0
  have d1 := cell_row hg 1
  have d2 := cell_row hg 2
  have d3 := cell_row hg 3
  have d4 := cell_row hg 4
  simp at c0 c1 c2 c3 d0 d1 d2 d3 d4
  have H1 := hd h1
  have HW := hd hU
  clear h h1 hbx hg hbU hU
  go_enter Try.func26, Try.ntmps26
  go_wp2_with fail
  rw [← HW.out]
  clear HW
  subst hgg
  go_wp2_with fail
  go_quiet (first | (go_at_call 17; exact Calls.quiet_of_same (mk_cum (MO.below H1.out (below_drewN' _ _)) 0 rfl)) | (go_at_call 33; exact Calls.quiet_of_same (mr_cum (MO.below H1.out (below_drewN' _ _)) 2 rfl)))
  go_wp2_with fail
  go_ret
  exact ⟨by simp, A, B, m, hm, MO.below H1.out (below_drewN' _ _)⟩

set_option maxRecDepth 100000 in
set_option maxHeartbeats 4000000 in
theorem step_2_1 {G : Thg} {w0 w : World} {x a b r q : Nat} {A B : Rb} {m : Nat} (h : PB G w0 w NoK x a b r q A B m) (hm : m ≤ 44) (s n v : Int) (ia : Option Addr) (il ic : Nat) (hs : bits BinOp.and IntKind.i64 s 1 = 1) :
    Calls Try.prog 26 #[pt x, opA 2 s n v ia il ic] w fun ex w' => ex = .returned (.bool true) ∧ ∃ A' B' m', m' ≤ 44 ∧ PB G w0 w' NoK x a b r q A' B' m' := by
  obtain ⟨U, hU⟩ : ∃ U, U = w.alloc (.cells #[.int .i64 2, .int .i64 s, .int .i64 n, .int .i64 v, .slice ia il ic] 56) := ⟨_, rfl⟩
  have hbU : RowKit.Below w.heap.size w U := by rw [hU]; exact (Below.refl _ _).alloc (Nat.le_refl _) _
  have h1 := MO.below h hbU
  have hg : U.heap[w.heap.size]? = some (.cells #[.int .i64 2, .int .i64 s, .int .i64 n, .int .i64 v, .slice ia il ic] 56 (0, 0)) := by rw [hU]; exact heap_alloc_new w _
  obtain ⟨g, hgg⟩ : ∃ g, g = w.heap.size := ⟨_, rfl⟩
  obtain ⟨aL, cL, vW, hbx, -, -, hx⟩ := pb_box h1
  rw [← hgg] at hg
  have c0 := cell_row hbx 0
  have c1 := cell_row hbx 1
  have c2 := cell_row hbx 2
  have c3 := cell_row hbx 3
  have d0 := cell_row hg 0
  have d1 := cell_row hg 1
  have d2 := cell_row hg 2
  have d3 := cell_row hg 3
  have d4 := cell_row hg 4
  simp at c0 c1 c2 c3 d0 d1 d2 d3 d4
  have H1 := hd h1
  have HW := hd hU
  clear h h1 hbx hg hbU hU
  go_enter Try.func26, Try.ntmps26
  go_wp2_with fail
  rw [← HW.out]
  clear HW
  subst hgg
  go_wp2_with fail
  refine (head_1 H1.out).mono ?_
  rintro _ w1 ⟨rfl, M⟩
  have H2 := hd M
  clear M H1
  go_wp2_with fail
  go_ret
  exact ⟨rfl, A, B, m, hm, H2.out⟩

set_option maxRecDepth 100000 in
set_option maxHeartbeats 4000000 in
theorem step_6_1 {G : Thg} {w0 w : World} {x a b r q : Nat} {A B : Rb} {m : Nat} (h : PB G w0 w NoK x a b r q A B m) (hm : m ≤ 44) (s n v : Int) (ia : Option Addr) (il ic : Nat) (hs : bits BinOp.and IntKind.i64 s 1 = 1) :
    Calls Try.prog 26 #[pt x, opA 6 s n v ia il ic] w fun ex w' => ex = .returned (.bool true) ∧ ∃ A' B' m', m' ≤ 44 ∧ PB G w0 w' NoK x a b r q A' B' m' := by
  obtain ⟨U, hU⟩ : ∃ U, U = w.alloc (.cells #[.int .i64 6, .int .i64 s, .int .i64 n, .int .i64 v, .slice ia il ic] 56) := ⟨_, rfl⟩
  have hbU : RowKit.Below w.heap.size w U := by rw [hU]; exact (Below.refl _ _).alloc (Nat.le_refl _) _
  have h1 := MO.below h hbU
  have hg : U.heap[w.heap.size]? = some (.cells #[.int .i64 6, .int .i64 s, .int .i64 n, .int .i64 v, .slice ia il ic] 56 (0, 0)) := by rw [hU]; exact heap_alloc_new w _
  obtain ⟨g, hgg⟩ : ∃ g, g = w.heap.size := ⟨_, rfl⟩
  obtain ⟨aL, cL, vW, hbx, -, -, hx⟩ := pb_box h1
  rw [← hgg] at hg
  have c0 := cell_row hbx 0
  have c1 := cell_row hbx 1
  have c2 := cell_row hbx 2
  have c3 := cell_row hbx 3
  have d0 := cell_row hg 0
  have d1 := cell_row hg 1
  have d2 := cell_row hg 2
  have d3 := cell_row hg 3
  have d4 := cell_row hg 4
  simp at c0 c1 c2 c3 d0 d1 d2 d3 d4
  have H1 := hd h1
  have HW := hd hU
  clear h h1 hbx hg hbU hU
  go_enter Try.func26, Try.ntmps26
  go_wp2_with fail
  rw [← HW.out]
  clear HW
  subst hgg
  go_wp2_with fail
  refine (held_1 H1.out hm).mono ?_
  rintro _ w1 ⟨rfl, m', hm', M⟩
  have H2 := hd M
  clear M H1
  go_wp2_with fail
  go_ret
  exact ⟨rfl, A, B, m', hm', H2.out⟩

set_option maxRecDepth 100000 in
set_option maxHeartbeats 4000000 in
theorem step_5_1 {G : Thg} {w0 w : World} {x a b r q : Nat} {A B : Rb} {m : Nat} (h : PB G w0 w NoK x a b r q A B m) (hm : m ≤ 44) (s n v : Int) (ia : Option Addr) (il ic : Nat) (hs : bits BinOp.and IntKind.i64 s 1 = 1) :
    Calls Try.prog 26 #[pt x, opA 5 s n v ia il ic] w fun ex w' => ex = .returned (.bool true) ∧ ∃ A' B' m', m' ≤ 44 ∧ PB G w0 w' NoK x a b r q A' B' m' := by
  obtain ⟨U, hU⟩ : ∃ U, U = w.alloc (.cells #[.int .i64 5, .int .i64 s, .int .i64 n, .int .i64 v, .slice ia il ic] 56) := ⟨_, rfl⟩
  have hbU : RowKit.Below w.heap.size w U := by rw [hU]; exact (Below.refl _ _).alloc (Nat.le_refl _) _
  have h1 := MO.below h hbU
  have hg : U.heap[w.heap.size]? = some (.cells #[.int .i64 5, .int .i64 s, .int .i64 n, .int .i64 v, .slice ia il ic] 56 (0, 0)) := by rw [hU]; exact heap_alloc_new w _
  obtain ⟨g, hgg⟩ : ∃ g, g = w.heap.size := ⟨_, rfl⟩
  obtain ⟨aL, cL, vW, hbx, -, -, hx⟩ := pb_box h1
  rw [← hgg] at hg
  have c0 := cell_row hbx 0
  have c1 := cell_row hbx 1
  have c2 := cell_row hbx 2
  have c3 := cell_row hbx 3
  have d0 := cell_row hg 0
  have d1 := cell_row hg 1
  have d2 := cell_row hg 2
  have d3 := cell_row hg 3
  have d4 := cell_row hg 4
  simp at c0 c1 c2 c3 d0 d1 d2 d3 d4
  have H1 := hd h1
  have HW := hd hU
  clear h h1 hbx hg hbU hU
  go_enter Try.func26, Try.ntmps26
  go_wp2_with fail
  rw [← HW.out]
  clear HW
  subst hgg
  go_wp2_with fail
  go_quiet (first | (go_at_call 45; exact Calls.quiet_of_same (mq_cum (MO.below H1.out (below_drewN' _ _)) 1 rfl)) | (go_at_call 33; exact Calls.quiet_of_same (mr_cum (MO.below H1.out (below_drewN' _ _)) 3 rfl)))
  go_wp2_with fail
  go_ret
  exact ⟨by simp, A, B, m, hm, MO.below H1.out (below_drewN' _ _)⟩

set_option maxRecDepth 100000 in
set_option maxHeartbeats 4000000 in
theorem step_o {G : Thg} {w0 w : World} {x a b r q : Nat} {A B : Rb} {m : Nat} (h : PB G w0 w NoK x a b r q A B m) (hm : m ≤ 44) (k s n v : Int) (ia : Option Addr) (il ic : Nat) (j1 : ¬ k = 1) (j2 : ¬ k = 2) (j3 : ¬ k = 3) (j4 : ¬ k = 4) (j5 : ¬ k = 5) (j6 : ¬ k = 6) (j7 : ¬ k = 7) :
    Calls Try.prog 26 #[pt x, opA k s n v ia il ic] w fun ex w' => ex = .returned (.bool true) ∧ ∃ A' B' m', m' ≤ 44 ∧ PB G w0 w' NoK x a b r q A' B' m' := by
  obtain ⟨U, hU⟩ : ∃ U, U = w.alloc (.cells #[.int .i64 k, .int .i64 s, .int .i64 n, .int .i64 v, .slice ia il ic] 56) := ⟨_, rfl⟩
  have hbU : RowKit.Below w.heap.size w U := by rw [hU]; exact (Below.refl _ _).alloc (Nat.le_refl _) _
  have h1 := MO.below h hbU
  have hg : U.heap[w.heap.size]? = some (.cells #[.int .i64 k, .int .i64 s, .int .i64 n, .int .i64 v, .slice ia il ic] 56 (0, 0)) := by rw [hU]; exact heap_alloc_new w _
  obtain ⟨g, hgg⟩ : ∃ g, g = w.heap.size := ⟨_, rfl⟩
  obtain ⟨aL, cL, vW, hbx, -, -, hx⟩ := pb_box h1
  rw [← hgg] at hg
  have c0 := cell_row hbx 0
  have c1 := cell_row hbx 1
  have c2 := cell_row hbx 2
  have c3 := cell_row hbx 3
  have d0 := cell_row hg 0
  have d1 := cell_row hg 1
  have d2 := cell_row hg 2
  have d3 := cell_row hg 3
  have d4 := cell_row hg 4
  simp at c0 c1 c2 c3 d0 d1 d2 d3 d4
  have H1 := hd h1
  have HW := hd hU
  clear h h1 hbx hg hbU hU
  go_enter Try.func26, Try.ntmps26
  go_wp2_with fail
  go_ret
  rw [← HW.out]
  exact ⟨rfl, A, B, m, hm, H1.out⟩

theorem step_any {G : Thg} {w0 w : World} {x a b r q : Nat} {A B : Rb} {m : Nat} (h : PB G w0 w NoK x a b r q A B m) (hm : m ≤ 44) (k s n v : Int) (ia : Option Addr) (il ic : Nat) :
    Calls Try.prog 26 #[pt x, opA k s n v ia il ic] w fun ex w' => ex = .returned (.bool true) ∧ ∃ A' B' m', m' ≤ 44 ∧ PB G w0 w' NoK x a b r q A' B' m' := by
  by_cases j1 : k = 1
  · subst j1; exact step_1 h hm s n v ia il ic
  by_cases j3 : k = 3
  · subst j3; exact step_3 h hm s n v ia il ic
  by_cases j4 : k = 4
  · subst j4; exact step_4 h hm s n v ia il ic
  by_cases j7 : k = 7
  · subst j7; exact step_7 h hm s n v ia il ic
  by_cases j2 : k = 2
  · subst j2
    rcases bit1 s with hs | hs
    · exact step_2_0 h hm s n v ia il ic hs
    · exact step_2_1 h hm s n v ia il ic hs
  by_cases j6 : k = 6
  · subst j6
    rcases bit1 s with hs | hs
    · exact step_6_0 h hm s n v ia il ic hs
    · exact step_6_1 h hm s n v ia il ic hs
  by_cases j5 : k = 5
  · subst j5
    rcases bit1 s with hs | hs
    · exact step_5_0 h hm s n v ia il ic hs
    · exact step_5_1 h hm s n v ia il ic hs
  exact step_o h hm k s n v ia il ic j1 j2 j3 j4 j5 j6 j7

end Go.Proofs.Ytpjnhjijipcjkaa
