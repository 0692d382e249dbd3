/-
  Insert, Delete.
-/
import Derived.Test.YtjgpibajndlhaaaCe
namespace Go.Proofs.Ytjgpibajndlhaaa
open Go.RowKit
set_option linter.unusedVariables false
variable {T : Nat → Prop}

set_option maxRecDepth 100000 in
set_option maxHeartbeats 4000000 in
theorem ins_ch1 (x z : Nat) (id : Int) (ds : List El) (es : List (Int × OpE)) (βp : Option Nat) (p : Sp) (pos ch : Int) (w : World) (h : CL T w x z id ds es βp p) (h1 : ch < 32) :
    Calls Try.prog 8 #[.pointer (some ⟨x, 0, none⟩), .int .i64 pos, .int .i64 ch] w fun e w' => e = .returned (.tuple #[.agg #[.int .i64 0, .int .i64 0, .int .i64 0, .int .u8 0, .int .i64 0, .int .i64 0], .int .i64 42]) ∧ Below w.heap.size w w' := by
  have HH := hd h
  obtain ⟨y, vt, vp, βt, c, i, t, e, s, _⟩ := h
  obtain ⟨⟨hl, -, -, -, c3, -⟩, -⟩ := c.cells
  obtain ⟨at', ct, rfl, -⟩ := t.form
  clear c i t e s
  clear HH
  go_enter Try.func8, Try.ntmps8
  go_wp2
  refine bodyPost_ret (v := .tuple #[.agg #[.int .i64 0, .int .i64 0, .int .i64 0, .int .u8 0, .int .i64 0, .int .i64 0], .int .i64 42]) (by simp [results, Try.results8, go_sem]) rfl ?_
  refine ⟨rfl, ?_⟩
  repeat (first | exact (Below.refl _ _).alloc (Nat.le_refl _) _ | refine Below.setCell ?_ (by simp) _)

set_option maxRecDepth 100000 in
set_option maxHeartbeats 4000000 in
theorem ins_ch2 (x z : Nat) (id : Int) (ds : List El) (es : List (Int × OpE)) (βp : Option Nat) (p : Sp) (pos ch : Int) (w : World) (h : CL T w x z id ds es βp p) (h1 : 126 < ch) :
    Calls Try.prog 8 #[.pointer (some ⟨x, 0, none⟩), .int .i64 pos, .int .i64 ch] w fun e w' => e = .returned (.tuple #[.agg #[.int .i64 0, .int .i64 0, .int .i64 0, .int .u8 0, .int .i64 0, .int .i64 0], .int .i64 42]) ∧ Below w.heap.size w w' := by
  have HH := hd h
  obtain ⟨y, vt, vp, βt, c, i, t, e, s, _⟩ := h
  obtain ⟨⟨hl, -, -, -, c3, -⟩, -⟩ := c.cells
  obtain ⟨at', ct, rfl, -⟩ := t.form
  clear c i t e s
  have h2 : ¬ ch < 32 := by omega
  clear HH
  go_enter Try.func8, Try.ntmps8
  go_wp2
  refine bodyPost_ret (v := .tuple #[.agg #[.int .i64 0, .int .i64 0, .int .i64 0, .int .u8 0, .int .i64 0, .int .i64 0], .int .i64 42]) (by simp [results, Try.results8, go_sem]) rfl ?_
  refine ⟨rfl, ?_⟩
  repeat (first | exact (Below.refl _ _).alloc (Nat.le_refl _) _ | refine Below.setCell ?_ (by simp) _)

set_option maxRecDepth 100000 in
set_option maxHeartbeats 4000000 in
theorem ins_p1 (x z : Nat) (id : Int) (ds : List El) (es : List (Int × OpE)) (βp : Option Nat) (p : Sp) (pos ch : Int) (w : World) (h : CL T w x z id ds es βp p) (h1 : 32 ≤ ch) (h2 : ch ≤ 126) (h3 : pos < 0) :
    Calls Try.prog 8 #[.pointer (some ⟨x, 0, none⟩), .int .i64 pos, .int .i64 ch] w fun e w' => e = .returned (.tuple #[.agg #[.int .i64 0, .int .i64 0, .int .i64 0, .int .u8 0, .int .i64 0, .int .i64 0], .int .i64 43]) ∧ Below w.heap.size w w' := by
  have HH := hd h
  obtain ⟨y, vt, vp, βt, c, i, t, e, s, _⟩ := h
  obtain ⟨⟨hl, -, -, -, c3, -⟩, -⟩ := c.cells
  obtain ⟨at', ct, rfl, -⟩ := t.form
  clear c i t e s
  have h1' : ¬ ch < 32 := by omega
  have h2' : ¬ 126 < ch := by omega
  clear h1 h2
  clear HH
  go_enter Try.func8, Try.ntmps8
  go_wp2
  refine bodyPost_ret (v := .tuple #[.agg #[.int .i64 0, .int .i64 0, .int .i64 0, .int .u8 0, .int .i64 0, .int .i64 0], .int .i64 43]) (by simp [results, Try.results8, go_sem]) rfl ?_
  refine ⟨rfl, ?_⟩
  repeat (first | exact (Below.refl _ _).alloc (Nat.le_refl _) _ | refine Below.setCell ?_ (by simp) _)

set_option maxRecDepth 100000 in
set_option maxHeartbeats 4000000 in
theorem ins_p2 (x z : Nat) (id : Int) (ds : List El) (es : List (Int × OpE)) (βp : Option Nat) (p : Sp) (pos ch : Int) (w : World) (h : CL T w x z id ds es βp p) (h1 : 32 ≤ ch) (h2 : ch ≤ 126) (h3 : (ds.length : Int) < pos) :
    Calls Try.prog 8 #[.pointer (some ⟨x, 0, none⟩), .int .i64 pos, .int .i64 ch] w fun e w' => e = .returned (.tuple #[.agg #[.int .i64 0, .int .i64 0, .int .i64 0, .int .u8 0, .int .i64 0, .int .i64 0], .int .i64 43]) ∧ Below w.heap.size w w' := by
  have HH := hd h
  obtain ⟨y, vt, vp, βt, c, i, t, e, s, _⟩ := h
  obtain ⟨⟨hl, -, -, -, c3, -⟩, -⟩ := c.cells
  obtain ⟨at', ct, rfl, -⟩ := t.form
  clear c i t e s
  have h1' : ¬ ch < 32 := by omega
  have h2' : ¬ 126 < ch := by omega
  have h4 : ¬ pos < 0 := by omega
  clear h1 h2
  clear HH
  go_enter Try.func8, Try.ntmps8
  go_wp2
  refine bodyPost_ret (v := .tuple #[.agg #[.int .i64 0, .int .i64 0, .int .i64 0, .int .u8 0, .int .i64 0, .int .i64 0], .int .i64 43]) (by simp [results, Try.results8, go_sem]) rfl ?_
  refine ⟨rfl, ?_⟩
  repeat (first | exact (Below.refl _ _).alloc (Nat.le_refl _) _ | refine Below.setCell ?_ (by simp) _)

set_option maxRecDepth 100000 in
set_option maxHeartbeats 4000000 in
theorem ins_full (x z : Nat) (id : Int) (ds : List El) (es : List (Int × OpE)) (βp : Option Nat) (p : Sp) (pos ch : Int) (w : World) (h : CL T w x z id ds es βp p) (h1 : 32 ≤ ch) (h2 : ch ≤ 126) (h3 : 0 ≤ pos) (h4 : pos ≤ ds.length) (hf : 64 ≤ p.last) :
    Calls Try.prog 8 #[.pointer (some ⟨x, 0, none⟩), .int .i64 pos, .int .i64 ch] w fun e w' => e = .returned (.tuple #[.agg #[.int .i64 0, .int .i64 0, .int .i64 0, .int .u8 0, .int .i64 0, .int .i64 0], .int .i64 111]) ∧ Below w.heap.size w w' := by
  have HH := hd h
  obtain ⟨y, vt, vp, βt, c, i, t, e, s, _⟩ := h
  obtain ⟨⟨hl, -, -, -, c3, -⟩, -⟩ := c.cells
  obtain ⟨at', ct, rfl, -⟩ := t.form
  clear c i t e s
  have h1' : ¬ ch < 32 := by omega
  have h2' : ¬ 126 < ch := by omega
  have h3' : ¬ pos < 0 := by omega
  have h4' : ¬ (ds.length : Int) < pos := by omega
  have hw : IntKind.u8.wrap ch = ch := by rw [IntKind.wrap_u8]; omega
  clear h1 h2 h3 h4
  have B : Hid (∀ W, Fr (· = w.heap.size) (w.alloc (.cells #[.int .i64 0, .int .i64 0, .int .i64 0, .int .u8 0, .int .i64 0, .int .i64 0] 36)) W → Below w.heap.size w W) := fun W hF => ((Below.refl w.heap.size w).alloc (Nat.le_refl _) _).trans (hF.below (by simp) (fun j h => by omega))
  go_enter Try.func8, Try.ntmps8
  go_wp2_with fail
  refine (makeEdit_full x z id ds es βp p ⟨1, pos, ch, 0, 0⟩ _ (HH.out.below ((Below.refl _ _).alloc (Nat.le_refl _) _)) hf).mono ?_
  rintro e w1 ⟨rfl, hb⟩
  have X := (hb.block _ (by simp)).trans (heap_alloc_new w (.cells #[.int .i64 0, .int .i64 0, .int .i64 0, .int .u8 0, .int .i64 0, .int .i64 0] 36))
  obtain ⟨⟨r0, r1, r2, r3, r4, r5⟩, ⟨t0, t1, t2, t3, t4, t5⟩⟩ := cells6 X
  have lt := block_lt X
  have B1 : Hid (∀ W, Fr (· = w.heap.size) w1 W → Below w.heap.size w W) := fun W hF => (((Below.refl w.heap.size w).alloc (Nat.le_refl _) _).trans (hb.mono (by simp))).trans (hF.below (by have := hb.size; simp at this; omega) (fun j h => by omega))
  have Z := hd (set6 X (.int .i64 0) (.int .i64 0) (.int .i64 0) (.int .u8 0) (.int .i64 0) (.int .i64 0)).2
  clear hb X HH B
  go_wp2
  refine bodyPost_ret (v := .tuple #[.agg #[.int .i64 0, .int .i64 0, .int .i64 0, .int .u8 0, .int .i64 0, .int .i64 0], .int .i64 111]) (by simp [results, Try.results8, go_sem, r0, r1, r2, r3, r4, r5]) rfl ?_
  exact ⟨rfl, B1.out _ Z.out⟩

set_option maxRecDepth 100000 in
set_option maxHeartbeats 4000000 in
theorem del_p1 (x z : Nat) (id : Int) (ds : List El) (es : List (Int × OpE)) (βp : Option Nat) (p : Sp) (pos : Int) (w : World) (h : CL T w x z id ds es βp p) (h3 : pos < 0) :
    Calls Try.prog 7 #[.pointer (some ⟨x, 0, none⟩), .int .i64 pos] w fun e w' => e = .returned (.tuple #[.agg #[.int .i64 0, .int .i64 0, .int .i64 0, .int .u8 0, .int .i64 0, .int .i64 0], .int .i64 43]) ∧ Below w.heap.size w w' := by
  have HH := hd h
  obtain ⟨y, vt, vp, βt, c, i, t, e, s, _⟩ := h
  obtain ⟨⟨hl, -, -, -, c3, -⟩, -⟩ := c.cells
  obtain ⟨at', ct, rfl, -⟩ := t.form
  clear c i t e s
  clear HH
  go_enter Try.func7, Try.ntmps7
  go_wp2
  refine bodyPost_ret (v := .tuple #[.agg #[.int .i64 0, .int .i64 0, .int .i64 0, .int .u8 0, .int .i64 0, .int .i64 0], .int .i64 43]) (by simp [results, Try.results7, go_sem]) rfl ?_
  refine ⟨rfl, ?_⟩
  repeat (first | exact (Below.refl _ _).alloc (Nat.le_refl _) _ | refine Below.setCell ?_ (by simp) _)

set_option maxRecDepth 100000 in
set_option maxHeartbeats 4000000 in
theorem del_p2 (x z : Nat) (id : Int) (ds : List El) (es : List (Int × OpE)) (βp : Option Nat) (p : Sp) (pos : Int) (w : World) (h : CL T w x z id ds es βp p) (h3 : (ds.length : Int) ≤ pos) :
    Calls Try.prog 7 #[.pointer (some ⟨x, 0, none⟩), .int .i64 pos] w fun e w' => e = .returned (.tuple #[.agg #[.int .i64 0, .int .i64 0, .int .i64 0, .int .u8 0, .int .i64 0, .int .i64 0], .int .i64 43]) ∧ Below w.heap.size w w' := by
  have HH := hd h
  obtain ⟨y, vt, vp, βt, c, i, t, e, s, _⟩ := h
  obtain ⟨⟨hl, -, -, -, c3, -⟩, -⟩ := c.cells
  obtain ⟨at', ct, rfl, -⟩ := t.form
  clear c i t e s
  have h4 : ¬ pos < 0 := by omega
  clear HH
  go_enter Try.func7, Try.ntmps7
  go_wp2
  refine bodyPost_ret (v := .tuple #[.agg #[.int .i64 0, .int .i64 0, .int .i64 0, .int .u8 0, .int .i64 0, .int .i64 0], .int .i64 43]) (by simp [results, Try.results7, go_sem]) rfl ?_
  refine ⟨rfl, ?_⟩
  repeat (first | exact (Below.refl _ _).alloc (Nat.le_refl _) _ | refine Below.setCell ?_ (by simp) _)

set_option maxRecDepth 100000 in
set_option maxHeartbeats 4000000 in
theorem del_full (x z : Nat) (id : Int) (ds : List El) (es : List (Int × OpE)) (βp : Option Nat) (p : Sp) (pos : Int) (w : World) (h : CL T w x z id ds es βp p) (h3 : 0 ≤ pos) (h4 : pos < ds.length) (hf : 64 ≤ p.last) :
    Calls Try.prog 7 #[.pointer (some ⟨x, 0, none⟩), .int .i64 pos] w fun e w' => e = .returned (.tuple #[.agg #[.int .i64 0, .int .i64 0, .int .i64 0, .int .u8 0, .int .i64 0, .int .i64 0], .int .i64 111]) ∧ Below w.heap.size w w' := by
  have HH := hd h
  obtain ⟨y, vt, vp, βt, c, i, t, e, s, _⟩ := h
  obtain ⟨⟨hl, -, -, -, c3, -⟩, -⟩ := c.cells
  obtain ⟨at', ct, rfl, -⟩ := t.form
  clear c i t e s
  have h3' : ¬ pos < 0 := by omega
  have h4' : ¬ (ds.length : Int) ≤ pos := by omega
  clear h3 h4
  have B : Hid (∀ W, Fr (· = w.heap.size) (w.alloc (.cells #[.int .i64 0, .int .i64 0, .int .i64 0, .int .u8 0, .int .i64 0, .int .i64 0] 36)) W → Below w.heap.size w W) := fun W hF => ((Below.refl w.heap.size w).alloc (Nat.le_refl _) _).trans (hF.below (by simp) (fun j h => by omega))
  go_enter Try.func7, Try.ntmps7
  go_wp2_with fail
  refine (makeEdit_full x z id ds es βp p ⟨2, pos, 0, 0, 0⟩ _ (HH.out.below ((Below.refl _ _).alloc (Nat.le_refl _) _)) hf).mono ?_
  rintro e w1 ⟨rfl, hb⟩
  have X := (hb.block _ (by simp)).trans (heap_alloc_new w (.cells #[.int .i64 0, .int .i64 0, .int .i64 0, .int .u8 0, .int .i64 0, .int .i64 0] 36))
  obtain ⟨⟨r0, r1, r2, r3, r4, r5⟩, ⟨t0, t1, t2, t3, t4, t5⟩⟩ := cells6 X
  have lt := block_lt X
  have B1 : Hid (∀ W, Fr (· = w.heap.size) w1 W → Below w.heap.size w W) := fun W hF => (((Below.refl w.heap.size w).alloc (Nat.le_refl _) _).trans (hb.mono (by simp))).trans (hF.below (by have := hb.size; simp at this; omega) (fun j h => by omega))
  have Z := hd (set6 X (.int .i64 0) (.int .i64 0) (.int .i64 0) (.int .u8 0) (.int .i64 0) (.int .i64 0)).2
  clear hb X HH B
  go_wp2
  refine bodyPost_ret (v := .tuple #[.agg #[.int .i64 0, .int .i64 0, .int .i64 0, .int .u8 0, .int .i64 0, .int .i64 0], .int .i64 111]) (by simp [results, Try.results7, go_sem, r0, r1, r2, r3, r4, r5]) rfl ?_
  exact ⟨rfl, B1.out _ Z.out⟩

set_option maxRecDepth 100000 in
set_option maxHeartbeats 4000000 in
theorem ins_good (x z : Nat) (id : Int) (ds : List El) (es : List (Int × OpE)) (βp : Option Nat) (p : Sp) (n : Nat) (q : Nat) (ch : Int) (w : World) (h : CL T w x z id ds es βp p) (hi1 : 1 ≤ id) (hi2 : id ≤ 64) (hn : p.last = n) (hn4 : n < 64) (hd4 : ds.length < 4096) (he : es.length ≤ 64) (h1 : 32 ≤ ch) (h2 : ch ≤ 126) (h4 : q ≤ ds.length) :
    Calls Try.prog 8 #[.pointer (some ⟨x, 0, none⟩), .int .i64 q, .int .i64 ch] w fun e w' => e = .returned (.tuple #[.agg #[.int .i64 0, .int .i64 1, .int .i64 (q : Int), .int .u8 ch, .int .i64 id, .int .i64 ((n : Int) + 1)], .int .i64 0]) ∧ Done T w w' x z id ds es βp ⟨1, q, ch, id, (n : Int) + 1⟩ n := by
  have HH := hd h
  have HF : Hid (fitsP ds.length ⟨1, q, ch, id, (n : Int) + 1⟩ = 0) := fits_ins h1 h2 hi1 hi2 (by omega) (by omega) h4 hd4
  have HI := hd (And.intro hn he)
  obtain ⟨y, vt, vp, βt, cb, i, t, e, s, _⟩ := h
  obtain ⟨⟨hl, -, -, -, c3, -⟩, -⟩ := cb.cells
  obtain ⟨at', ct, rfl, -⟩ := t.form
  clear cb i t e s hn he
  have h1' : ¬ ch < 32 := by omega
  have h2' : ¬ 126 < ch := by omega
  have h3' : ¬ (q : Int) < 0 := by omega
  have h4' : ¬ (ds.length : Int) < q := by omega
  have hw : IntKind.u8.wrap ch = ch := by rw [IntKind.wrap_u8]; omega
  go_enter Try.func8, Try.ntmps8
  go_wp2_with fail
  refine (makeEdit_good x z id ds es βp p 1 q ch n _ (HH.out.below ((Below.refl _ _).alloc (Nat.le_refl _) _)) HI.out.1 hn4 (by omega) (by omega) HF.out HI.out.2).mono ?_
  rintro e w1 ⟨rfl, hD⟩
  obtain ⟨X, hD'⟩ := Done.out HH.out hD
  obtain ⟨⟨r0, r1, r2, r3, r4, r5⟩, ⟨t0, t1, t2, t3, t4, t5⟩⟩ := cells6 X
  have lt := block_lt X
  have Z := hd (hD' _ (set6 X (.int .i64 0) (.int .i64 1) (.int .i64 q) (.int .u8 ch) (.int .i64 id) (.int .i64 ((n : Int) + 1))).2)
  clear hD hD' X HH HF HI
  go_wp2
  refine bodyPost_ret (v := .tuple #[.agg #[.int .i64 0, .int .i64 1, .int .i64 (q : Int), .int .u8 ch, .int .i64 id, .int .i64 ((n : Int) + 1)], .int .i64 0]) (by simp [results, Try.results8, go_sem, r0, r1, r2, r3, r4, r5]) rfl ?_
  exact ⟨rfl, Z.out⟩

set_option maxRecDepth 100000 in
set_option maxHeartbeats 4000000 in
theorem del_good (x z : Nat) (id : Int) (ds : List El) (es : List (Int × OpE)) (βp : Option Nat) (p : Sp) (n : Nat) (q : Nat) (w : World) (h : CL T w x z id ds es βp p) (hi1 : 1 ≤ id) (hi2 : id ≤ 64) (hn : p.last = n) (hn4 : n < 64) (hd4 : ds.length < 4096) (he : es.length ≤ 64) (h4 : q < ds.length) :
    Calls Try.prog 7 #[.pointer (some ⟨x, 0, none⟩), .int .i64 q] w fun e w' => e = .returned (.tuple #[.agg #[.int .i64 0, .int .i64 2, .int .i64 (q : Int), .int .u8 0, .int .i64 id, .int .i64 ((n : Int) + 1)], .int .i64 0]) ∧ Done T w w' x z id ds es βp ⟨2, q, 0, id, (n : Int) + 1⟩ n := by
  have HH := hd h
  have HF : Hid (fitsP ds.length ⟨2, q, 0, id, (n : Int) + 1⟩ = 0) := fits_del hi1 hi2 (by omega) (by omega) h4 (by omega)
  have HI := hd (And.intro hn he)
  obtain ⟨y, vt, vp, βt, cb, i, t, e, s, _⟩ := h
  obtain ⟨⟨hl, -, -, -, c3, -⟩, -⟩ := cb.cells
  obtain ⟨at', ct, rfl, -⟩ := t.form
  clear cb i t e s hn he
  have h3' : ¬ (q : Int) < 0 := by omega
  have h4' : ¬ (ds.length : Int) ≤ q := by omega
  go_enter Try.func7, Try.ntmps7
  go_wp2_with fail
  refine (makeEdit_good x z id ds es βp p 2 q 0 n _ (HH.out.below ((Below.refl _ _).alloc (Nat.le_refl _) _)) HI.out.1 hn4 (by omega) (by omega) HF.out HI.out.2).mono ?_
  rintro e w1 ⟨rfl, hD⟩
  obtain ⟨X, hD'⟩ := Done.out HH.out hD
  obtain ⟨⟨r0, r1, r2, r3, r4, r5⟩, ⟨t0, t1, t2, t3, t4, t5⟩⟩ := cells6 X
  have lt := block_lt X
  have Z := hd (hD' _ (set6 X (.int .i64 0) (.int .i64 2) (.int .i64 q) (.int .u8 0) (.int .i64 id) (.int .i64 ((n : Int) + 1))).2)
  clear hD hD' X HH HF HI
  go_wp2
  refine bodyPost_ret (v := .tuple #[.agg #[.int .i64 0, .int .i64 2, .int .i64 (q : Int), .int .u8 0, .int .i64 id, .int .i64 ((n : Int) + 1)], .int .i64 0]) (by simp [results, Try.results7, go_sem, r0, r1, r2, r3, r4, r5]) rfl ?_
  exact ⟨rfl, Z.out⟩

end Go.Proofs.Ytjgpibajndlhaaa
