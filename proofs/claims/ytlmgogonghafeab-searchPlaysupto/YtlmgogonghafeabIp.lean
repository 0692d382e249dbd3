/-
  Apply: what is refused; Nop.
-/
import Derived.Test.YtlmgogonghafeabNx
namespace Go.Proofs.Ytlmgogonghafeab
open Go.RowKit Go.Lib
set_option linter.unusedVariables false

set_option maxRecDepth 100000 in
set_option maxHeartbeats 4000000 in
theorem iapply_bad (x : Nat) (T : By) (k p c l s : Int) (w : World) (hI : IX w x T) (h0 : 0 ≤ c) (h1 : c ≤ 255) (hf : ¬ fitsP (T.length : Int) ⟨k, p, c, l, s⟩ = 0) :
    Calls Try.prog 8 #[.pointer (some ⟨x, 0, none⟩), .agg #[.int .i64 k, .int .i64 p, .int .u8 c, .int .i64 l, .int .i64 s]] w fun e w' => e = .returned (.int .i64 241) ∧ Below w.heap.size w w' := by
  obtain ⟨e, he⟩ : ∃ e, fitsP (T.length : Int) ⟨k, p, c, l, s⟩ = e := ⟨_, rfl⟩
  rw [he] at hf
  have he' : (e != 0) = true := by simpa using hf
  have HI := hd hI
  have CF := hd (fun W => fits_any (T.length : Int) k p c l s W h0 h1)
  simp only [he] at CF
  obtain ⟨W1, hW1⟩ : ∃ W1, w.alloc (.cells #[.int .i64 k, .int .i64 p, .int .u8 c, .int .i64 l, .int .i64 s] 32) = W1 := ⟨_, rfl⟩
  have b1 : Below w.heap.size w W1 := by rw [← hW1]; exact (Below.refl _ _).alloc (Nat.le_refl _) _
  have hn : W1.heap[w.heap.size]? = some (.cells #[.int .i64 k, .int .i64 p, .int .u8 c, .int .i64 l, .int .i64 s] 32 (0, 0)) := by rw [← hW1]; exact heap_alloc_new w _
  obtain ⟨a, n, cc, ps, c0, c1, -, -⟩ := (hI.below b1).cells
  have n0 : W1.cell? ⟨w.heap.size, 0, none⟩ = some (.int .i64 k) := by have := cell_row hn 0; simpa using this
  have n1 : W1.cell? ⟨w.heap.size, 1, none⟩ = some (.int .i64 p) := by have := cell_row hn 1; simpa using this
  have n2 : W1.cell? ⟨w.heap.size, 2, none⟩ = some (.int .u8 c) := by have := cell_row hn 2; simpa using this
  have n3 : W1.cell? ⟨w.heap.size, 3, none⟩ = some (.int .i64 l) := by have := cell_row hn 3; simpa using this
  have n4 : W1.cell? ⟨w.heap.size, 4, none⟩ = some (.int .i64 s) := by have := cell_row hn 4; simpa using this
  have B1 := hd b1
  clear b1 hn hI h0 h1 he
  go_enter Try.func8, Try.ntmps8
  go_upto_region 1 with fail
  clear hW1
  go_region_with (go_at_call 21; refine (CF.out _).mono ?_; rintro e2 w2 ⟨rfl, b2⟩)
  all_goals
    go_wp2
    go_ret
    exact ⟨rfl, B1.out.trans (((below_drew _).trans b2).mono B1.out.size)⟩

set_option maxRecDepth 100000 in
set_option maxHeartbeats 4000000 in
theorem iapply_nop (x : Nat) (T : By) (p c l s : Int) (w : World) (hI : IX w x T) (h0 : 0 ≤ c) (h1 : c ≤ 255) (hf : fitsP (T.length : Int) ⟨0, p, c, l, s⟩ = 0) :
    Calls Try.prog 8 #[.pointer (some ⟨x, 0, none⟩), .agg #[.int .i64 0, .int .i64 p, .int .u8 c, .int .i64 l, .int .i64 s]] w fun e w' => e = .returned (.int .i64 0) ∧ Below w.heap.size w w' := by
  have HI := hd hI
  have CF := hd (fun W => fits_any (T.length : Int) 0 p c l s W h0 h1)
  simp only [hf] at CF
  obtain ⟨W1, hW1⟩ : ∃ W1, w.alloc (.cells #[.int .i64 0, .int .i64 p, .int .u8 c, .int .i64 l, .int .i64 s] 32) = W1 := ⟨_, rfl⟩
  have b1 : Below w.heap.size w W1 := by rw [← hW1]; exact (Below.refl _ _).alloc (Nat.le_refl _) _
  have hn : W1.heap[w.heap.size]? = some (.cells #[.int .i64 0, .int .i64 p, .int .u8 c, .int .i64 l, .int .i64 s] 32 (0, 0)) := by rw [← hW1]; exact heap_alloc_new w _
  obtain ⟨a, n, cc, ps, c0, c1, -, -⟩ := (hI.below b1).cells
  have hn0 := hn
  have n0 : W1.cell? ⟨w.heap.size, 0, none⟩ = some (.int .i64 0) := by have := cell_row hn 0; simpa using this
  have n1 : W1.cell? ⟨w.heap.size, 1, none⟩ = some (.int .i64 p) := by have := cell_row hn 1; simpa using this
  have n2 : W1.cell? ⟨w.heap.size, 2, none⟩ = some (.int .u8 c) := by have := cell_row hn 2; simpa using this
  have n3 : W1.cell? ⟨w.heap.size, 3, none⟩ = some (.int .i64 l) := by have := cell_row hn 3; simpa using this
  have n4 : W1.cell? ⟨w.heap.size, 4, none⟩ = some (.int .i64 s) := by have := cell_row hn 4; simpa using this
  have B1 := hd b1
  clear b1 hn hI h0 h1
  have hlt : w.heap.size < W1.heap.size := block_lt hn0
  go_enter Try.func8, Try.ntmps8
  go_upto_region 1 with fail
  clear hW1
  go_region_with (go_at_call 21; refine (CF.out _).mono ?_; rintro e2 w2 ⟨rfl, b2⟩)
  all_goals
    have b3 : Below W1.heap.size W1 w2 := (below_drew W1).trans b2
    have m0 : w2.cell? ⟨w.heap.size, 0, none⟩ = some (.int .i64 0) := by rw [b3.cell (p := ⟨w.heap.size, 0, none⟩) hlt]; exact n0
    clear b3
    go_wp2
    go_ret
    exact ⟨rfl, B1.out.trans (((below_drew _).trans b2).mono B1.out.size)⟩
end Go.Proofs.Ytlmgogonghafeab
