/-
  The law's alike.
-/
import Derived.Test.YtplmhilkehkeiaaDoorSq
import Derived.Deep.DeepCutAuto
namespace Go.Proofs.YtplmhilkehkeiaaDoor
open Go.RowKit
set_option linter.unusedVariables false

/-- A slice of bytes that reads so. -/
def RB (w : World) (a : Option Addr) (n : Nat) (t : List Int) : Prop := t.length = n ∧ (n = 0 ∨ ∃ g, a = some ⟨g, 0, none⟩ ∧ g < w.heap.size ∧ ∀ i (h : i < t.length), w.cell? ⟨g, i, none⟩ = some (.int .u8 t[i]))
theorem RB.below {w w' : World} {a : Option Addr} {n B : Nat} {t : List Int} (h : RB w a n t) (hb : Below B w w') (hB : w.heap.size ≤ B) : RB w' a n t := by
  refine ⟨h.1, h.2.imp id ?_⟩
  rintro ⟨g, h1, h2, h3⟩
  exact ⟨g, h1, Nat.lt_of_lt_of_le h2 hb.size, fun i hi => (hb.cell (p := ⟨g, i, none⟩) (show g < B by omega)).trans (h3 i hi)⟩
theorem RB.of {w : World} {base : Nat} {v : Value} {t : List Int} (h : NL bc 1 5 w base v t) : ∃ a c, v = .slice a t.length c ∧ RB w a t.length t := by
  obtain ⟨β, hS, -⟩ := h
  cases β with
  | none => obtain ⟨rfl, rfl⟩ := hS; exact ⟨none, 0, rfl, rfl, .inl rfl⟩
  | some g =>
    obtain ⟨c, rfl, hR⟩ := hS
    refine ⟨_, c, rfl, rfl, .inr ⟨g, rfl, hR.lt, fun i hi => ?_⟩⟩
    have := hR.cell sz_bc i 0 hi (by omega)
    simpa [bc] using this

set_option maxRecDepth 100000 in
set_option maxHeartbeats 8000000 in
theorem alike_any (k s a b c ch e : Int) (a1 a2 : Option Addr) (n c1 c2 : Nat) (t : List Int) (w : World) (h1 : RB w a1 n t) (h2 : RB w a2 n t) (hn : n ≤ 4000000) :
    Calls Tryd.prog 10 #[.agg #[.int .i64 k, .int .i64 s, .int .i64 a, .int .i64 b, .int .i64 c, .int .u8 ch, .slice a1 n c1, .int .i64 e], .agg #[.int .i64 k, .int .i64 s, .int .i64 a, .int .i64 b, .int .i64 c, .int .u8 ch, .slice a2 n c2, .int .i64 e]] w fun x w' => x = .returned (.bool true) ∧ Below w.heap.size w w' := by
  have g1 : ((w.alloc (.cells #[.int .i64 k, .int .i64 s, .int .i64 a, .int .i64 b, .int .i64 c, .int .u8 ch, .slice a1 n c1, .int .i64 e] 25)).alloc (.cells #[.int .i64 k, .int .i64 s, .int .i64 a, .int .i64 b, .int .i64 c, .int .u8 ch, .slice a2 n c2, .int .i64 e] 25)).heap[w.heap.size]? = some (.cells #[.int .i64 k, .int .i64 s, .int .i64 a, .int .i64 b, .int .i64 c, .int .u8 ch, .slice a1 n c1, .int .i64 e] 25 (0, 0)) := (heap_alloc_old _ _ (by simp)).trans (heap_alloc_new _ _)
  have g2 : ((w.alloc (.cells #[.int .i64 k, .int .i64 s, .int .i64 a, .int .i64 b, .int .i64 c, .int .u8 ch, .slice a1 n c1, .int .i64 e] 25)).alloc (.cells #[.int .i64 k, .int .i64 s, .int .i64 a, .int .i64 b, .int .i64 c, .int .u8 ch, .slice a2 n c2, .int .i64 e] 25)).heap[w.heap.size + 1]? = some (.cells #[.int .i64 k, .int .i64 s, .int .i64 a, .int .i64 b, .int .i64 c, .int .u8 ch, .slice a2 n c2, .int .i64 e] 25 (0, 0)) := by
    have := heap_alloc_new (w.alloc (.cells #[.int .i64 k, .int .i64 s, .int .i64 a, .int .i64 b, .int .i64 c, .int .u8 ch, .slice a1 n c1, .int .i64 e] 25)) (.cells #[.int .i64 k, .int .i64 s, .int .i64 a, .int .i64 b, .int .i64 c, .int .u8 ch, .slice a2 n c2, .int .i64 e] 25)
    rwa [World.size_alloc] at this
  have gb : Below w.heap.size w ((w.alloc (.cells #[.int .i64 k, .int .i64 s, .int .i64 a, .int .i64 b, .int .i64 c, .int .u8 ch, .slice a1 n c1, .int .i64 e] 25)).alloc (.cells #[.int .i64 k, .int .i64 s, .int .i64 a, .int .i64 b, .int .i64 c, .int .u8 ch, .slice a2 n c2, .int .i64 e] 25)) := ((Below.refl _ _).alloc (Nat.le_refl _) _).alloc (by simp) _
  have HG1 := hd g1
  have HG2 := hd g2
  have HGB := hd gb
  have H1 := hd (h1.below gb (Nat.le_refl _))
  have H2 := hd (h2.below gb (Nat.le_refl _))
  clear g1 g2 gb h1 h2
  go_enter Tryd.func10, Tryd.ntmps10
  go_upto_region 1 with fail
  generalize (w.alloc (.cells #[.int .i64 k, .int .i64 s, .int .i64 a, .int .i64 b, .int .i64 c, .int .u8 ch, .slice a1 n c1, .int .i64 e] 25)).alloc (.cells #[.int .i64 k, .int .i64 s, .int .i64 a, .int .i64 b, .int .i64 c, .int .u8 ch, .slice a2 n c2, .int .i64 e] 25) = w0 at *
  have x0 := cell_row HG1.out 0; have x1 := cell_row HG1.out 1; have x2 := cell_row HG1.out 2; have x3 := cell_row HG1.out 3; have x4 := cell_row HG1.out 4; have x5 := cell_row HG1.out 5; have x6 := cell_row HG1.out 6; have x7 := cell_row HG1.out 7
  have y0 := cell_row HG2.out 0; have y1 := cell_row HG2.out 1; have y2 := cell_row HG2.out 2; have y3 := cell_row HG2.out 3; have y4 := cell_row HG2.out 4; have y5 := cell_row HG2.out 5; have y6 := cell_row HG2.out 6; have y7 := cell_row HG2.out 7
  simp at x0 x1 x2 x3 x4 x5 x6 x7 y0 y1 y2 y3 y4 y5 y6 y7
  go_wp2_with fail
  clear x0 x1 x2 x3 x4 x5 x6 x7 y0 y1 y2 y3 y4 y5 y6 y7
  have HN := hd hn
  clear hn
  go_loopw [5] (fun b wr => ∃ i : Nat, i ≤ n ∧ b = .int .i64 i ∧ Hid (Below w0.heap.size w0 wr)) (fun b _ => n - (intOf b).toNat)
  case atStart => exact ⟨0, Nat.zero_le _, rfl, Below.refl _ _⟩
  case round =>
    obtain ⟨i, hi, rfl, HB⟩ := hrel
    have x6 := (HB.out.cell (p := ⟨w.heap.size, 6, none⟩) (block_lt HG1.out)).trans (cell_row HG1.out 6)
    have y6 := (HB.out.cell (p := ⟨w.heap.size + 1, 6, none⟩) (block_lt HG2.out)).trans (cell_row HG2.out 6)
    simp at x6 y6
    by_cases hlt : i < n
    · have l1 : i < t.length := by have := H1.out.1; omega
      obtain ⟨p1, rfl, s1, q1⟩ : ∃ g, a1 = some ⟨g, 0, none⟩ ∧ g < w0.heap.size ∧ w0.cell? ⟨g, i, none⟩ = some (.int .u8 t[i]) := by
        rcases H1.out.2 with h | ⟨g, h1, h2, h3⟩
        · omega
        · exact ⟨g, h1, h2, h3 i l1⟩
      obtain ⟨p2, rfl, s2, q2⟩ : ∃ g, a2 = some ⟨g, 0, none⟩ ∧ g < w0.heap.size ∧ w0.cell? ⟨g, i, none⟩ = some (.int .u8 t[i]) := by
        rcases H2.out.2 with h | ⟨g, h1, h2, h3⟩
        · omega
        · exact ⟨g, h1, h2, h3 i l1⟩
      have z1 := (HB.out.cell (p := ⟨p1, i, none⟩) s1).trans q1
      have z2 := (HB.out.cell (p := ⟨p2, i, none⟩) s2).trans q2
      generalize t[i] = tv at z1 z2
      clear q1 q2 l1
      have i1 : (i : Int) < (n : Int) := by omega
      go_wp2_with fail
      go_quiet (fail)
      go_wp2
      have e3 : wrap64 ((i : Int) + 1) = ((i + 1 : Nat) : Int) := by have := HN.out; rw [wrap64]; omega
      have Z := hd (below_drewN HB.out nq)
      first
        | exact ⟨⟨i + 1, by omega, rfl, Z⟩, by simp [intOf]; omega⟩
        | (rw [e3]; exact ⟨⟨i + 1, by omega, rfl, Z⟩, by simp [intOf]; omega⟩)
    · have i1 : ¬ (i : Int) < (n : Int) := by omega
      go_wp2
      go_ret
      exact ⟨rfl, HGB.out.trans (HB.out.mono HGB.out.size)⟩

end Go.Proofs.YtplmhilkehkeiaaDoor
