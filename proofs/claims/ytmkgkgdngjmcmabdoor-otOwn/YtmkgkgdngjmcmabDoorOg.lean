/-
  OtOwn: two lines copied, a spare operation behind each.
-/
import Derived.Test.YtmkgkgdngjmcmabDoorOf
namespace Go.Proofs.YtmkgkgdngjmcmabDoor
open Go.RowKit Go.Lib
set_option linter.unusedVariables false

abbrev spare : OpE := ⟨1, 9, 115, 9, 9⟩
/-- A block with the spare operation. -/
def AtS (w : World) (q : Nat) : Prop := w.heap[q]? = some (.cells #[.int .i64 1, .int .i64 9, .int .u8 115, .int .i64 9, .int .i64 9] 23 (0, 0))

theorem AtS.lt {w : World} {q : Nat} (h : AtS w q) : q < w.heap.size := block_lt h
theorem AtS.al {w : World} {q : Nat} (h : AtS w q) (o : Obj) : AtS (w.alloc o) q := (heap_alloc_old w o (block_lt h)).trans h
theorem AtS.new (w : World) : AtS (w.alloc (.cells #[.int .i64 1, .int .i64 9, .int .u8 115, .int .i64 9, .int .i64 9] 23)) w.heap.size := heap_alloc_new w _
theorem AtS.new2 (w : World) (o : Obj) : AtS ((w.alloc o).alloc (.cells #[.int .i64 1, .int .i64 9, .int .u8 115, .int .i64 9, .int .i64 9] 23)) (w.heap.size + 1) := by
  have := heap_alloc_new (w.alloc o) (.cells #[.int .i64 1, .int .i64 9, .int .u8 115, .int .i64 9, .int .i64 9] 23)
  rw [World.size_alloc] at this
  exact this

theorem RowO.al {w : World} {g n c : Nat} {xs : List OpE} (h : RowO w g n c xs) (o : Obj) : RowO (w.alloc o) g n c xs := h.fr (S := fun _ => False) (Fr.alloc _ w o) (fun h => h)
theorem below_al {w0 V : World} (h : Below w0.heap.size w0 V) (o : Obj) : Below w0.heap.size w0 (V.alloc o) := h.alloc h.size o

structure Cp (w0 V u : World) (g n c : Nat) (xs : List OpE) : Prop where
  row : RowO u g n c xs
  low : V.heap.size ≤ g
  bel : Below V.heap.size V u
  b0 : Below w0.heap.size w0 u
  low0 : w0.heap.size ≤ g

theorem Cp.at {w0 V u : World} {g n c : Nat} {xs : List OpE} (h : Cp w0 V u g n c xs) {q : Nat} (hq : AtS V q) : AtS u q ∧ q < g :=
  ⟨(h.bel.block _ hq.lt).trans hq, Nat.lt_of_lt_of_le hq.lt h.low⟩

structure Ap (w0 V w' : World) (g g' n c : Nat) (xs : List OpE) : Prop where
  row : RowO w' g' n c xs
  mv : g' = g ∨ V.heap.size ≤ g'
  fr : Fr (· = g) V w'
  b0 : Below w0.heap.size w0 w'

theorem Ap.at {w0 V w' : World} {g g' n c : Nat} {xs : List OpE} (h : Ap w0 V w' g g' n c xs) {q : Nat} (hq : AtS V q) (hne : q ≠ g) : AtS w' q := h.fr.keeps hq hne

theorem copy_cp (a : Option Addr) (n c : Nat) (xs : List OpE) (w0 : World) (hE : IsO w0 a n c xs) (hn : n ≤ 4096) : ∀ V, Below w0.heap.size w0 V →
    Calls Tryd.prog 8 #[.slice a n c] V fun x u => ∃ ga ca, x = .returned (.slice (some ⟨ga, 0, none⟩) n ca) ∧ Hid (Cp w0 V u ga n ca xs) := by
  intro V hV
  refine (lcopied_any a n c xs V (hE.below hV) (by omega)).mono ?_
  rintro x u ⟨v, rfl, ⟨g, cg, hg, rfl, hR⟩, b⟩
  rw [hE.1] at hR ⊢
  exact ⟨g, cg, rfl, hR, hg, b, hV.trans (b.mono hV.size), Nat.le_trans hV.size hg⟩

theorem step_append_q {ops : Array Oper} {o : Oper} {a : Act} {w : World} {K : Act → World → Prop} {Q : Exit → Act → World → Prop} {E : Prop}
    (hg : o.guard = none) (d x : Operand) (hop : o.op = Op.call { callee := Callee.builtin Builtin.append, args := #[d, x], argTypes := #[24, 24] })
    {g n cap q : Nat} (hd' : a.eval d = .slice (some ⟨g, 0, none⟩) n cap) (hx : a.eval x = .slice (some ⟨q, 0, none⟩) 1 1) {w0 : World} {xs : List OpE} (hR : RowO w g n cap xs) (hq : AtS w q) (h0 : Below w0.heap.size w0 w) (hl : w0.heap.size ≤ g) (hs : n + 1 ≤ 4194304)
    (hK : ∀ g' cg w', Hid (Ap w0 w w' g g' (n + 1) cg (xs ++ [spare])) → K (a.put o.dst (.slice (some ⟨g', 0, none⟩) (n + 1) cg)) w') :
    if Region.wanted o (yielded ops a.tmps) = true then Oper.wp Tryd.prog o a w K Q else E := by
  obtain ⟨g', cg, w', k1, k2, k3, k4⟩ := app_at w g n cap xs [spare] hR ⟨q, 0, none⟩ 1 1 rfl (fun j u hj => by
    rw [add_lit, Nat.zero_add, cell_row hq]
    rw [cO_one] at hj
    simpa [opc] using hj) hs
  exact step_append_k hg d x 24 24 hop _ _ hd' hx (k1 _) (hK g' cg w' ⟨k2, k3, k4, h0.trans (k4.below h0.size (fun k hk => by omega))⟩)

theorem fin4 {w0 V1 u1 V4 w4 V6 u6 V9 w9 : World} {ga ca g1 c1 gb cb g2 c2 n m : Nat} {A B A' B' : List OpE} (h1 : Cp w0 V1 u1 ga n ca A) (h4 : Ap w0 V4 w4 ga g1 (n + 1) c1 A') (h6 : Cp w0 V6 u6 gb m cb B) (h9 : Ap w0 V9 w9 gb g2 (m + 1) c2 B')
    (h14 : Below u1.heap.size u1 V4) (h46 : Below w4.heap.size w4 V6) (h69 : Below u6.heap.size u6 V9) : RowsO w0.heap.size w9 [(g2, m + 1, c2, B'), (g1, n + 1, c1, A')] ∧ Below w0.heap.size w0 w9 := by
  have s4 : w0.heap.size ≤ g1 := by have := h1.low0; have := h1.b0.size; have := h14.size; rcases h4.mv with h | h <;> omega
  have r4 : RowsO w0.heap.size w4 [(g1, n + 1, c1, A')] := ⟨fun e he => by obtain rfl := List.mem_singleton.mp he; exact h4.row, fun e he => by obtain rfl := List.mem_singleton.mp he; exact s4, by simp⟩
  have r6 := (r4.below h46).new h6.bel (Nat.le_trans h4.b0.size h46.size) h6.row h6.low
  have r9 := r6.below h69
  exact ⟨RowsO.fill (l1 := []) r9 h9.fr (Nat.le_trans h6.b0.size h69.size) h9.row h9.mv, h9.b0⟩

end Go.Proofs.YtmkgkgdngjmcmabDoor
