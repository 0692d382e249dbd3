/-
  gone: what stands while a sequence is gone through.
-/
import Derived.Test.YtpjnhjijipcjkaaQe
namespace Go.Proofs.Ytpjnhjijipcjkaa
open Go.RowKit
set_option linter.unusedVariables false

/-- The kept blocks, and the six that gone lays. -/
def K6 (K : Nat → Prop) (b : Nat) : Nat → Prop := fun k => K k ∨ (b ≤ k ∧ k < b + 6)
theorem Fr.putObj (w : World) (l : Nat) (o : Obj) : Fr (fun k => k = l) w (w.putObj l o) := ⟨rfl, rfl, rfl, by simp, fun k _ hn => World.putObj_heap_other hn⟩

structure GS (G : Thg) (w0 w : World) (K : Nat → Prop) (x a b r q bx : Nat) (k s nn v : Int) (ia : Option Addr) (il ic : Nat) (A A' B : Rb) (m n : Nat) (W : World) : Prop where
  mo : MO w0 W (K6 K w.heap.size) (FP G x a b r q A B A' B m)
  hm : m ≤ 44
  c3 : W.heap[w.heap.size]? = some (.cells #[pt x] 61 (0, 0))
  c4 : W.heap[w.heap.size + 1]? = some (.cells #[.int .i64 k, .int .i64 s, .int .i64 nn, .int .i64 v, .slice ia il ic] 56 (0, 0))
  c6 : ∃ bo, W.heap[w.heap.size + 2]? = some (.cells #[.bool bo] 4 (0, 0))
  c7 : W.heap[w.heap.size + 3]? = some (.cells #[.int .i64 (n : Nat)] 3 (0, 0))
  cb : W.heap[bx]? = some (.cells #[pt a] 28 (0, 0))
  kp : KP K w W
  hbx : K bx
  lt : ∀ k, K k → k < w.heap.size
  w0w : w0.heap.size ≤ w.heap.size

section
variable {G : Thg} {w0 w W W' : World} {K : Nat → Prop} {x a b r q bx : Nat} {k s nn v : Int} {ia : Option Addr} {il ic : Nat} {A A' B A2 A2' B2 : Rb} {m m2 n : Nat}
theorem GS.step (h : GS G w0 w K x a b r q bx k s nn v ia il ic A A' B m n W) (mo : MO w0 W' (K6 K w.heap.size) (FP G x a b r q A2 B2 A2' B2 m2)) (hm : m2 ≤ 44) (hk : KP (K6 K w.heap.size) W W') : GS G w0 w K x a b r q bx k s nn v ia il ic A2 A2' B2 m2 n W' := by
  refine ⟨mo, hm, (hk _ (.inr (by omega))).trans h.c3, (hk _ (.inr (by omega))).trans h.c4, ?_, (hk _ (.inr (by omega))).trans h.c7, (hk _ (.inl h.hbx)).trans h.cb, fun k hK => (hk k (.inl hK)).trans (h.kp k hK), h.hbx, h.lt, h.w0w⟩
  obtain ⟨bo, hb⟩ := h.c6
  exact ⟨bo, (hk _ (.inr (by omega))).trans hb⟩
theorem GS.below (h : GS G w0 w K x a b r q bx k s nn v ia il ic A A' B m n W) (hb : Below W.heap.size W W') : GS G w0 w K x a b r q bx k s nn v ia il ic A A' B m n W' := h.step (h.mo.below hb) h.hm (h.mo.kp hb)
theorem GS.write (h : GS G w0 w K x a b r q bx k s nn v ia il ic A A' B m n W) {j : Nat} (hF : Fr (fun k => k = w.heap.size + j) W W') (hj : j < 6) : MO w0 W' (K6 K w.heap.size) (FP G x a b r q A B A' B m) := h.mo.write hF (fun k e => ⟨.inr (by omega), by have := h.w0w; omega⟩)
theorem GS.putObj (h : GS G w0 w K x a b r q bx k s nn v ia il ic A A' B m n W) (o : Obj) : GS G w0 w K x a b r q bx k s nn v ia il ic A A' B m n (W.putObj (w.heap.size + 5) o) := by
  have hb := h.lt bx h.hbx
  refine ⟨h.write (Fr.putObj W _ o) (by omega), h.hm, (World.putObj_heap_other (by omega)).trans h.c3, (World.putObj_heap_other (by omega)).trans h.c4, ?_, (World.putObj_heap_other (by omega)).trans h.c7, (World.putObj_heap_other (by omega)).trans h.cb, fun k hK => (World.putObj_heap_other (by have := h.lt k hK; omega)).trans (h.kp k hK), h.hbx, h.lt, h.w0w⟩
  obtain ⟨bo, hb⟩ := h.c6
  exact ⟨bo, (World.putObj_heap_other (by omega)).trans hb⟩
theorem GS.set7 (h : GS G w0 w K x a b r q bx k s nn v ia il ic A A' B m n W) (n' : Nat) : GS G w0 w K x a b r q bx k s nn v ia il ic A A' B m n' (W.setCell ⟨w.heap.size + 3, 0, none⟩ (.int .i64 (n' : Nat))) := by
  have hb := h.lt bx h.hbx
  have hF : Fr (fun k => k = w.heap.size + 3) W (W.setCell ⟨w.heap.size + 3, 0, none⟩ (.int .i64 (n' : Nat))) := Fr.setCell W _ _ rfl
  refine ⟨h.write hF (by omega), h.hm, hF.keeps h.c3 (by omega), hF.keeps h.c4 (by omega), ?_, ?_, hF.keeps h.cb (by omega), fun k hK => ?_, h.hbx, h.lt, h.w0w⟩
  · obtain ⟨bo, hb⟩ := h.c6
    exact ⟨bo, hF.keeps hb (by omega)⟩
  · have := set_row h.c7 0 (.int .i64 (n' : Nat))
    simpa using this
  · have hl := h.lt k hK
    have h1 := h.mo.old k (.inl hK)
    exact (hF.block k h1 (by omega)).trans (h.kp k hK)
theorem GS.set6 (h : GS G w0 w K x a b r q bx k s nn v ia il ic A A' B m n W) (bo : Bool) : GS G w0 w K x a b r q bx k s nn v ia il ic A A' B m n (W.setCell ⟨w.heap.size + 2, 0, none⟩ (.bool bo)) ∧ (W.setCell ⟨w.heap.size + 2, 0, none⟩ (.bool bo)).heap[w.heap.size + 2]? = some (.cells #[.bool bo] 4 (0, 0)) := by
  have hb := h.lt bx h.hbx
  have hF : Fr (fun k => k = w.heap.size + 2) W (W.setCell ⟨w.heap.size + 2, 0, none⟩ (.bool bo)) := Fr.setCell W _ _ rfl
  obtain ⟨b0, hb0⟩ := h.c6
  have e6 : (W.setCell ⟨w.heap.size + 2, 0, none⟩ (.bool bo)).heap[w.heap.size + 2]? = some (.cells #[.bool bo] 4 (0, 0)) := by
    have := set_row hb0 0 (.bool bo)
    simpa using this
  refine ⟨⟨h.write hF (by omega), h.hm, hF.keeps h.c3 (by omega), hF.keeps h.c4 (by omega), ⟨bo, e6⟩, hF.keeps h.c7 (by omega), hF.keeps h.cb (by omega), fun k hK => ?_, h.hbx, h.lt, h.w0w⟩, e6⟩
  have hl := h.lt k hK
  have h1 := h.mo.old k (.inl hK)
  exact (hF.block k h1 (by omega)).trans (h.kp k hK)
theorem LB.kp {l D : Nat} {lr : Loop} (h : LB l D lr W) (hk : KP (K6 K w.heap.size) W W') (hD : D = w.heap.size + 4) (hl : l = w.heap.size + 5) : LB l D lr W' := ⟨(hk l (.inr (by omega))).trans h.1, (hk D (.inr (by omega))).trans h.2⟩
theorem LB.fr {l D j : Nat} {lr : Loop} (h : LB l D lr W) (hF : Fr (fun k => k = w.heap.size + j) W W') (hj : j < 4) (hD : D = w.heap.size + 4) (hl : l = w.heap.size + 5) : LB l D lr W' := ⟨(hF.block l (block_lt h.1) (by omega)).trans h.1, (hF.block D (block_lt h.2) (by omega)).trans h.2⟩
theorem GS.ok (h : GS G w0 w K x a b r q bx k s nn v ia il ic A A' B m n W) : A.ib.ok := by
  obtain ⟨S, h1, -⟩ := h.mo.now 0
  obtain ⟨bb, hK, -⟩ := h1
  exact hK.ok
theorem GS.cum (h : GS G w0 w K x a b r q bx k s nn v ia il ic A A' B m n W) : W.cell? ⟨a, 1, none⟩ = some (.int .i64 (A.c : Nat)) := by
  obtain ⟨S, h1, -⟩ := h.mo.now 0
  obtain ⟨bb, hK, -⟩ := h1
  rw [cell_row hK.box]
  rfl
end

/-- How many rounds may still come. -/
def mea (il n c : Nat) : Nat := (il - n) * 4097 + (4096 - c)
theorem mea_step {il n c c' : Nat} (hn : n < il) (hc : c' ≤ 4096) : mea il (n + 1) c' < mea il n c := by
  unfold mea
  have : il - n = (il - (n + 1)) + 1 := by omega
  rw [this, Nat.add_mul]
  omega
theorem mea_last {il n c : Nat} (hn : ¬ n < il) (hc : c + 1 ≤ 4096) : mea il (n + 1) (c + 1) < mea il n c := by
  unfold mea
  have h1 : il - n = 0 := by omega
  have h2 : il - (n + 1) = 0 := by omega
  rw [h1, h2]
  omega
theorem atK_int {L : List (Nat × Int)} {k : Nat} (h : hasK (iH L) k = true) : ∃ z, atK (iH L) k iz = .int .i64 z := by
  unfold hasK at h
  rw [List.any_eq_true] at h
  obtain ⟨q, h1, h2⟩ := h
  unfold atK
  cases hf : (iH L).find? (fun q => q.1 == k) with
  | none =>
    have := List.find?_eq_none.1 hf q h1
    exact absurd h2 this
  | some p =>
    have := List.mem_of_find?_eq_some hf
    obtain ⟨r, -, rfl⟩ := List.mem_map.1 this
    exact ⟨r.2, rfl⟩

section
variable (G : Thg) (w0 w : World) (K : Nat → Prop) (x a b r q bx : Nat) (k s nn v : Int) (ia : Option Addr) (il ic : Nat)
/-- Ahead of a round: at most j rounds may come. -/
def Gk (j : Nat) (W : World) : Prop := ∃ A B m n, GS G w0 w K x a b r q bx k s nn v ia il ic A A B m n W ∧ j = mea il n A.c ∧ n + j ≤ il * 4097 + 4096
def Gi (W : World) : Prop := ∃ j, Gk G w0 w K x a b r q bx k s nn v ia il ic j W
/-- At the end of the sequence. -/
def Ge (W : World) : Prop := ∃ A B m n, GS G w0 w K x a b r q bx k s nn v ia il ic A A B m n W ∧ A.ib.hd = false
/-- Where a thing is handed out. -/
def Gy (t : Int × Int × Nat) (W : World) : Prop := ∃ A B m n, GS G w0 w K x a b r q bx k s nn v ia il ic (rpopS A) A B m n W ∧ A.ib.hd = true ∧ t.1 = ((A.c + 1 : Nat) : Int) ∧ atK A.ib.H (A.c + 1) iz = .int .i64 t.2.1 ∧ A.c + 1 ≤ 4096 ∧ t.2.2 = mea il n A.c ∧ n + t.2.2 ≤ il * 4097 + 4096
/-- Behind a round. -/
def Gr (t : Int × Int × Nat) (W : World) : Prop := ∃ j, j < t.2.2 ∧ Gk G w0 w K x a b r q bx k s nn v ia il ic j W
/-- Where it is stopped. -/
def Gx (c : Code) (W : World) : Prop := c = .ret ∧ (∃ A B m n, GS G w0 w K x a b r q bx k s nn v ia il ic A A B m n W) ∧ W.heap[w.heap.size + 2]? = some (.cells #[.bool true] 4 (0, 0))
def encN (t : Int × Int × Nat) : Array Value := #[.int .i64 t.1, .int .i64 t.2.1]
end

end Go.Proofs.Ytpjnhjijipcjkaa
