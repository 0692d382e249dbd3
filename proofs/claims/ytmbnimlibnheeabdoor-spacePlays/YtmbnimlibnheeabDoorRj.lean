/-
  The document's space as an object; a step of the script.
-/
import Derived.Test.YtmbnimlibnheeabDoorRh
import Derived.Test.YtmbnimlibnheeabDoorRi
namespace Go.Proofs.YtmbnimlibnheeabDoor
open Go.RowKit
set_option linter.unusedVariables false

section
variable {w0 w w' : World} {K : Nat → Prop} {F : Nat → Thg} {x : Nat} {r : Rf}
theorem mr_new (h : MO w0 w K F) (i : Nat) (f : Bool) : Calls Tryd.prog 12 #[.bool f] w fun e w' => ∃ x, e = .returned (.pointer (some ⟨x, 0, none⟩)) ∧ MO w0 w' K (setO F i (refO x ⟨f, [], [], 0⟩)) ∧ Below w.heap.size w w' := by
  refine (rnew_any f w).mono ?_
  rintro e w' ⟨x, rfl, S, h1, h2, h3⟩
  exact ⟨x, rfl, h.put i (frm_ref _ _) h1 h2 h3, h3⟩
theorem mr_last (h : MO w0 w K F) (i : Nat) (hi : F i = refO x r) : Calls Tryd.prog 15 #[.pointer (some ⟨x, 0, none⟩)] w fun e w' => e = .returned (.int .i64 r.last) ∧ Below w.heap.size w w' := by
  obtain ⟨S, h1, -⟩ := h.now i
  rw [hi] at h1
  exact rlast_any x r S w h1
theorem mr_keep (h : MO w0 w K F) (i : Nat) (hi : F i = refO x r) (m : Int) (o : OpE) (hl : r.own.length ≤ 10000) : Calls Tryd.prog 26 #[.pointer (some ⟨x, 0, none⟩), .int .i64 m, o.val] w fun e w' => e = .returned (.int .i64 (rkeepE r m o)) ∧ MO w0 w' K (setO F i (refO x (rkeepS r m o))) ∧ KP K w w' := by
  obtain ⟨S, h1, h2⟩ := h.now i
  rw [hi] at h1
  refine (rkeep_any x r m o S w h1 hl).mono ?_
  rintro e w' ⟨rfl, S', h3, h4, h5⟩
  exact ⟨rfl, h2 _ w' S' (frm_ref _ _) h3 h4 h5⟩
theorem mr_drop (h : MO w0 w K F) (i : Nat) (hi : F i = refO x r) (m : Int) (hl : r.own.length ≤ 10000) : Calls Tryd.prog 27 #[.pointer (some ⟨x, 0, none⟩), .int .i64 m] w fun e w' => e = .returned (.int .i64 (rdropN r m)) ∧ MO w0 w' K (setO F i (refO x (rdropS r m))) ∧ KP K w w' := by
  obtain ⟨S, h1, h2⟩ := h.now i
  rw [hi] at h1
  refine (rdrop_any x r m S w h1 hl).mono ?_
  rintro e w' ⟨rfl, h3, h5⟩
  exact ⟨rfl, h2 _ w' S (frm_ref _ _) h3 (fun k hk => .inl hk) h5⟩
theorem mr_cross (h : MO w0 w K F) (i : Nat) (hi : F i = refO x r) (o : OpE) (hl : r.own.length ≤ 10000) (hf : r.far.length ≤ 10000) : Calls Tryd.prog 28 #[.pointer (some ⟨x, 0, none⟩), o.val] w fun e w' => e = .returned (.tuple #[(rlookO r o).val, .int .i64 (validP o)]) ∧ MO w0 w' K (setO F i (refO x (rcrossS r o))) ∧ KP K w w' := by
  obtain ⟨S, h1, h2⟩ := h.now i
  rw [hi] at h1
  refine (rcross_any x r o S w h1 hl hf).mono ?_
  rintro e w' ⟨rfl, S', h3, h4, h5⟩
  exact ⟨rfl, h2 _ w' S' (frm_ref _ _) h3 h4 h5⟩
theorem mr_look (h : MO w0 w K F) (i : Nat) (hi : F i = refO x r) (o : OpE) (hl : r.own.length ≤ 10000) (hf : r.far.length ≤ 10000) : Calls Tryd.prog 31 #[.pointer (some ⟨x, 0, none⟩), o.val] w fun e w' => e = .returned (.tuple #[(rlookO r o).val, .int .i64 (validP o)]) ∧ Below w.heap.size w w' := by
  obtain ⟨S, h1, h2⟩ := h.now i
  rw [hi] at h1
  exact rlook_any x r o S w h1 hl hf
theorem mr_queue (h : MO w0 w K F) (i : Nat) (hi : F i = refO x r) (hl : r.own.length ≤ 10000) (hf : r.far.length ≤ 10000) : Calls Tryd.prog 18 #[.pointer (some ⟨x, 0, none⟩)] w fun e w' => ∃ u, e = .returned u ∧ QL w' w.heap.size u r.queue ∧ Below w.heap.size w w' := by
  obtain ⟨S, h1, h2⟩ := h.now i
  rw [hi] at h1
  exact rqueue_any x r S w h1 hl hf
/-- A block that is made is kept. -/
theorem MO.box (h : MO w0 w K F) (o : Obj) : MO w0 (w.alloc o) (fun k => K k ∨ k = w.heap.size) F := by
  have hb : Below w.heap.size w (w.alloc o) := (Below.refl _ _).alloc (Nat.le_refl _) _
  refine h.adds hb (fun k hk => hk.imp (fun h => h) (fun h => by omega)) ?_
  rintro k (hk | rfl)
  · have := h.old k hk; simp; omega
  · simp
end

theorem cells8 {w : World} {g : Nat} {a b c d e f h i : Value} {t : TypeId} (H : w.heap[g]? = some (.cells #[a, b, c, d, e, f, h, i] t (0, 0))) :
    w.cell? ⟨g, 0, none⟩ = some a ∧ w.cell? ⟨g, 1, none⟩ = some b ∧ w.cell? ⟨g, 2, none⟩ = some c ∧ w.cell? ⟨g, 3, none⟩ = some d ∧ w.cell? ⟨g, 4, none⟩ = some e ∧ w.cell? ⟨g, 5, none⟩ = some f ∧ w.cell? ⟨g, 6, none⟩ = some h ∧ w.cell? ⟨g, 7, none⟩ = some i := by
  simp [World.cell?, H]

/-- Two spaces that say the same, after some steps. -/
structure Pr (w0 w : World) (K : Nat → Prop) (F : Nat → Thg) (i j x y : Nat) (p : Sp) (r : Rf) (n : Nat) : Prop where
  mo : MO w0 w K F
  hi : F i = spO x p
  hj : F j = refO y r
  rel : Rel p r
  own : r.own.length ≤ n
  far : r.far.length ≤ n

theorem rkeepS_len (r : Rf) (m : Int) (o : OpE) : (rkeepS r m o).own.length ≤ r.own.length + 1 ∧ (rkeepS r m o).far = r.far := by
  unfold rkeepS
  split <;> simp
theorem rcrossS_len (r : Rf) (o : OpE) : (rcrossS r o).far.length ≤ r.far.length + 1 ∧ (rcrossS r o).own = r.own := by
  unfold rcrossS
  split <;> simp

end Go.Proofs.YtmbnimlibnheeabDoor
