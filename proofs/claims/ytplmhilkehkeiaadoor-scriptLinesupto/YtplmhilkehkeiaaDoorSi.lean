/-
  The words of a line measured.
-/
import Derived.Test.YtplmhilkehkeiaaDoorSh
import Derived.Deep.RegionHeld3
import Derived.Laws.MakeOwn
namespace Go.Proofs.YtplmhilkehkeiaaDoor
open Go.RowKit
set_option linter.unusedVariables false

theorem wpList_make_k {P : Program} (w : World) {ops : Array Oper} {rest : List Oper} {o : Oper} {a : Act} {Q : Exit → Act → World → Prop}
    (hg : o.guard = none) (l c : Operand) (t : TypeId) (hop : o.op = Op.makeSlice t l c)
    (e : TypeId) (i : TypeInfo) (z : Value) (h1 : P.underlying t = some (.slice e)) (h2 : P.info? e = some i) (h3 : i.zero = some z)
    (kl kc : IntKind) (L C : Int) (n m : Nat) (hl : a.eval l = .int kl L) (hc : a.eval c = .int kc C) (hL : L = (n : Int)) (hC : C = (m : Int)) (hnm : n ≤ m) (b2 : i.bytes * m ≤ 281474976710656) (b3 : m ≤ 9223372036854775807)
    (hK : ∀ (w' : World) (cur : List Value), Hid (w'.heap[w.heap.size]? = some (.cells cur.toArray e (0, 0))) → Hid (cur = (madeCells z.cells (m * i.size)).toList) → Hid (Below w.heap.size w w') → wpList P ops Q rest (a.put o.dst (.slice (some ⟨w.heap.size, 0, none⟩) n m)) w') :
    wpList P ops Q (o :: rest) a w := by
  refine wpList_plain hg fun K hK' => ?_
  subst hL
  subst hC
  have hrun := run_make (P := P) w t e i z h1 h2 h3 kl kc n m (by omega) (by omega) (by rw [← Int.natCast_mul]; exact Int.ofNat_le.2 b2) (by omega)
  simp only [Int.toNat_natCast] at hrun
  unfold Oper.wp
  simp [execOp, hop, hl, hc, hrun, Result.andThen]
  refine hK' _ _ (hK _ _ ?_ (rfl : _ = _) ((Below.refl _ _).alloc (Nat.le_refl _) _))
  show (w.alloc _).heap[w.heap.size]? = _
  rw [heap_alloc_new]

theorem row_empty {α : Type} {f : α → List Value} {k : Nat} {w : World} {g cap : Nat} {e : TypeId} {z : Array Value} {cur : List Value} (hg : w.heap[g]? = some (.cells cur.toArray e (0, 0))) (hc : cur = (madeCells z (cap * k)).toList) (hm : cap ≤ 9223372036854775807) : RowF f k w g 0 cap e [] := by
  refine ⟨cur, hg, by simp [cl_nil], rfl, Nat.zero_le _, hm, ?_⟩
  rw [hc, Array.length_toList, size_madeCells]


def ei (x : Int) : List Value := [.int .i64 x]
theorem sz_ei : Sz ei 1 := fun x => ⟨rfl, fun v hv => by simp [ei] at hv; subst hv; rfl⟩
theorem Tryd.infoI : (Tryd.prog.info? 3).map (fun i => (i.zero, i.size, i.bytes)) = some (some (.int .i64 0), 1, 8) := by kernel_rfl
theorem cl_ei (xs : List Int) : cl ei xs = xs.map (fun x => Value.int .i64 x) := by
  induction xs with
  | nil => rfl
  | cons x r ih => rw [cl_cons, ih]; rfl
theorem made_zero (N : Nat) : (madeCells (Value.int .i64 0).cells (N * 1)).toList = List.replicate N (Value.int .i64 0) := by
  apply List.ext_getElem
  · simp [size_madeCells]
  · intro k h1 h2
    simp [madeCells, Value.cells, Nat.mod_one]
theorem row_zero {w : World} {g N : Nat} {cur : List Value} (hg : w.heap[g]? = some (.cells cur.toArray 3 (0, 0))) (hc : cur = (madeCells (Value.int .i64 0).cells (N * 1)).toList) (hN : N ≤ 100) : RowF ei 1 w g N N 3 (List.replicate N 0) := by
  rw [made_zero] at hc
  refine ⟨cur, hg, ?_, by simp, Nat.le_refl _, by omega, by rw [hc]; simp⟩
  rw [hc, cl_ei]
  simp
theorem RowF.setI {w : World} {g N cap : Nat} {xs : List Int} (h : RowF ei 1 w g N cap 3 xs) (i : Nat) (hi : i < xs.length) (y : Int) : RowF ei 1 (w.setCell ⟨g, i, none⟩ (.int .i64 y)) g N cap 3 (xs.set i y) := by
  obtain ⟨cur, hh, ht, hl, h1, h2, h3⟩ := h
  refine ⟨cur.set i (.int .i64 y), ?_, ?_, by simpa using hl, h1, h2, by simpa using h3⟩
  · rw [set_row hh i]; simp
  · rw [cl_ei] at ht ⊢
    rw [List.take_set, ht]
    simp [List.map_set]

/-- A slice of strings, in a block from base on. -/
def IsW (w : World) (base : Nat) (v : Value) (ws : List ByteArray) : Prop := ∃ g o c, v = .slice (some ⟨g, o, none⟩) ws.length c ∧ base ≤ g ∧ g < w.heap.size ∧ ws.length ≤ c ∧ c ≤ 100 ∧ ∀ i (h : i < ws.length), w.cell? ⟨g, o + i, none⟩ = some (.string ws[i])
theorem IsW.below {w w' : World} {base B : Nat} {v : Value} {ws : List ByteArray} (h : IsW w base v ws) (hb : Below B w w') (hB : w.heap.size ≤ B) : IsW w' base v ws := by
  obtain ⟨g, o, c, h1, h2, h3, h4, h5, h6⟩ := h
  exact ⟨g, o, c, h1, h2, Nat.lt_of_lt_of_le h3 hb.size, h4, h5, fun i hi => (hb.cell (p := ⟨g, o + i, none⟩) (show g < B by omega)).trans (h6 i hi)⟩

/-- The words' values, or the error. -/
def measP (fs : List Fl) (ws : List Bs) : Except Int (List Int) :=
  if ws.length ≠ fs.length then .error 154 else match valsP fs ws with
    | .error e => .error e
    | .ok vs => if rangeP fs vs then .ok vs else .error 155

theorem rest_meas (k : Int) (ws : List Bs) : restP k ws = match measP (fl k) ws with
    | .error e => { kind := k, err := e }
    | .ok vs => putsP { kind := k } (fl k) ws vs := by
  unfold restP measP
  split
  · rfl
  · cases valsP (fl k) ws with
    | error e => rfl
    | ok vs =>
      simp only
      split <;> rfl

/-- What measure answers. -/
def MR (w w' : World) (o : Except Int (List Int)) (e : Ending) : Prop := Below w.heap.size w w' ∧ match o with
  | .error x => e = .returned (.tuple #[.slice none 0 0, .int .i64 x])
  | .ok vs => ∃ g c, e = .returned (.tuple #[.slice (some ⟨g, 0, none⟩) vs.length c, .int .i64 0]) ∧ w.heap.size ≤ g ∧ RowF ei 1 w' g vs.length c 3 vs

theorem vals_step (f : Fl) (fs : List Fl) (w : Bs) (ws : List Bs) : valsP (f :: fs) (w :: ws) = match valP f.place w with
    | .error e => .error e
    | .ok v => match valsP fs ws with
      | .error e => .error e
      | .ok vs => .ok (v :: vs) := rfl

/-- The first values are told. -/
def Sofar (fs : List Fl) (ws : List Bs) (i : Nat) (vs : List Int) : Prop := vs.length = i ∧ valsP fs ws = match valsP (fs.drop i) (ws.drop i) with
    | .error e => .error e
    | .ok r => .ok (vs ++ r)
theorem Sofar.zero (fs : List Fl) (ws : List Bs) : Sofar fs ws 0 [] := ⟨rfl, by simp only [List.drop_zero, List.nil_append]; cases valsP fs ws <;> rfl⟩
theorem Sofar.bad {fs : List Fl} {ws : List Bs} {i : Nat} {vs : List Int} (h : Sofar fs ws i vs) (h1 : i < fs.length) (h2 : i < ws.length) {e : Int} (he : valP fs[i].place ws[i] = .error e) : valsP fs ws = .error e := by
  rw [h.2, List.drop_eq_getElem_cons h1, List.drop_eq_getElem_cons h2, vals_step, he]
theorem Sofar.good {fs : List Fl} {ws : List Bs} {i : Nat} {vs : List Int} (h : Sofar fs ws i vs) (h1 : i < fs.length) (h2 : i < ws.length) {v : Int} (he : valP fs[i].place ws[i] = .ok v) : Sofar fs ws (i + 1) (vs ++ [v]) := by
  refine ⟨by simp [h.1], ?_⟩
  rw [h.2, List.drop_eq_getElem_cons h1, List.drop_eq_getElem_cons h2, vals_step, he]
  simp only
  cases valsP (fs.drop (i + 1)) (ws.drop (i + 1)) <;> simp
theorem Sofar.all {fs : List Fl} {ws : List Bs} {vs : List Int} (h : Sofar fs ws fs.length vs) : valsP fs ws = .ok vs := by
  rw [h.2, List.drop_eq_nil_of_le (Nat.le_refl _), valsP]
  · simp
  · intro f fs w ws h; cases h

end Go.Proofs.YtplmhilkehkeiaaDoor
