/-
  Texts put together: Ua Ax Ma.
-/
import Derived.Test.YtilidolbplglcaaGreatDoorRows
import Derived.WalkKit
import Derived.WalkSpells
import Derived.WalkLawsBesides
import Derived.Laws.CopyOwn
import Derived.Laws.MakeOwn
import Derived.Laws.AppendOwn
import Derived.Deep.DeepAppendWide
import Derived.Deep.QuietTactic
import Derived.BigQuiet
/-! Ua -/
namespace Go.Proofs.YtilidolbplglcaaGreatDoor
open Go.RowKit
set_option linter.unusedVariables false

theorem hd {p : Prop} (h : p) : Hid p := h

structure OpE where
  kind : Int
  pos : Int
  ch : Int
  cl : Int
  sq : Int

def OpE.val (o : OpE) : Value := .agg #[.int .i64 o.kind, .int .i64 o.pos, .int .u8 o.ch, .int .i64 o.cl, .int .i64 o.sq]

/-- a xs it is behind b. -/
def shiftP (a b : OpE) (f : Bool) : OpE :=
  if ¬ ((a.kind = 1 ∨ a.kind = 2) ∧ (b.kind = 1 ∨ b.kind = 2)) then a
  else if a.kind = 2 ∧ b.kind = 2 ∧ a.pos = b.pos then ⟨0, 0, 0, a.cl, a.sq⟩
  else if b.pos < a.pos ∨ (b.pos = a.pos ∧ b.kind = 1 ∧ (a.kind = 2 ∨ f = false)) then ⟨a.kind, wrap64 (if b.kind = 1 then a.pos + 1 else a.pos - 1), a.ch, a.cl, a.sq⟩
  else a

def throughP : OpE → List OpE → Bool → OpE × List OpE
  | op, [], _ => (op, [])
  | op, x :: l, f => ((throughP (shiftP op x (!f)) l f).1, shiftP x op f :: (throughP (shiftP op x (!f)) l f).2)

def weaveP : List OpE → List OpE → List OpE × List OpE
  | xs, [] => (xs, [])
  | xs, b :: bs => ((weaveP (throughP b xs true).2 bs).1, (throughP b xs true).1 :: (weaveP (throughP b xs true).2 bs).2)

theorem throughP_len (l : List OpE) : ∀ (op : OpE) (f : Bool), (throughP op l f).2.length = l.length := by
  induction l with
  | nil => intro op f; rfl
  | cons x l ih => intro op f; simp [throughP, ih]

theorem weaveP_len (bs : List OpE) : ∀ xs, (weaveP xs bs).1.length = xs.length ∧ (weaveP xs bs).2.length = bs.length := by
  induction bs with
  | nil => intro xs; exact ⟨rfl, rfl⟩
  | cons b bs ih =>
    intro xs
    have := ih (throughP b xs true).2
    simp only [weaveP, List.length_cons]
    rw [this.1, this.2, throughP_len]
    exact ⟨rfl, rfl⟩

/-- The other way about: the first of xs through all of bs. -/
theorem weaveP_cons (bs : List OpE) : ∀ a xs, weaveP (a :: xs) bs = ((throughP a bs false).1 :: (weaveP xs (throughP a bs false).2).1, (weaveP xs (throughP a bs false).2).2) := by
  induction bs with
  | nil => intro a xs; simp [weaveP, throughP]
  | cons b bs ih =>
    intro a xs
    simp only [weaveP, throughP, Bool.not_true, Bool.not_false]
    rw [ih]

theorem weaveP_nil (bs : List OpE) : weaveP [] bs = ([], bs) := by
  induction bs with
  | nil => rfl
  | cons b bs ih => simp only [weaveP, throughP, ih]

theorem throughP_app (l : List OpE) : ∀ (op : OpE) (m : List OpE) (f : Bool), throughP op (l ++ m) f = ((throughP (throughP op l f).1 m f).1, (throughP op l f).2 ++ (throughP (throughP op l f).1 m f).2) := by
  induction l with
  | nil => intro op m f; rfl
  | cons x l ih => intro op m f; simp only [List.cons_append, throughP, ih]

theorem weaveP_app (b1 : List OpE) : ∀ (xs b2 : List OpE), weaveP xs (b1 ++ b2) = ((weaveP (weaveP xs b1).1 b2).1, (weaveP xs b1).2 ++ (weaveP (weaveP xs b1).1 b2).2) := by
  induction b1 with
  | nil => intro xs b2; rfl
  | cons b bs ih => intro xs b2; simp only [List.cons_append, weaveP, ih]

theorem weaveP_app2 (a1 : List OpE) : ∀ (a2 bs : List OpE), weaveP (a1 ++ a2) bs = ((weaveP a1 bs).1 ++ (weaveP a2 (weaveP a1 bs).2).1, (weaveP a2 (weaveP a1 bs).2).2) := by
  induction a1 with
  | nil => intro a2 bs; simp [weaveP_nil]
  | cons a xs ih =>
    intro a2 bs
    simp only [List.cons_append, weaveP_cons, ih]

/-- A piece of a list taken, and one more. -/
theorem throughP_snoc (l : List OpE) (op x : OpE) (f : Bool) : throughP op (l ++ [x]) f = (shiftP (throughP op l f).1 x (!f), (throughP op l f).2 ++ [shiftP x (throughP op l f).1 f]) := by
  rw [throughP_app]
  rfl

theorem weaveP_snoc (bs : List OpE) (xs : List OpE) (b : OpE) : weaveP xs (bs ++ [b]) = ((throughP b (weaveP xs bs).1 true).2, (weaveP xs bs).2 ++ [(throughP b (weaveP xs bs).1 true).1]) := by
  rw [weaveP_app]
  rfl

theorem weaveP_snoc2 (xs : List OpE) (bs : List OpE) (a : OpE) : weaveP (xs ++ [a]) bs = ((weaveP xs bs).1 ++ [(throughP a (weaveP xs bs).2 false).1], (throughP a (weaveP xs bs).2 false).2) := by
  rw [weaveP_app2, weaveP_cons, weaveP_nil]

/-- Characters stay bytes. -/
def OkOp (o : OpE) : Prop := 0 ≤ o.ch ∧ o.ch ≤ 255

theorem shiftP_ok {a b : OpE} {f : Bool} (h : OkOp a) : OkOp (shiftP a b f) := by
  unfold shiftP
  repeat' split
  · exact h
  · exact ⟨Int.le_refl _, by simp⟩
  all_goals exact h

end Go.Proofs.YtilidolbplglcaaGreatDoor

/-! Ax -/
namespace Go.Proofs.YtilidolbplglcaaGreatDoor
open Go.RowKit

theorem add_lit (b off j : Nat) : (⟨b, off, none⟩ : Addr).add j = ⟨b, off + j, none⟩ := by
  by_cases h0 : j = 0
  · subst h0; simp [Addr.add]
  · simp [Addr.add, h0]

end Go.Proofs.YtilidolbplglcaaGreatDoor

/-! Ma -/
namespace Go.Proofs.YtilidolbplglcaaGreatDoor
open Go.RowKit Go.Lib
set_option linter.unusedVariables false

/-- Every block that was there is as it was, but for the blocks of S. -/
structure Fr (S : Nat → Prop) (w w' : World) : Prop where
  os : w'.os = w.os
  tape : w'.tape = w.tape
  output : w'.output = w.output
  size : w.heap.size ≤ w'.heap.size
  block : ∀ k, k < w.heap.size → ¬ S k → w'.heap[k]? = w.heap[k]?

theorem Fr.refl (S : Nat → Prop) (w : World) : Fr S w w := ⟨rfl, rfl, rfl, Nat.le_refl _, fun _ _ _ => rfl⟩
theorem Fr.trans {S : Nat → Prop} {a b c : World} (h : Fr S a b) (k : Fr S b c) : Fr S a c :=
  ⟨k.os.trans h.os, k.tape.trans h.tape, k.output.trans h.output, Nat.le_trans h.size k.size, fun i hi hr => (k.block i (Nat.lt_of_lt_of_le hi h.size) hr).trans (h.block i hi hr)⟩
theorem Fr.next {S S' : Nat → Prop} {a b c : World} (h : Fr S a b) (k : Fr S' b c) (hS : ∀ i, i < a.heap.size → S' i → S i) : Fr S a c :=
  ⟨k.os.trans h.os, k.tape.trans h.tape, k.output.trans h.output, Nat.le_trans h.size k.size, fun i hi hr => (k.block i (Nat.lt_of_lt_of_le hi h.size) (fun hs => hr (hS i hi hs))).trans (h.block i hi hr)⟩
theorem Fr.mono {S S' : Nat → Prop} {w w' : World} (h : Fr S w w') (hS : ∀ k, k < w.heap.size → S k → S' k) : Fr S' w w' :=
  ⟨h.os, h.tape, h.output, h.size, fun k hk hn => h.block k hk (fun hs => hn (hS k hk hs))⟩
theorem Fr.of_below {S : Nat → Prop} {w w' : World} (h : Below w.heap.size w w') : Fr S w w' := ⟨h.os, h.tape, h.output, h.size, fun k hk _ => h.block k hk⟩
theorem Fr.below {S : Nat → Prop} {B : Nat} {w w' : World} (h : Fr S w w') (hB : B ≤ w.heap.size) (hS : ∀ k, S k → B ≤ k) : Below B w w' :=
  ⟨h.os, h.tape, h.output, h.size, fun k hk => h.block k (by omega) (fun hs => by have := hS k hs; omega)⟩
theorem Fr.drewN (S : Nat → Prop) (w : World) (m : Nat) : Fr S w (w.drewN m) := ⟨rfl, rfl, rfl, Nat.le_refl _, fun _ _ _ => rfl⟩
theorem Fr.drew (S : Nat → Prop) (w : World) : Fr S w w.drew := ⟨rfl, rfl, rfl, Nat.le_refl _, fun _ _ _ => rfl⟩
theorem Fr.setCell {S : Nat → Prop} (w : World) (p : Addr) (u : Value) (hp : S p.block) : Fr S w (w.setCell p u) :=
  ⟨rfl, rfl, rfl, by simp, fun k _ hk => Below.heap_setCell w p u k (fun h => hk (h ▸ hp))⟩
theorem Fr.setRow {S : Nat → Prop} (w : World) (g : Nat) (cs : Array Value) (hp : S g) : Fr S w (w.setRow g cs) :=
  ⟨rfl, rfl, rfl, by simp, fun k _ hk => setRow_other w g k cs (fun h => hk (h ▸ hp))⟩
theorem Fr.alloc (S : Nat → Prop) (w : World) (o : Obj) : Fr S w (w.alloc o) := Fr.of_below ((Below.refl _ _).alloc (Nat.le_refl _) o)
theorem Fr.cell {S : Nat → Prop} {w w' : World} (h : Fr S w w') {p : Addr} (hp : p.block < w.heap.size) (hr : ¬ S p.block) : w'.cell? p = w.cell? p := World.cell?_of_block (w := w) (h.block p.block hp hr)

theorem block_lt {w : World} {r : Nat} {o : Obj} (h : w.heap[r]? = some o) : r < w.heap.size := by
  by_cases hg : r < w.heap.size
  · exact hg
  · rw [Array.getElem?_eq_none (by omega)] at h
    simp at h
theorem Fr.keeps {S : Nat → Prop} {w w' : World} (h : Fr S w w') {r : Nat} {o : Obj} (hr : w.heap[r]? = some o) (hS : ¬ S r) : w'.heap[r]? = some o := (h.block r (block_lt hr) hS).trans hr

theorem cell_row {w : World} {r : Nat} {cur : Array Value} {t : TypeId} (h : w.heap[r]? = some (.cells cur t (0, 0))) (i : Nat) : w.cell? ⟨r, i, none⟩ = cur[i]? := by
  simp [World.cell?, h]
theorem frozen_row {w : World} {r : Nat} {cur : Array Value} {t : TypeId} (h : w.heap[r]? = some (.cells cur t (0, 0))) (i : Nat) : w.frozen? ⟨r, i, none⟩ = false := by
  simp [World.frozen?, h]
theorem set_row {w : World} {r : Nat} {cur : Array Value} {t : TypeId} (h : w.heap[r]? = some (.cells cur t (0, 0))) (i : Nat) (u : Value) : (w.setCell ⟨r, i, none⟩ u).heap[r]? = some (.cells (cur.setIfInBounds i u) t (0, 0)) :=
  heap_setCell_same w r i cur t u h
theorem splice_take {α : Type} (L : List α) (off k : Nat) (cs : List α) (h : k ≤ off) (hL : off ≤ L.length) : (splice L off cs).take k = L.take k := by
  unfold splice
  rw [List.take_append_of_le_length (by rw [List.length_take]; omega), List.take_take, Nat.min_eq_left h]
theorem splice_drop {α : Type} (L : List α) (off : Nat) (cs : List α) (hL : off ≤ L.length) : (splice L off cs).drop off = cs ++ L.drop (off + cs.length) := by
  unfold splice
  have : (L.take off).length = off := by rw [List.length_take]; omega
  have e := List.drop_left (l₁ := L.take off) (l₂ := cs ++ L.drop (off + cs.length))
  rw [this] at e
  exact e

theorem splice_take_end {α : Type} (L : List α) (off : Nat) (cs : List α) (hL : off ≤ L.length) : (splice L off cs).take (off + cs.length) = L.take off ++ cs := by
  unfold splice
  have h : (L.take off ++ cs).length = off + cs.length := by simp; omega
  rw [← List.append_assoc, ← h, List.take_left]

section
variable {P : Program}

/-- copy, of elements of any number of cells, into a block that is known whole. -/
theorem run_copy_k (w : World) (dT sT ty elem : TypeId) (size g o dLen dCap : Nat) (a : Addr) (sLen sCap n : Nat) (cur : List Value) (t : TypeId) (cs : List Value)
    (hu : P.underlying dT = some (.slice elem)) (hs : (P.info? elem).map (·.size) = some size)
    (hg : w.heap[g]? = some (.cells cur.toArray t (0, 0))) (hn : n = Nat.min sLen dLen) (hcl : cs.length = n * size)
    (hsrc : ∀ j v, cs[j]? = some v → w.cell? (a.add j) = some v) (hfit : o + cs.length ≤ cur.length) (h1 : ∀ v ∈ cs, v.oneCell' = true) :
    (Builtin.copy_ #[dT, sT] ty #[.slice (some ⟨g, o, none⟩) dLen dCap, .slice (some a) sLen sCap]).run P w = .ok (goInt n) (w.setRow g (splice cur o cs).toArray) := by
  have hl := run_loadCells_list (P := P) w a cs hsrc
  rw [hcl] at hl
  have hst := run_storeCells_at P g o t cs 0 cur.toArray w hg (by simpa using hfit) h1
  cases hq : P.info? elem with
  | none => simp [hq] at hs
  | some i =>
    have hi : i.size = size := by simpa [hq] using hs
    simp [Builtin.copy_, run_underlying hu, Builtin.lenOf, Builtin.firstCells, sizeOf, typeInfo, hq, hi, ← hn, hl, hst, splice]

theorem wpList_copy_k (w : World) {ops : Array Oper} {rest : List Oper} {o : Oper} {a : Act} {Q : Exit → Act → World → Prop} (hgd : o.guard = none) (d s : Operand) (t t' : TypeId)
    (ho : o.op = .call { callee := .builtin .copy, args := #[d, s], argTypes := #[t, t'] }) (v u : Value) (hd' : a.eval d = v) (hs : a.eval s = u) {v' : Value} {w' : World}
    (hr : (Builtin.copy_ #[t, t'] o.type #[v, u]).run P w = .ok v' w') (h : wpList P ops Q rest (a.put o.dst v') w') : wpList P ops Q (o :: rest) a w := by
  refine wpList_plain hgd fun K hK => ?_
  unfold Oper.wp
  simp [execOp, ho, resolve, invoke, builtin, hd', hs, hr, Result.andThen]
  exact hK _ _ h

theorem step_copy_k {ops : Array Oper} {o : Oper} {a : Act} {w : World} {K : Act → World → Prop} {Q : Exit → Act → World → Prop} {E : Prop}
    (hg : o.guard = none) (d x : Operand) (dT sT : TypeId) (hop : o.op = Op.call { callee := Callee.builtin Builtin.copy, args := #[d, x], argTypes := #[dT, sT] })
    (v u : Value) (hd' : a.eval d = v) (hx : a.eval x = u) {v' : Value} {w' : World} (hr : (Builtin.copy_ #[dT, sT] o.type #[v, u]).run P w = .ok v' w') (hK : K (a.put o.dst v') w') :
    if Region.wanted o (yielded ops a.tmps) = true then Oper.wp P o a w K Q else E := by
  have hw : Region.wanted o (yielded ops a.tmps) = true := by simp [Region.wanted, hg]
  rw [if_pos hw]
  unfold Oper.wp
  simp [execOp, hop, resolve, invoke, builtin, hd', hx, hr, Result.andThen]
  exact hK

theorem step_append_k {ops : Array Oper} {o : Oper} {a : Act} {w : World} {K : Act → World → Prop} {Q : Exit → Act → World → Prop} {E : Prop}
    (hg : o.guard = none) (d x : Operand) (dT sT : TypeId) (hop : o.op = Op.call { callee := Callee.builtin Builtin.append, args := #[d, x], argTypes := #[dT, sT] })
    (v u : Value) (hd' : a.eval d = v) (hx : a.eval x = u) {v' : Value} {w' : World} (hr : (Builtin.append_ #[dT, sT] o.type #[v, u]).run P w = .ok v' w') (hK : K (a.put o.dst v') w') :
    if Region.wanted o (yielded ops a.tmps) = true then Oper.wp P o a w K Q else E := by
  have hw : Region.wanted o (yielded ops a.tmps) = true := by simp [Region.wanted, hg]
  rw [if_pos hw]
  unfold Oper.wp
  simp [execOp, hop, resolve, invoke, builtin, hd', hx, hr, Result.andThen]
  exact hK

theorem wpList_append_k (w : World) {ops : Array Oper} {rest : List Oper} {o : Oper} {a : Act} {Q : Exit → Act → World → Prop} (hgd : o.guard = none) (d s : Operand) (t t' : TypeId)
    (ho : o.op = .call { callee := .builtin .append, args := #[d, s], argTypes := #[t, t'] }) (v u : Value) (hd' : a.eval d = v) (hs : a.eval s = u) {v' : Value} {w' : World}
    (hr : (Builtin.append_ #[t, t'] o.type #[v, u]).run P w = .ok v' w') (h : wpList P ops Q rest (a.put o.dst v') w') : wpList P ops Q (o :: rest) a w := by
  refine wpList_plain hgd fun K hK => ?_
  unfold Oper.wp
  simp [execOp, ho, resolve, invoke, builtin, hd', hs, hr, Result.andThen]
  exact hK _ _ h
end

/-- The row that an append leaves: the same, or a new one. -/
def Moved (w : World) (β β' : Option Nat) : Prop := β' = β ∨ ∃ g, β' = some g ∧ w.heap.size ≤ g

theorem wpList_make_k {P : Program} (w : World) {ops : Array Oper} {rest : List Oper} {o : Oper} {a : Act} {Q : Exit → Act → World → Prop}
    (hg : o.guard = none) (l c : Operand) (t : TypeId) (hop : o.op = Op.makeSlice t l c)
    (e : TypeId) (i : TypeInfo) (z : Value) (h1 : P.underlying t = some (.slice e)) (h2 : P.info? e = some i) (h3 : i.zero = some z)
    (kl kc : IntKind) (L C : Int) (n m : Nat) (hl : a.eval l = .int kl L) (hc : a.eval c = .int kc C) (hL : L = (n : Int)) (hC : C = (m : Int)) (hnm : n ≤ m) (b2 : i.bytes * m ≤ 281474976710656) (b3 : m ≤ 9223372036854775807)
    (hK : ∀ (w' : World) (cur : List Value), Hid (w'.heap[w.heap.size]? = some (.cells cur.toArray e (0, 0))) → Hid (cur = (madeCells z.cells (m * i.size)).toList) → Hid (Below w.heap.size w w') → wpList P ops Q rest (a.put o.dst (.slice (some ⟨w.heap.size, 0, none⟩) n m)) w') :
    wpList P ops Q (o :: rest) a w := by
  refine wpList_plain hg fun K hK' => ?_
  subst hL
  subst hC
  have hrun := run_make (P := P) w t e i z h1 h2 h3 kl kc n m (by omega) (by omega) (by rw [← Int.natCast_mul]; exact Int.ofNat_le.2 b2) (by omega)
  simp only [Int.toNat_natCast] at hrun
  unfold Oper.wp
  simp [execOp, hop, hl, hc, hrun, Result.andThen]
  refine hK' _ _ (hK _ _ ?_ (rfl : _ = _) ((Below.refl _ _).alloc (Nat.le_refl _) _))
  show (w.alloc _).heap[w.heap.size]? = _
  rw [heap_alloc_new]

theorem run_copy_zero {P : Program} (w : World) (dT sT ty elem : TypeId) (d a : Option Addr) (dLen dCap sLen sCap size : Nat) (hu : P.underlying dT = some (.slice elem)) (hs : (P.info? elem).map (·.size) = some size) (hn : Nat.min sLen dLen = 0) :
    (Builtin.copy_ #[dT, sT] ty #[.slice d dLen dCap, .slice a sLen sCap]).run P w = .ok (goInt (0 : Nat)) w := by
  cases hq : P.info? elem with
  | none => simp [hq] at hs
  | some i =>
    have hl : ∀ (x : Addr), (loadCells x 0).run P w = .ok #[] w := fun x => by simpa using run_loadCells_list (P := P) w x [] (by simp)
    cases d <;> cases a <;> simp [Builtin.copy_, run_underlying hu, Builtin.lenOf, Builtin.firstCells, sizeOf, typeInfo, hq, hn, storeCells, hl]

def opc (o : OpE) : List Value := [.int .i64 o.kind, .int .i64 o.pos, .int .u8 o.ch, .int .i64 o.cl, .int .i64 o.sq]
def cO (os : List OpE) : List Value := os.flatMap opc

theorem cO_nil : cO [] = [] := rfl
theorem cO_cons (x : OpE) (xs : List OpE) : cO (x :: xs) = opc x ++ cO xs := rfl
theorem cO_app (xs ys : List OpE) : cO (xs ++ ys) = cO xs ++ cO ys := by simp [cO]
theorem cO_one (x : OpE) : cO [x] = opc x := by simp [cO]
theorem cO_len (xs : List OpE) : (cO xs).length = xs.length * 5 := by
  induction xs with
  | nil => rfl
  | cons x xs ih => rw [cO_cons, List.length_append, ih]; simp [opc]; omega
theorem cO_take (xs : List OpE) (k : Nat) (hk : k ≤ xs.length) : (cO xs).take (k * 5) = cO (xs.take k) := by
  have h : cO xs = cO (xs.take k) ++ cO (xs.drop k) := by rw [← cO_app, List.take_append_drop]
  rw [h, List.take_append_of_le_length (by rw [cO_len, List.length_take, Nat.min_eq_left hk]; exact Nat.le_refl _), List.take_of_length_le (by rw [cO_len, List.length_take, Nat.min_eq_left hk]; exact Nat.le_refl _)]
theorem cO_one' (xs : List OpE) : ∀ v ∈ cO xs, v.oneCell' = true := by
  intro v hv
  simp [cO, opc] at hv
  obtain ⟨o, _, h⟩ := hv
  rcases h with rfl | rfl | rfl | rfl | rfl <;> rfl
theorem cO_get (xs : List OpE) (i : Nat) (hi : i < xs.length) : (cO xs)[i * 5]? = some (.int .i64 xs[i].kind) ∧ (cO xs)[i * 5 + 1]? = some (.int .i64 xs[i].pos) ∧ (cO xs)[i * 5 + 2]? = some (.int .u8 xs[i].ch) ∧ (cO xs)[i * 5 + 3]? = some (.int .i64 xs[i].cl) ∧ (cO xs)[i * 5 + 4]? = some (.int .i64 xs[i].sq) := by
  have h : cO xs = cO (xs.take i) ++ (opc xs[i] ++ cO (xs.drop (i + 1))) := by
    rw [← cO_cons, ← cO_app]
    congr 1
    rw [← List.drop_eq_getElem_cons hi, List.take_append_drop]
  have hl : (cO (xs.take i)).length = i * 5 := by rw [cO_len, List.length_take]; congr 1; omega
  rw [h]
  refine ⟨?_, ?_, ?_, ?_, ?_⟩
  · rw [List.getElem?_append_right (by omega), hl, Nat.sub_self]; rfl
  · rw [List.getElem?_append_right (by omega), hl, show i * 5 + 1 - i * 5 = 1 by omega]; rfl
  · rw [List.getElem?_append_right (by omega), hl, show i * 5 + 2 - i * 5 = 2 by omega]; rfl
  · rw [List.getElem?_append_right (by omega), hl, show i * 5 + 3 - i * 5 = 3 by omega]; rfl
  · rw [List.getElem?_append_right (by omega), hl, show i * 5 + 4 - i * 5 = 4 by omega]; rfl

/-- The slice value at a, of n elements and capacity c, holds the operations os in w. -/
def IsO (w : World) (a : Option Addr) (n c : Nat) (os : List OpE) : Prop :=
  os.length = n ∧ n ≤ c ∧ c ≤ 9223372036854775807 ∧
  (0 < n → ∃ b off, a = some ⟨b, off, none⟩ ∧ b < w.heap.size ∧ ∀ j v, (cO os)[j]? = some v → w.cell? ⟨b, off + j, none⟩ = some v)

/-- Every character is a byte. -/
def OkO (os : List OpE) : Prop := ∀ o ∈ os, 0 ≤ o.ch ∧ o.ch ≤ 255

theorem IsO.addr {w : World} {a : Option Addr} {n c : Nat} {os : List OpE} (h : IsO w a n c os) (hn : 0 < n) : ∃ b off, a = some ⟨b, off, none⟩ ∧ b < w.heap.size := by
  obtain ⟨b, off, e, hlt, _⟩ := h.2.2.2 hn
  exact ⟨b, off, e, hlt⟩
theorem IsO.at {w : World} {b off n c : Nat} {os : List OpE} (h : IsO w (some ⟨b, off, none⟩) n c os) (i : Nat) (hi : i < n) (hx : i < os.length) :
    w.cell? ⟨b, off + i * 5, none⟩ = some (.int .i64 os[i].kind) ∧ w.cell? ⟨b, off + i * 5 + 1, none⟩ = some (.int .i64 os[i].pos) ∧ w.cell? ⟨b, off + i * 5 + 2, none⟩ = some (.int .u8 os[i].ch) ∧
      w.cell? ⟨b, off + i * 5 + 3, none⟩ = some (.int .i64 os[i].cl) ∧ w.cell? ⟨b, off + i * 5 + 4, none⟩ = some (.int .i64 os[i].sq) := by
  obtain ⟨h1, h2, h3, h4⟩ := h
  obtain ⟨b', off', e, hlt, hc⟩ := h4 (by omega)
  have e' := Option.some.inj e
  simp at e'
  obtain ⟨rfl, rfl⟩ := e'
  obtain ⟨g0, g1, g2, g3, g4⟩ := cO_get os i hx
  exact ⟨hc _ _ g0, by rw [Nat.add_assoc]; exact hc _ _ g1, by rw [Nat.add_assoc]; exact hc _ _ g2, by rw [Nat.add_assoc]; exact hc _ _ g3, by rw [Nat.add_assoc]; exact hc _ _ g4⟩
theorem IsO.fr {S : Nat → Prop} {w w' : World} {a : Option Addr} {n c : Nat} {os : List OpE} (h : IsO w a n c os) (hb : Fr S w w') (hr : 0 < n → ∀ b off, a = some ⟨b, off, none⟩ → ¬ S b) : IsO w' a n c os := by
  obtain ⟨h1, h2, h3, h4⟩ := h
  refine ⟨h1, h2, h3, fun hn => ?_⟩
  obtain ⟨b, off, e, hlt, hc⟩ := h4 hn
  refine ⟨b, off, e, Nat.lt_of_lt_of_le hlt hb.size, fun j v hj => ?_⟩
  rw [hb.cell (p := ⟨b, off + j, none⟩) hlt (hr hn b off e)]
  exact hc j v hj
theorem IsO.below {w w' : World} {a : Option Addr} {n c : Nat} {os : List OpE} (h : IsO w a n c os) (hb : Below w.heap.size w w') : IsO w' a n c os :=
  h.fr (S := fun _ => False) (Fr.of_below hb) (fun _ _ _ _ h => h)
theorem IsO.take {w : World} {a : Option Addr} {n c : Nat} {os : List OpE} (h : IsO w a n c os) (m : Nat) (hm : m ≤ n) : IsO w a m c (os.take m) := by
  obtain ⟨h1, h2, h3, h4⟩ := h
  refine ⟨by simp; omega, by omega, h3, fun hn => ?_⟩
  obtain ⟨b, off, e, hlt, hc⟩ := h4 (by omega)
  refine ⟨b, off, e, hlt, fun j v hj => hc j v ?_⟩
  rw [← cO_take os m (by omega), List.getElem?_take] at hj
  split at hj
  · exact hj
  · cases hj
theorem OkO.take {os : List OpE} (h : OkO os) (m : Nat) : OkO (os.take m) := fun o ho => h o (List.mem_of_mem_take ho)

theorem Tryz.infoO : (Tryz.prog.info? 46).map (fun i => (i.zero, i.size, i.bytes)) = some (some (.agg #[.int .i64 0, .int .i64 0, .int .u8 0, .int .i64 0, .int .i64 0]), 5, 40) := by kernel_rfl

/-- Block g is a row of cap operations, the first N of them os. -/
def RowO (w : World) (g N cap : Nat) (os : List OpE) : Prop :=
  ∃ cur : List Value, w.heap[g]? = some (.cells cur.toArray 46 (0, 0)) ∧ cur.take (N * 5) = cO os ∧ os.length = N ∧ N ≤ cap ∧ cap ≤ 9223372036854775807 ∧ cur.length = cap * 5

theorem RowO.fr {S : Nat → Prop} {w w' : World} {g N cap : Nat} {os : List OpE} (h : RowO w g N cap os) (hF : Fr S w w') (hS : ¬ S g) : RowO w' g N cap os := by
  obtain ⟨cur, hh, r⟩ := h
  exact ⟨cur, hF.keeps hh hS, r⟩
theorem RowO.lt {w : World} {g N cap : Nat} {os : List OpE} (h : RowO w g N cap os) : g < w.heap.size := by
  obtain ⟨cur, hh, _⟩ := h
  exact block_lt hh
theorem RowO.isO {w : World} {g N cap : Nat} {os : List OpE} (h : RowO w g N cap os) : IsO w (some ⟨g, 0, none⟩) N cap os := by
  obtain ⟨cur, hh, ht, hl, hn, hm, hs⟩ := h
  refine ⟨hl, hn, hm, fun _ => ⟨g, 0, rfl, block_lt hh, fun j v hj => ?_⟩⟩
  rw [Nat.zero_add, cell_row hh, List.getElem?_toArray]
  rw [← ht, List.getElem?_take] at hj
  split at hj
  · exact hj
  · cases hj

/-- nil, or a row at the block. -/
def SO (w : World) (β : Option Nat) (v : Value) (os : List OpE) : Prop :=
  match β with
  | none => v = .slice none 0 0 ∧ os = []
  | some g => ∃ cap, v = .slice (some ⟨g, 0, none⟩) os.length cap ∧ RowO w g os.length cap os

theorem SO.fr {S : Nat → Prop} {w w' : World} {β : Option Nat} {v : Value} {os : List OpE} (h : SO w β v os) (hF : Fr S w w') (hS : ∀ g, β = some g → ¬ S g) : SO w' β v os := by
  cases β with
  | none => exact h
  | some g =>
    obtain ⟨cap, hv, hR⟩ := h
    exact ⟨cap, hv, hR.fr hF (hS g rfl)⟩
theorem SO.below {w w' : World} {β : Option Nat} {v : Value} {os : List OpE} (h : SO w β v os) (hb : Below w.heap.size w w') : SO w' β v os :=
  h.fr (S := fun _ => False) (Fr.of_below hb) (fun _ _ h => h)
theorem SO.lt {w : World} {β : Option Nat} {v : Value} {os : List OpE} (h : SO w β v os) : ∀ g, β = some g → g < w.heap.size := by
  rintro g rfl
  obtain ⟨cap, hv, hR⟩ := h
  exact hR.lt
theorem SO.form {w : World} {β : Option Nat} {v : Value} {os : List OpE} (h : SO w β v os) : ∃ a c, v = .slice a os.length c ∧ IsO w a os.length c os := by
  cases β with
  | none =>
    obtain ⟨rfl, rfl⟩ := h
    exact ⟨none, 0, rfl, ⟨rfl, Nat.le_refl _, by omega, fun h => by simp at h⟩⟩
  | some g =>
    obtain ⟨cap, rfl, hR⟩ := h
    exact ⟨_, cap, rfl, hR.isO⟩
def NowO (w w' : World) (β : Option Nat) (v : Value) (os : List OpE) : Prop := ∃ β', SO w' β' v os ∧ Moved w β β' ∧ Fr (fun k => β = some k) w w'

theorem row_cellsO {w : World} {g N : Nat} {xs : List OpE} {cur : List Value} {t : TypeId} (hg : w.heap[g]? = some (.cells cur.toArray t (0, 0))) (ht : cur.take (N * 5) = cO xs) :
    ∀ j v, (cO xs)[j]? = some v → w.cell? ((⟨g, 0, none⟩ : Addr).add j) = some v := by
  intro j v hj
  rw [add_lit, Nat.zero_add, cell_row hg, List.getElem?_toArray]
  rw [← ht, List.getElem?_take] at hj
  split at hj
  · exact hj
  · cases hj
theorem zero_lenO (k : Nat) : (Builtin.zeroCells #[.int .i64 0, .int .i64 0, .int .u8 0, .int .i64 0, .int .i64 0] k).toList.length = k * 5 := by
  rw [Array.length_toList, size_zeroCells]
  rfl

theorem push_takeO (L : List Value) (xs : List OpE) (x : OpE) (n : Nat) (hx : xs.length = n) (hL : n * 5 ≤ L.length) (ht : L.take (n * 5) = cO xs) :
    (splice L (n * 5) (opc x)).take ((n + 1) * 5) = cO (xs ++ [x]) := by
  have h := splice_take_end L (n * 5) (opc x) hL
  rw [show n * 5 + (opc x).length = (n + 1) * 5 from by simp [opc]; omega, ht] at h
  rw [h, cO_app, cO_one]

/-- append of one element onto nil or a row of the call's own. -/
theorem run_pushO (w : World) (β : Option Nat) (v : Value) (xs : List OpE) (hv : SO w β v xs) (vb : Nat) (x : OpE) (hb : w.heap[vb]? = some (.cells (opc x).toArray 46 (0, 0))) (hn : xs.length ≤ 4096) :
    ∃ v' w', (∀ ty, (Builtin.append_ #[24, 24] ty #[v, .slice (some ⟨vb, 0, none⟩) 1 1]).run Tryz.prog w = .ok v' w') ∧ NowO w w' β v' (xs ++ [x]) := by
  obtain ⟨i0, hi0, hz0, hz1, hz2⟩ := info_parts Tryz.infoO
  have hl : (opc x).length = 1 * i0.size := by rw [hz1]; rfl
  have hnews : ∀ j u, (opc x)[j]? = some u → w.cell? ((⟨vb, 0, none⟩ : Addr).add j) = some u := fun j u hj => by
    rw [add_lit, Nat.zero_add, cell_row hb, List.getElem?_toArray]
    exact hj
  have h1 : ∀ u ∈ opc x, u.oneCell' = true := by rw [← cO_one]; exact cO_one' _
  have newrow : ∀ G, xs.length + 1 ≤ G → G ≤ 9223372036854775807 → RowO (w.drew.alloc (.cells ((cO xs).toArray ++ (opc x).toArray ++ Builtin.zeroCells #[.int .i64 0, .int .i64 0, .int .u8 0, .int .i64 0, .int .i64 0] (G - (xs.length + 1))) 46)) w.heap.size (xs.length + 1) G (xs ++ [x]) := by
    intro G hG1 hG2
    refine ⟨((cO xs).toArray ++ (opc x).toArray ++ Builtin.zeroCells #[.int .i64 0, .int .i64 0, .int .u8 0, .int .i64 0, .int .i64 0] (G - (xs.length + 1))).toList, ?_, ?_, by simp, hG1, hG2, ?_⟩
    · rw [show w.heap.size = w.drew.heap.size from rfl, heap_alloc_new]
    · rw [Array.toList_append, Array.toList_append, List.toList_toArray, List.toList_toArray]
      have : (cO xs ++ opc x).length = (xs.length + 1) * 5 := by rw [List.length_append, cO_len]; simp [opc]; omega
      rw [← this, List.take_left, cO_app, cO_one]
    · rw [Array.toList_append, Array.toList_append, List.length_append, List.length_append, zero_lenO, List.toList_toArray, List.toList_toArray, cO_len]
      simp [opc]
      omega
  cases β with
  | none =>
    obtain ⟨rfl, rfl⟩ := hv
    have hr := fun ty => run_append_nil (P := Tryz.prog) w 24 ty 46 i0 _ Tryz.underlying24 hi0 hz0 ⟨vb, 0, none⟩ 1 1 (opc x) hl hnews (by omega) (by omega) (by rw [hz2]; omega)
    have hG1 := grownCap_ge w 1 0 46
    have hG2 := grownCap_le_maxLen w 1 0 46 (by unfold maxLen; omega)
    generalize grownCap w 1 0 46 = G at hr hG1 hG2
    refine ⟨_, _, hr, some w.heap.size, ?_, .inr ⟨_, rfl, Nat.le_refl _⟩, (Fr.drew _ w).trans (Fr.alloc _ _ _)⟩
    have := newrow G hG1 hG2
    simp [cO_nil] at this
    refine ⟨G, rfl, ?_⟩
    simpa [Value.cells] using this
  | some g =>
    obtain ⟨cap, rfl, cur, hh, htk, hvl, hnc, hcm, hcs⟩ := hv
    by_cases hroom : xs.length + 1 ≤ cap
    · have hr := fun ty => run_append_room (P := Tryz.prog) w 24 ty 46 i0 Tryz.underlying24 hi0 g xs.length cap cur.toArray hh ⟨vb, 0, none⟩ 1 1 (opc x) hl hnews h1 hroom (by rw [hz1]; simp [opc, hcs]; omega)
      refine ⟨_, _, hr, some g, ⟨cap, by simp, ?_⟩, .inl rfl, Fr.setRow _ _ _ rfl⟩
      rw [hz1]
      refine ⟨splice cur (xs.length * 5) (opc x), ?_, by simpa using push_takeO cur xs x xs.length rfl (by omega) htk, rfl, by simpa using hroom, hcm, ?_⟩
      · have := setRow_heap w g cur.toArray (splice cur (xs.length * 5) (opc x)).toArray 46 _ hh
        simpa [splice] using this
      · rw [length_splice _ _ _ (by simp [opc]; omega), hcs]
    · have holds : ∀ j u, (cO xs)[j]? = some u → w.cell? ((⟨g, 0, none⟩ : Addr).add j) = some u := by
        exact row_cellsO hh htk
      have hr := fun ty => run_append_grow (P := Tryz.prog) w 24 ty 46 i0 _ Tryz.underlying24 hi0 hz0 ⟨g, 0, none⟩ xs.length cap (cO xs) (by rw [hz1, cO_len]) holds ⟨vb, 0, none⟩ 1 1 (opc x) hl hnews (by omega) (by omega) (growslice_fits (by omega) (by rw [hz2]; omega))
      have hG1 := grownCap_ge w (xs.length + 1) cap 46
      have hG2 := grownCap_le_maxLen w (xs.length + 1) cap 46 (by unfold maxLen; omega)
      generalize grownCap w (xs.length + 1) cap 46 = G at hr hG1 hG2
      refine ⟨_, _, hr, some w.heap.size, ⟨G, by simp, ?_⟩, .inr ⟨_, rfl, Nat.le_refl _⟩, (Fr.drew _ w).trans (Fr.alloc _ _ _)⟩
      have := newrow G hG1 hG2
      simpa [Value.cells] using this


theorem SO.formN {w : World} {β : Option Nat} {v : Value} {os : List OpE} {n : Nat} (h : SO w β v os) (hn : os.length = n) : ∃ a c, v = .slice a n c ∧ IsO w a n c os := by
  subst hn
  exact h.form

theorem drewN2 (w : World) (m n : Nat) : (w.drewN m).drewN n = w.drewN (m + n) := by
  simp

end Go.Proofs.YtilidolbplglcaaGreatDoor
