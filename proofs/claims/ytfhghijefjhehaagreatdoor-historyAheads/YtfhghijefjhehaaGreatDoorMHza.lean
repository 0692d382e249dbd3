/-
  Texts put together: Hza Ma Mb Na Ha Hb Hc Hd Hf Hw.
-/
import Derived.Test.YtfhghijefjhehaaGreatDoorMUa
import Derived.Test.YtfhghijefjhehaaGreatDoorAx
import Derived.WalkKit
import Derived.WalkSpells
import Derived.WalkLawsBesides
import Derived.Laws.CopyOwn
import Derived.Laws.MakeOwn
import Derived.Deep.DeepAppendWide
import Derived.Laws.AppendOwn
import Derived.Deep.QuietTactic
import Derived.BigQuiet
import Derived.Laws.StructEq
import Derived.Deep.DeepCutAuto
import Derived.Deep.Quiet
/-! Hza -/
namespace Go.Proofs.YtfhghijefjhehaaGreatDoor
open Go.RowKit
set_option linter.unusedVariables false

/-- Every block that was there is as it was, but for the blocks of S. -/
structure Fr (S : Nat → Prop) (w w' : World) : Prop where
  os : w'.os = w.os
  tape : w'.tape = w.tape
  output : w'.output = w.output
  size : w.heap.size ≤ w'.heap.size
  block : ∀ k, k < w.heap.size → ¬ S k → w'.heap[k]? = w.heap[k]?

theorem Fr.refl (S : Nat → Prop) (w : World) : Fr S w w := ⟨rfl, rfl, rfl, Nat.le_refl _, fun _ _ _ => rfl⟩
theorem Fr.trans {S : Nat → Prop} {a b c : World} (h : Fr S a b) (k : Fr S b c) : Fr S a c :=
  ⟨k.os.trans h.os, k.tape.trans h.tape, k.output.trans h.output, Nat.le_trans h.size k.size, fun i hi hr => (k.block i (Nat.lt_of_lt_of_le hi h.size) hr).trans (h.block i hi hr)⟩
theorem Fr.next {S S' : Nat → Prop} {a b c : World} (h : Fr S a b) (k : Fr S' b c) (hS : ∀ i, i < a.heap.size → S' i → S i) : Fr S a c :=
  ⟨k.os.trans h.os, k.tape.trans h.tape, k.output.trans h.output, Nat.le_trans h.size k.size, fun i hi hr => (k.block i (Nat.lt_of_lt_of_le hi h.size) (fun hs => hr (hS i hi hs))).trans (h.block i hi hr)⟩
theorem Fr.mono {S S' : Nat → Prop} {w w' : World} (h : Fr S w w') (hS : ∀ k, k < w.heap.size → S k → S' k) : Fr S' w w' :=
  ⟨h.os, h.tape, h.output, h.size, fun k hk hn => h.block k hk (fun hs => hn (hS k hk hs))⟩
theorem Fr.of_below {S : Nat → Prop} {w w' : World} (h : Below w.heap.size w w') : Fr S w w' := ⟨h.os, h.tape, h.output, h.size, fun k hk _ => h.block k hk⟩
theorem Fr.below {S : Nat → Prop} {B : Nat} {w w' : World} (h : Fr S w w') (hB : B ≤ w.heap.size) (hS : ∀ k, S k → B ≤ k) : Below B w w' :=
  ⟨h.os, h.tape, h.output, h.size, fun k hk => h.block k (by omega) (fun hs => by have := hS k hs; omega)⟩
theorem Fr.drewN (S : Nat → Prop) (w : World) (m : Nat) : Fr S w (w.drewN m) := ⟨rfl, rfl, rfl, Nat.le_refl _, fun _ _ _ => rfl⟩
theorem Fr.drew (S : Nat → Prop) (w : World) : Fr S w w.drew := ⟨rfl, rfl, rfl, Nat.le_refl _, fun _ _ _ => rfl⟩
theorem Fr.setCell {S : Nat → Prop} (w : World) (p : Addr) (u : Value) (hp : S p.block) : Fr S w (w.setCell p u) :=
  ⟨rfl, rfl, rfl, by simp, fun k _ hk => Below.heap_setCell w p u k (fun h => hk (h ▸ hp))⟩
theorem Fr.setRow {S : Nat → Prop} (w : World) (g : Nat) (cs : Array Value) (hp : S g) : Fr S w (w.setRow g cs) :=
  ⟨rfl, rfl, rfl, by simp, fun k _ hk => setRow_other w g k cs (fun h => hk (h ▸ hp))⟩
theorem Fr.alloc (S : Nat → Prop) (w : World) (o : Obj) : Fr S w (w.alloc o) := Fr.of_below ((Below.refl _ _).alloc (Nat.le_refl _) o)
theorem Fr.cell {S : Nat → Prop} {w w' : World} (h : Fr S w w') {p : Addr} (hp : p.block < w.heap.size) (hr : ¬ S p.block) : w'.cell? p = w.cell? p := World.cell?_of_block (w := w) (h.block p.block hp hr)

theorem block_lt {w : World} {r : Nat} {o : Obj} (h : w.heap[r]? = some o) : r < w.heap.size := by
  by_cases hg : r < w.heap.size
  · exact hg
  · rw [Array.getElem?_eq_none (by omega)] at h
    simp at h

theorem Fr.keeps {S : Nat → Prop} {w w' : World} (h : Fr S w w') {r : Nat} {o : Obj} (hr : w.heap[r]? = some o) (hS : ¬ S r) : w'.heap[r]? = some o := (h.block r (block_lt hr) hS).trans hr

theorem cell_row {w : World} {r : Nat} {cur : Array Value} {t : TypeId} (h : w.heap[r]? = some (.cells cur t (0, 0))) (i : Nat) : w.cell? ⟨r, i, none⟩ = cur[i]? := by
  simp [World.cell?, h]
theorem frozen_row {w : World} {r : Nat} {cur : Array Value} {t : TypeId} (h : w.heap[r]? = some (.cells cur t (0, 0))) (i : Nat) : w.frozen? ⟨r, i, none⟩ = false := by
  simp [World.frozen?, h]
theorem set_row {w : World} {r : Nat} {cur : Array Value} {t : TypeId} (h : w.heap[r]? = some (.cells cur t (0, 0))) (i : Nat) (u : Value) : (w.setCell ⟨r, i, none⟩ u).heap[r]? = some (.cells (cur.setIfInBounds i u) t (0, 0)) :=
  heap_setCell_same w r i cur t u h

/-- An element has k cells. -/
def Sz {α : Type} (f : α → List Value) (k : Nat) : Prop := ∀ x, (f x).length = k ∧ ∀ v ∈ f x, v.oneCell' = true

/-- The cells of a list. -/
def cl {α : Type} (f : α → List Value) (xs : List α) : List Value := xs.flatMap f

section
variable {α : Type} {f : α → List Value} {k : Nat}
theorem cl_nil : cl f [] = [] := rfl
theorem cl_one (x : α) : cl f [x] = f x := by simp [cl]
theorem cl_app (xs ys : List α) : cl f (xs ++ ys) = cl f xs ++ cl f ys := by simp [cl]
theorem cl_cons (x : α) (xs : List α) : cl f (x :: xs) = f x ++ cl f xs := by simp [cl]
theorem cl_len (h : Sz f k) (xs : List α) : (cl f xs).length = xs.length * k := by
  induction xs with
  | nil => simp [cl_nil]
  | cons x xs ih => rw [cl_cons, List.length_append, ih, (h x).1, List.length_cons, Nat.add_mul]; omega
theorem cl_cells (h : Sz f k) (xs : List α) : ∀ v ∈ cl f xs, v.oneCell' = true := by
  intro v hv
  obtain ⟨x, -, hx⟩ := List.mem_flatMap.1 hv
  exact (h x).2 v hx
theorem cl_drop (h : Sz f k) (xs : List α) (i : Nat) : (cl f xs).drop (i * k) = cl f (xs.drop i) := by
  induction xs generalizing i with
  | nil => simp [cl_nil]
  | cons x xs ih =>
    cases i with
    | zero => simp
    | succ i =>
      rw [cl_cons, Nat.add_mul, Nat.one_mul, List.drop_succ_cons, ← ih i, List.drop_append]
      rw [List.drop_eq_nil_of_le (by rw [(h x).1]; omega), List.nil_append, (h x).1, Nat.add_sub_cancel]
theorem cl_get (h : Sz f k) (xs : List α) (i j : Nat) (hi : i < xs.length) (hj : j < k) : (cl f xs)[i * k + j]? = (f xs[i])[j]? := by
  have h1 : (cl f xs)[i * k + j]? = ((cl f xs).drop (i * k))[j]? := by rw [List.getElem?_drop]
  rw [h1, cl_drop h, List.drop_eq_getElem_cons hi, cl_cons, List.getElem?_append_left (by rw [(h _).1]; exact hj)]
end

/-- Block g is a row of cap elements of type e, the first N of them xs. -/
def RowF {α : Type} (f : α → List Value) (k : Nat) (w : World) (g N cap : Nat) (e : TypeId) (xs : List α) : Prop :=
  ∃ cur : List Value, w.heap[g]? = some (.cells cur.toArray e (0, 0)) ∧ cur.take (N * k) = cl f xs ∧ xs.length = N ∧ N ≤ cap ∧ cap ≤ 9223372036854775807 ∧ cur.length = cap * k

/-- nil, or a row. -/
def SF {α : Type} (f : α → List Value) (k : Nat) (w : World) (e : TypeId) (β : Option Nat) (v : Value) (xs : List α) : Prop :=
  match β with
  | none => v = .slice none 0 0 ∧ xs = []
  | some g => ∃ cap, v = .slice (some ⟨g, 0, none⟩) xs.length cap ∧ RowF f k w g xs.length cap e xs

section
variable {α : Type} {f : α → List Value} {k : Nat} {w w' : World} {g N cap : Nat} {e : TypeId} {xs : List α} {S : Nat → Prop} {β : Option Nat} {v : Value}
theorem RowF.fr (h : RowF f k w g N cap e xs) (hF : Fr S w w') (hS : ¬ S g) : RowF f k w' g N cap e xs := by
  obtain ⟨cur, hh, r⟩ := h
  exact ⟨cur, hF.keeps hh hS, r⟩
theorem RowF.lt (h : RowF f k w g N cap e xs) : g < w.heap.size := by
  obtain ⟨cur, hh, _⟩ := h
  exact block_lt hh
theorem RowF.cell (h : RowF f k w g N cap e xs) (hz : Sz f k) (i j : Nat) (hi : i < xs.length) (hj : j < k) : w.cell? ⟨g, i * k + j, none⟩ = (f xs[i])[j]? := by
  obtain ⟨cur, hh, ht, hl, _⟩ := h
  have hlt : i * k + j < N * k := by
    have : (i + 1) * k ≤ N * k := Nat.mul_le_mul_right _ (by omega)
    rw [Nat.add_mul] at this
    omega
  rw [cell_row hh, ← cl_get hz xs i j hi hj, ← ht, List.getElem?_take, if_pos hlt]
  simp
theorem RowF.cells (h : RowF f k w g N cap e xs) (hz : Sz f k) (i : Nat) : ∀ j u, (cl f (xs.drop i))[j]? = some u → w.cell? ((⟨g, i * k, none⟩ : Addr).add j) = some u := by
  intro j u hj
  obtain ⟨cur, hh, ht, hl, _⟩ := h
  rw [add_lit, cell_row hh]
  rw [← cl_drop hz, List.getElem?_drop, ← ht] at hj
  have hjl := (List.getElem?_eq_some_iff.1 hj).1
  rw [List.length_take] at hjl
  rw [List.getElem?_take, if_pos (by omega)] at hj
  simpa using hj

theorem SF.fr (h : SF f k w e β v xs) (hF : Fr S w w') (hS : ∀ g, β = some g → ¬ S g) : SF f k w' e β v xs := by
  cases β with
  | none => exact h
  | some g =>
    obtain ⟨cap, hv, hR⟩ := h
    exact ⟨cap, hv, hR.fr hF (hS g rfl)⟩
theorem SF.form (h : SF f k w e β v xs) : ∃ a c, v = .slice a xs.length c ∧ xs.length ≤ c ∧ c ≤ 9223372036854775807 := by
  cases β with
  | none =>
    obtain ⟨rfl, rfl⟩ := h
    exact ⟨none, 0, rfl, by simp, by omega⟩
  | some g =>
    obtain ⟨cap, rfl, cur, -, -, -, h1, h2, -⟩ := h
    exact ⟨_, cap, rfl, h1, h2⟩
theorem SF.lt (h : SF f k w e β v xs) : ∀ g, β = some g → g < w.heap.size := by
  rintro g rfl
  obtain ⟨cap, hv, hR⟩ := h
  exact hR.lt
theorem SF.blk {g : Nat} (h : SF f k w e (some g) v xs) : ∃ cur, w.heap[g]? = some (.cells cur e (0, 0)) := by
  obtain ⟨cap, -, cur, hh, -⟩ := h
  exact ⟨_, hh⟩
end

/-- What an append leaves: the same row, or a new one behind all that was there. -/
def NowF {α : Type} (f : α → List Value) (k : Nat) (w w' : World) (e : TypeId) (β : Option Nat) (v' : Value) (xs : List α) : Prop :=
  ∃ g', SF f k w' e (some g') v' xs ∧ ((β = some g' ∧ Fr (· = g') w w') ∨ (g' = w.heap.size ∧ Fr (fun _ => False) w w'))

theorem run_pushF {α : Type} {f : α → List Value} {k : Nat} (hz : Sz f k) {P : Program} (w : World) (t ty e : TypeId) (i : TypeInfo) (z : Value) (bytes : Nat) (ht : P.underlying t = some (.slice e)) (hi : P.info? e = some i) (hzo : i.zero = some z) (hsz : i.size = k) (hzs : z.cells.size = k) (hby : i.bytes = bytes)
    (β : Option Nat) (v : Value) (xs : List α) (hv : SF f k w e β v xs) (ad : Addr) (m c : Nat) (ys : List α) (hl : ys.length = m) (hnews : ∀ j u, (cl f ys)[j]? = some u → w.cell? (ad.add j) = some u)
    (hm : 0 < m) (h63 : xs.length + m ≤ 9223372036854775807) (hb : ((xs.length + m) + (xs.length + m) / 4 + 192) * bytes ≤ 281474976710656) :
    ∃ v' w', (Builtin.append_ #[t, t] ty #[v, .slice (some ad) m c]).run P w = .ok v' w' ∧ NowF f k w w' e β v' (xs ++ ys) := by
  subst hby
  subst hsz
  have hmx : xs.length + m ≤ maxLen := h63
  have hlm : (cl f ys).length = m * i.size := by rw [cl_len hz, hl]
  have h1 := cl_cells hz ys
  have newrow : ∀ G, xs.length + m ≤ G → G ≤ 9223372036854775807 → RowF f i.size (w.drew.alloc (.cells ((cl f xs).toArray ++ (cl f ys).toArray ++ Builtin.zeroCells z.cells (G - (xs.length + m))) e)) w.heap.size (xs.length + m) G e (xs ++ ys) := by
    intro G hG1 hG2
    refine ⟨((cl f xs).toArray ++ (cl f ys).toArray ++ Builtin.zeroCells z.cells (G - (xs.length + m))).toList, ?_, ?_, by simp [hl], hG1, hG2, ?_⟩
    · rw [show w.heap.size = w.drew.heap.size from rfl, heap_alloc_new]
    · rw [Array.toList_append, Array.toList_append, List.toList_toArray, List.toList_toArray]
      have : (cl f xs ++ cl f ys).length = (xs.length + m) * i.size := by rw [List.length_append, cl_len hz, cl_len hz, hl, Nat.add_mul]
      rw [← this, List.take_left, cl_app]
    · rw [Array.toList_append, Array.toList_append, List.length_append, List.length_append, List.toList_toArray, List.toList_toArray, cl_len hz, cl_len hz, Array.length_toList (xs := Builtin.zeroCells _ _), size_zeroCells, hzs, hl, ← Nat.add_mul, ← Nat.add_mul]
      congr 1
      omega
  have newfr : ∀ o, Fr (fun _ => False) w (w.drew.alloc o) := fun o => (Fr.drew _ w).trans (Fr.alloc _ _ _)
  cases β with
  | none =>
    obtain ⟨rfl, rfl⟩ := hv
    have hr := run_append_nil (P := P) w t ty e i z ht hi hzo ad m c (cl f ys) hlm hnews hm (by simp at h63; omega) (by
      simp only [List.length_nil, Nat.zero_add] at hb
      exact Nat.le_trans (Nat.mul_le_mul_right _ (by omega)) hb)
    have hG1 := grownCap_ge w m 0 e
    have hG2 := grownCap_le_maxLen w m 0 e (by unfold maxLen; simp at h63; omega)
    generalize grownCap w m 0 e = G at hr hG1 hG2
    have hn := newrow G (by simpa using hG1) hG2
    simp only [List.length_nil, Nat.zero_add, List.nil_append, cl_nil] at hn ⊢
    refine ⟨_, _, hr, w.heap.size, ⟨G, by rw [hl], ?_⟩, .inr ⟨rfl, newfr _⟩⟩
    rw [hl]
    simpa using hn
  | some g =>
    obtain ⟨cap, rfl, cur, hh, htk, hvl, hnc, hcm, hcs⟩ := hv
    by_cases hroom : xs.length + m ≤ cap
    · have hfit : xs.length * i.size + (cl f ys).length ≤ cur.length := by
        rw [hlm, ← Nat.add_mul, hcs]
        exact Nat.mul_le_mul_right _ hroom
      have hr := run_append_room (P := P) w t ty e i ht hi g xs.length cap cur.toArray hh ad m c (cl f ys) hlm hnews h1 hroom (by simpa using hfit)
      refine ⟨_, _, hr, g, ⟨cap, by simp [hl], ?_⟩, .inl ⟨rfl, Fr.setRow w g _ rfl⟩⟩
      refine ⟨_, setRow_heap w g cur.toArray _ e _ hh, ?_, rfl, by simp [hl]; omega, hcm, ?_⟩
      · rw [List.toList_toArray, htk]
        have : (cl f xs ++ cl f ys).length = (xs ++ ys).length * i.size := by rw [List.length_append, cl_len hz, cl_len hz, List.length_append, Nat.add_mul]
        rw [← this, List.take_left, cl_app]
      · simp only [List.length_append, List.length_take, List.length_drop]
        omega
    · have holds : ∀ j u, (cl f xs)[j]? = some u → w.cell? ((⟨g, 0, none⟩ : Addr).add j) = some u := by
        have := RowF.cells (f := f) (k := i.size) (w := w) (g := g) (N := xs.length) (cap := cap) (e := e) (xs := xs) ⟨cur, hh, htk, hvl, hnc, hcm, hcs⟩ hz 0
        simpa using this
      have hr := run_append_grow (P := P) w t ty e i z ht hi hzo ⟨g, 0, none⟩ xs.length cap (cl f xs) (by rw [cl_len hz]) holds ad m c (cl f ys) hlm hnews (by omega) (by omega) (growslice_fits_wide (by omega) hb)
      have hG1 := grownCap_ge w (xs.length + m) cap e
      have hG2 := grownCap_le_maxLen w (xs.length + m) cap e hmx
      generalize grownCap w (xs.length + m) cap e = G at hr hG1 hG2
      have hn := newrow G hG1 hG2
      refine ⟨_, _, hr, w.heap.size, ⟨G, by simp [hl], ?_⟩, .inr ⟨rfl, newfr _⟩⟩
      rw [List.length_append, hl]
      exact hn

end Go.Proofs.YtfhghijefjhehaaGreatDoor

/-! Ma -/
namespace Go.Proofs.YtfhghijefjhehaaGreatDoor
open Go.RowKit Go.Lib
set_option linter.unusedVariables false

theorem splice_take {α : Type} (L : List α) (off k : Nat) (cs : List α) (h : k ≤ off) (hL : off ≤ L.length) : (splice L off cs).take k = L.take k := by
  unfold splice
  rw [List.take_append_of_le_length (by rw [List.length_take]; omega), List.take_take, Nat.min_eq_left h]
theorem splice_drop {α : Type} (L : List α) (off : Nat) (cs : List α) (hL : off ≤ L.length) : (splice L off cs).drop off = cs ++ L.drop (off + cs.length) := by
  unfold splice
  have : (L.take off).length = off := by rw [List.length_take]; omega
  have e := List.drop_left (l₁ := L.take off) (l₂ := cs ++ L.drop (off + cs.length))
  rw [this] at e
  exact e

theorem splice_take_end {α : Type} (L : List α) (off : Nat) (cs : List α) (hL : off ≤ L.length) : (splice L off cs).take (off + cs.length) = L.take off ++ cs := by
  unfold splice
  have h : (L.take off ++ cs).length = off + cs.length := by simp; omega
  rw [← List.append_assoc, ← h, List.take_left]

section
variable {P : Program}

/-- copy, of elements of any number of cells, into a block that is known whole. -/
theorem run_copy_k (w : World) (dT sT ty elem : TypeId) (size g o dLen dCap : Nat) (a : Addr) (sLen sCap n : Nat) (cur : List Value) (t : TypeId) (cs : List Value)
    (hu : P.underlying dT = some (.slice elem)) (hs : (P.info? elem).map (·.size) = some size)
    (hg : w.heap[g]? = some (.cells cur.toArray t (0, 0))) (hn : n = Nat.min sLen dLen) (hcl : cs.length = n * size)
    (hsrc : ∀ j v, cs[j]? = some v → w.cell? (a.add j) = some v) (hfit : o + cs.length ≤ cur.length) (h1 : ∀ v ∈ cs, v.oneCell' = true) :
    (Builtin.copy_ #[dT, sT] ty #[.slice (some ⟨g, o, none⟩) dLen dCap, .slice (some a) sLen sCap]).run P w = .ok (goInt n) (w.setRow g (splice cur o cs).toArray) := by
  have hl := run_loadCells_list (P := P) w a cs hsrc
  rw [hcl] at hl
  have hst := run_storeCells_at P g o t cs 0 cur.toArray w hg (by simpa using hfit) h1
  cases hq : P.info? elem with
  | none => simp [hq] at hs
  | some i =>
    have hi : i.size = size := by simpa [hq] using hs
    simp [Builtin.copy_, run_underlying hu, Builtin.lenOf, Builtin.firstCells, sizeOf, typeInfo, hq, hi, ← hn, hl, hst, splice]

theorem wpList_copy_k (w : World) {ops : Array Oper} {rest : List Oper} {o : Oper} {a : Act} {Q : Exit → Act → World → Prop} (hgd : o.guard = none) (d s : Operand) (t t' : TypeId)
    (ho : o.op = .call { callee := .builtin .copy, args := #[d, s], argTypes := #[t, t'] }) (v u : Value) (hd' : a.eval d = v) (hs : a.eval s = u) {v' : Value} {w' : World}
    (hr : (Builtin.copy_ #[t, t'] o.type #[v, u]).run P w = .ok v' w') (h : wpList P ops Q rest (a.put o.dst v') w') : wpList P ops Q (o :: rest) a w := by
  refine wpList_plain hgd fun K hK => ?_
  unfold Oper.wp
  simp [execOp, ho, resolve, invoke, builtin, hd', hs, hr, Result.andThen]
  exact hK _ _ h

theorem step_copy_k {ops : Array Oper} {o : Oper} {a : Act} {w : World} {K : Act → World → Prop} {Q : Exit → Act → World → Prop} {E : Prop}
    (hg : o.guard = none) (d x : Operand) (dT sT : TypeId) (hop : o.op = Op.call { callee := Callee.builtin Builtin.copy, args := #[d, x], argTypes := #[dT, sT] })
    (v u : Value) (hd' : a.eval d = v) (hx : a.eval x = u) {v' : Value} {w' : World} (hr : (Builtin.copy_ #[dT, sT] o.type #[v, u]).run P w = .ok v' w') (hK : K (a.put o.dst v') w') :
    if Region.wanted o (yielded ops a.tmps) = true then Oper.wp P o a w K Q else E := by
  have hw : Region.wanted o (yielded ops a.tmps) = true := by simp [Region.wanted, hg]
  rw [if_pos hw]
  unfold Oper.wp
  simp [execOp, hop, resolve, invoke, builtin, hd', hx, hr, Result.andThen]
  exact hK

theorem step_append_k {ops : Array Oper} {o : Oper} {a : Act} {w : World} {K : Act → World → Prop} {Q : Exit → Act → World → Prop} {E : Prop}
    (hg : o.guard = none) (d x : Operand) (dT sT : TypeId) (hop : o.op = Op.call { callee := Callee.builtin Builtin.append, args := #[d, x], argTypes := #[dT, sT] })
    (v u : Value) (hd' : a.eval d = v) (hx : a.eval x = u) {v' : Value} {w' : World} (hr : (Builtin.append_ #[dT, sT] o.type #[v, u]).run P w = .ok v' w') (hK : K (a.put o.dst v') w') :
    if Region.wanted o (yielded ops a.tmps) = true then Oper.wp P o a w K Q else E := by
  have hw : Region.wanted o (yielded ops a.tmps) = true := by simp [Region.wanted, hg]
  rw [if_pos hw]
  unfold Oper.wp
  simp [execOp, hop, resolve, invoke, builtin, hd', hx, hr, Result.andThen]
  exact hK

theorem wpList_append_k (w : World) {ops : Array Oper} {rest : List Oper} {o : Oper} {a : Act} {Q : Exit → Act → World → Prop} (hgd : o.guard = none) (d s : Operand) (t t' : TypeId)
    (ho : o.op = .call { callee := .builtin .append, args := #[d, s], argTypes := #[t, t'] }) (v u : Value) (hd' : a.eval d = v) (hs : a.eval s = u) {v' : Value} {w' : World}
    (hr : (Builtin.append_ #[t, t'] o.type #[v, u]).run P w = .ok v' w') (h : wpList P ops Q rest (a.put o.dst v') w') : wpList P ops Q (o :: rest) a w := by
  refine wpList_plain hgd fun K hK => ?_
  unfold Oper.wp
  simp [execOp, ho, resolve, invoke, builtin, hd', hs, hr, Result.andThen]
  exact hK _ _ h
end

/-- The row that an append leaves: the same, or a new one. -/
def Moved (w : World) (β β' : Option Nat) : Prop := β' = β ∨ ∃ g, β' = some g ∧ w.heap.size ≤ g

theorem wpList_make_k {P : Program} (w : World) {ops : Array Oper} {rest : List Oper} {o : Oper} {a : Act} {Q : Exit → Act → World → Prop}
    (hg : o.guard = none) (l c : Operand) (t : TypeId) (hop : o.op = Op.makeSlice t l c)
    (e : TypeId) (i : TypeInfo) (z : Value) (h1 : P.underlying t = some (.slice e)) (h2 : P.info? e = some i) (h3 : i.zero = some z)
    (kl kc : IntKind) (L C : Int) (n m : Nat) (hl : a.eval l = .int kl L) (hc : a.eval c = .int kc C) (hL : L = (n : Int)) (hC : C = (m : Int)) (hnm : n ≤ m) (b2 : i.bytes * m ≤ 281474976710656) (b3 : m ≤ 9223372036854775807)
    (hK : ∀ (w' : World) (cur : List Value), Hid (w'.heap[w.heap.size]? = some (.cells cur.toArray e (0, 0))) → Hid (cur = (madeCells z.cells (m * i.size)).toList) → Hid (Below w.heap.size w w') → wpList P ops Q rest (a.put o.dst (.slice (some ⟨w.heap.size, 0, none⟩) n m)) w') :
    wpList P ops Q (o :: rest) a w := by
  refine wpList_plain hg fun K hK' => ?_
  subst hL
  subst hC
  have hrun := run_make (P := P) w t e i z h1 h2 h3 kl kc n m (by omega) (by omega) (by rw [← Int.natCast_mul]; exact Int.ofNat_le.2 b2) (by omega)
  simp only [Int.toNat_natCast] at hrun
  unfold Oper.wp
  simp [execOp, hop, hl, hc, hrun, Result.andThen]
  refine hK' _ _ (hK _ _ ?_ (rfl : _ = _) ((Below.refl _ _).alloc (Nat.le_refl _) _))
  show (w.alloc _).heap[w.heap.size]? = _
  rw [heap_alloc_new]

theorem run_copy_zero {P : Program} (w : World) (dT sT ty elem : TypeId) (d a : Option Addr) (dLen dCap sLen sCap size : Nat) (hu : P.underlying dT = some (.slice elem)) (hs : (P.info? elem).map (·.size) = some size) (hn : Nat.min sLen dLen = 0) :
    (Builtin.copy_ #[dT, sT] ty #[.slice d dLen dCap, .slice a sLen sCap]).run P w = .ok (goInt (0 : Nat)) w := by
  cases hq : P.info? elem with
  | none => simp [hq] at hs
  | some i =>
    have hl : ∀ (x : Addr), (loadCells x 0).run P w = .ok #[] w := fun x => by simpa using run_loadCells_list (P := P) w x [] (by simp)
    cases d <;> cases a <;> simp [Builtin.copy_, run_underlying hu, Builtin.lenOf, Builtin.firstCells, sizeOf, typeInfo, hq, hn, storeCells, hl]

def opc (o : OpE) : List Value := [.int .i64 o.kind, .int .i64 o.pos, .int .u8 o.ch, .int .i64 o.cl, .int .i64 o.sq]
def cO (os : List OpE) : List Value := os.flatMap opc

theorem cO_nil : cO [] = [] := rfl
theorem cO_cons (x : OpE) (xs : List OpE) : cO (x :: xs) = opc x ++ cO xs := rfl
theorem cO_app (xs ys : List OpE) : cO (xs ++ ys) = cO xs ++ cO ys := by simp [cO]
theorem cO_one (x : OpE) : cO [x] = opc x := by simp [cO]
theorem cO_len (xs : List OpE) : (cO xs).length = xs.length * 5 := by
  induction xs with
  | nil => rfl
  | cons x xs ih => rw [cO_cons, List.length_append, ih]; simp [opc]; omega
theorem cO_take (xs : List OpE) (k : Nat) (hk : k ≤ xs.length) : (cO xs).take (k * 5) = cO (xs.take k) := by
  have h : cO xs = cO (xs.take k) ++ cO (xs.drop k) := by rw [← cO_app, List.take_append_drop]
  rw [h, List.take_append_of_le_length (by rw [cO_len, List.length_take, Nat.min_eq_left hk]; exact Nat.le_refl _), List.take_of_length_le (by rw [cO_len, List.length_take, Nat.min_eq_left hk]; exact Nat.le_refl _)]
theorem cO_one' (xs : List OpE) : ∀ v ∈ cO xs, v.oneCell' = true := by
  intro v hv
  simp [cO, opc] at hv
  obtain ⟨o, _, h⟩ := hv
  rcases h with rfl | rfl | rfl | rfl | rfl <;> rfl
theorem cO_get (xs : List OpE) (i : Nat) (hi : i < xs.length) : (cO xs)[i * 5]? = some (.int .i64 xs[i].kind) ∧ (cO xs)[i * 5 + 1]? = some (.int .i64 xs[i].pos) ∧ (cO xs)[i * 5 + 2]? = some (.int .u8 xs[i].ch) ∧ (cO xs)[i * 5 + 3]? = some (.int .i64 xs[i].cl) ∧ (cO xs)[i * 5 + 4]? = some (.int .i64 xs[i].sq) := by
  have h : cO xs = cO (xs.take i) ++ (opc xs[i] ++ cO (xs.drop (i + 1))) := by
    rw [← cO_cons, ← cO_app]
    congr 1
    rw [← List.drop_eq_getElem_cons hi, List.take_append_drop]
  have hl : (cO (xs.take i)).length = i * 5 := by rw [cO_len, List.length_take]; congr 1; omega
  rw [h]
  refine ⟨?_, ?_, ?_, ?_, ?_⟩
  · rw [List.getElem?_append_right (by omega), hl, Nat.sub_self]; rfl
  · rw [List.getElem?_append_right (by omega), hl, show i * 5 + 1 - i * 5 = 1 by omega]; rfl
  · rw [List.getElem?_append_right (by omega), hl, show i * 5 + 2 - i * 5 = 2 by omega]; rfl
  · rw [List.getElem?_append_right (by omega), hl, show i * 5 + 3 - i * 5 = 3 by omega]; rfl
  · rw [List.getElem?_append_right (by omega), hl, show i * 5 + 4 - i * 5 = 4 by omega]; rfl

/-- The slice value at a, of n elements and capacity c, holds the operations os in w. -/
def IsO (w : World) (a : Option Addr) (n c : Nat) (os : List OpE) : Prop :=
  os.length = n ∧ n ≤ c ∧ c ≤ 9223372036854775807 ∧
  (0 < n → ∃ b off, a = some ⟨b, off, none⟩ ∧ b < w.heap.size ∧ ∀ j v, (cO os)[j]? = some v → w.cell? ⟨b, off + j, none⟩ = some v)

/-- Every character is a byte. -/
def OkO (os : List OpE) : Prop := ∀ o ∈ os, 0 ≤ o.ch ∧ o.ch ≤ 255

theorem IsO.addr {w : World} {a : Option Addr} {n c : Nat} {os : List OpE} (h : IsO w a n c os) (hn : 0 < n) : ∃ b off, a = some ⟨b, off, none⟩ ∧ b < w.heap.size := by
  obtain ⟨b, off, e, hlt, _⟩ := h.2.2.2 hn
  exact ⟨b, off, e, hlt⟩
theorem IsO.at {w : World} {b off n c : Nat} {os : List OpE} (h : IsO w (some ⟨b, off, none⟩) n c os) (i : Nat) (hi : i < n) (hx : i < os.length) :
    w.cell? ⟨b, off + i * 5, none⟩ = some (.int .i64 os[i].kind) ∧ w.cell? ⟨b, off + i * 5 + 1, none⟩ = some (.int .i64 os[i].pos) ∧ w.cell? ⟨b, off + i * 5 + 2, none⟩ = some (.int .u8 os[i].ch) ∧
      w.cell? ⟨b, off + i * 5 + 3, none⟩ = some (.int .i64 os[i].cl) ∧ w.cell? ⟨b, off + i * 5 + 4, none⟩ = some (.int .i64 os[i].sq) := by
  obtain ⟨h1, h2, h3, h4⟩ := h
  obtain ⟨b', off', e, hlt, hc⟩ := h4 (by omega)
  have e' := Option.some.inj e
  simp at e'
  obtain ⟨rfl, rfl⟩ := e'
  obtain ⟨g0, g1, g2, g3, g4⟩ := cO_get os i hx
  exact ⟨hc _ _ g0, by rw [Nat.add_assoc]; exact hc _ _ g1, by rw [Nat.add_assoc]; exact hc _ _ g2, by rw [Nat.add_assoc]; exact hc _ _ g3, by rw [Nat.add_assoc]; exact hc _ _ g4⟩
theorem IsO.fr {S : Nat → Prop} {w w' : World} {a : Option Addr} {n c : Nat} {os : List OpE} (h : IsO w a n c os) (hb : Fr S w w') (hr : 0 < n → ∀ b off, a = some ⟨b, off, none⟩ → ¬ S b) : IsO w' a n c os := by
  obtain ⟨h1, h2, h3, h4⟩ := h
  refine ⟨h1, h2, h3, fun hn => ?_⟩
  obtain ⟨b, off, e, hlt, hc⟩ := h4 hn
  refine ⟨b, off, e, Nat.lt_of_lt_of_le hlt hb.size, fun j v hj => ?_⟩
  rw [hb.cell (p := ⟨b, off + j, none⟩) hlt (hr hn b off e)]
  exact hc j v hj
theorem IsO.below {w w' : World} {a : Option Addr} {n c : Nat} {os : List OpE} (h : IsO w a n c os) (hb : Below w.heap.size w w') : IsO w' a n c os :=
  h.fr (S := fun _ => False) (Fr.of_below hb) (fun _ _ _ _ h => h)
theorem IsO.take {w : World} {a : Option Addr} {n c : Nat} {os : List OpE} (h : IsO w a n c os) (m : Nat) (hm : m ≤ n) : IsO w a m c (os.take m) := by
  obtain ⟨h1, h2, h3, h4⟩ := h
  refine ⟨by simp; omega, by omega, h3, fun hn => ?_⟩
  obtain ⟨b, off, e, hlt, hc⟩ := h4 (by omega)
  refine ⟨b, off, e, hlt, fun j v hj => hc j v ?_⟩
  rw [← cO_take os m (by omega), List.getElem?_take] at hj
  split at hj
  · exact hj
  · cases hj
theorem OkO.take {os : List OpE} (h : OkO os) (m : Nat) : OkO (os.take m) := fun o ho => h o (List.mem_of_mem_take ho)

theorem Tryz.infoO : (Tryz.prog.info? 69).map (fun i => (i.zero, i.size, i.bytes)) = some (some (.agg #[.int .i64 0, .int .i64 0, .int .u8 0, .int .i64 0, .int .i64 0]), 5, 40) := by kernel_rfl

/-- Block g is a row of cap operations, the first N of them os. -/
def RowO (w : World) (g N cap : Nat) (os : List OpE) : Prop :=
  ∃ cur : List Value, w.heap[g]? = some (.cells cur.toArray 69 (0, 0)) ∧ cur.take (N * 5) = cO os ∧ os.length = N ∧ N ≤ cap ∧ cap ≤ 9223372036854775807 ∧ cur.length = cap * 5

theorem RowO.fr {S : Nat → Prop} {w w' : World} {g N cap : Nat} {os : List OpE} (h : RowO w g N cap os) (hF : Fr S w w') (hS : ¬ S g) : RowO w' g N cap os := by
  obtain ⟨cur, hh, r⟩ := h
  exact ⟨cur, hF.keeps hh hS, r⟩
theorem RowO.lt {w : World} {g N cap : Nat} {os : List OpE} (h : RowO w g N cap os) : g < w.heap.size := by
  obtain ⟨cur, hh, _⟩ := h
  exact block_lt hh
theorem RowO.isO {w : World} {g N cap : Nat} {os : List OpE} (h : RowO w g N cap os) : IsO w (some ⟨g, 0, none⟩) N cap os := by
  obtain ⟨cur, hh, ht, hl, hn, hm, hs⟩ := h
  refine ⟨hl, hn, hm, fun _ => ⟨g, 0, rfl, block_lt hh, fun j v hj => ?_⟩⟩
  rw [Nat.zero_add, cell_row hh, List.getElem?_toArray]
  rw [← ht, List.getElem?_take] at hj
  split at hj
  · exact hj
  · cases hj

/-- nil, or a row at the block. -/
def SO (w : World) (β : Option Nat) (v : Value) (os : List OpE) : Prop :=
  match β with
  | none => v = .slice none 0 0 ∧ os = []
  | some g => ∃ cap, v = .slice (some ⟨g, 0, none⟩) os.length cap ∧ RowO w g os.length cap os

theorem SO.fr {S : Nat → Prop} {w w' : World} {β : Option Nat} {v : Value} {os : List OpE} (h : SO w β v os) (hF : Fr S w w') (hS : ∀ g, β = some g → ¬ S g) : SO w' β v os := by
  cases β with
  | none => exact h
  | some g =>
    obtain ⟨cap, hv, hR⟩ := h
    exact ⟨cap, hv, hR.fr hF (hS g rfl)⟩
theorem SO.below {w w' : World} {β : Option Nat} {v : Value} {os : List OpE} (h : SO w β v os) (hb : Below w.heap.size w w') : SO w' β v os :=
  h.fr (S := fun _ => False) (Fr.of_below hb) (fun _ _ h => h)
theorem SO.lt {w : World} {β : Option Nat} {v : Value} {os : List OpE} (h : SO w β v os) : ∀ g, β = some g → g < w.heap.size := by
  rintro g rfl
  obtain ⟨cap, hv, hR⟩ := h
  exact hR.lt
theorem SO.form {w : World} {β : Option Nat} {v : Value} {os : List OpE} (h : SO w β v os) : ∃ a c, v = .slice a os.length c ∧ IsO w a os.length c os := by
  cases β with
  | none =>
    obtain ⟨rfl, rfl⟩ := h
    exact ⟨none, 0, rfl, ⟨rfl, Nat.le_refl _, by omega, fun h => by simp at h⟩⟩
  | some g =>
    obtain ⟨cap, rfl, hR⟩ := h
    exact ⟨_, cap, rfl, hR.isO⟩
def NowO (w w' : World) (β : Option Nat) (v : Value) (os : List OpE) : Prop := ∃ β', SO w' β' v os ∧ Moved w β β' ∧ Fr (fun k => β = some k) w w'

end Go.Proofs.YtfhghijefjhehaaGreatDoor

/-! Mb -/
namespace Go.Proofs.YtfhghijefjhehaaGreatDoor
open Go.RowKit Go.Lib
set_option linter.unusedVariables false

theorem sizeO' : (Tryz.prog.info? 69).map (·.size) = some 5 := by
  obtain ⟨i0, hi, hz0, hz1, hz2⟩ := info_parts Tryz.infoO
  rw [hi]
  simp [hz1]

theorem cO_split (xs : List OpE) (k : Nat) (hk : k < xs.length) : cO xs = cO (xs.take k) ++ (opc xs[k] ++ cO (xs.drop (k + 1))) := by
  rw [← cO_cons, ← cO_app]
  congr 1
  rw [← List.drop_eq_getElem_cons hk, List.take_append_drop]

theorem set_app (A B : List Value) (n j : Nat) (v : Value) (h : A.length = n) : (A ++ B).set (n + j) v = A ++ B.set j v := by
  rw [List.set_append_right _ _ (by omega), show n + j - A.length = j by omega]

theorem cO_set (xs : List OpE) (k : Nat) (a b c d e : Int) (hk : k < xs.length) :
    (((((cO xs).set (k * 5) (.int .i64 a)).set (k * 5 + 1) (.int .i64 b)).set (k * 5 + 2) (.int .u8 c)).set (k * 5 + 3) (.int .i64 d)).set (k * 5 + 4) (.int .i64 e) = cO (xs.set k ⟨a, b, c, d, e⟩) := by
  have hl : (cO (xs.take k)).length = k * 5 := by rw [cO_len, List.length_take]; congr 1; omega
  have es : xs.set k ⟨a, b, c, d, e⟩ = xs.take k ++ ⟨a, b, c, d, e⟩ :: xs.drop (k + 1) := by rw [List.set_eq_take_append_cons_drop, if_pos hk]
  rw [es, cO_app, cO_cons, cO_split xs k hk]
  have h0 : (cO (xs.take k) ++ (opc xs[k] ++ cO (xs.drop (k + 1)))).set (k * 5) (.int .i64 a) = cO (xs.take k) ++ (opc xs[k] ++ cO (xs.drop (k + 1))).set 0 (.int .i64 a) := set_app _ _ (k * 5) 0 _ hl
  rw [h0, set_app _ _ (k * 5) 1 _ hl, set_app _ _ (k * 5) 2 _ hl, set_app _ _ (k * 5) 3 _ hl, set_app _ _ (k * 5) 4 _ hl]
  simp [opc]

theorem RowO.set5 {w : World} {g N cap : Nat} {xs : List OpE} (h : RowO w g N cap xs) (k : Nat) (a b c d e : Int) (hk : k < N) :
    RowO (((((w.setCell ⟨g, k * 5, none⟩ (.int .i64 a)).setCell ⟨g, k * 5 + 1, none⟩ (.int .i64 b)).setCell ⟨g, k * 5 + 2, none⟩ (.int .u8 c)).setCell ⟨g, k * 5 + 3, none⟩ (.int .i64 d)).setCell ⟨g, k * 5 + 4, none⟩ (.int .i64 e)) g N cap (xs.set k ⟨a, b, c, d, e⟩) := by
  obtain ⟨cur, hh, ht, hl, hn, hm, hs⟩ := h
  refine ⟨((((cur.set (k * 5) (.int .i64 a)).set (k * 5 + 1) (.int .i64 b)).set (k * 5 + 2) (.int .u8 c)).set (k * 5 + 3) (.int .i64 d)).set (k * 5 + 4) (.int .i64 e), ?_, ?_, by simpa using hl, hn, hm, by simpa using hs⟩
  · have h1 := set_row hh (k * 5) (.int .i64 a)
    have h2 := set_row h1 (k * 5 + 1) (.int .i64 b)
    have h3 := set_row h2 (k * 5 + 2) (.int .u8 c)
    have h4 := set_row h3 (k * 5 + 3) (.int .i64 d)
    have h5 := set_row h4 (k * 5 + 4) (.int .i64 e)
    simpa using h5
  · rw [List.take_set, List.take_set, List.take_set, List.take_set, List.take_set, ht, cO_set xs k a b c d e (by omega)]

theorem RowO.at {w : World} {g N cap : Nat} {xs : List OpE} (h : RowO w g N cap xs) (k : Nat) (hk : k < N) (hx : k < xs.length) :
    w.cell? ⟨g, k * 5, none⟩ = some (.int .i64 xs[k].kind) ∧ w.cell? ⟨g, k * 5 + 1, none⟩ = some (.int .i64 xs[k].pos) ∧ w.cell? ⟨g, k * 5 + 2, none⟩ = some (.int .u8 xs[k].ch) ∧
      w.cell? ⟨g, k * 5 + 3, none⟩ = some (.int .i64 xs[k].cl) ∧ w.cell? ⟨g, k * 5 + 4, none⟩ = some (.int .i64 xs[k].sq) := by
  have := h.isO.at k hk hx
  rw [Nat.zero_add] at this
  exact this
theorem RowO.frozen {w : World} {g N cap : Nat} {xs : List OpE} (h : RowO w g N cap xs) (i : Nat) : w.frozen? ⟨g, i, none⟩ = false := by
  obtain ⟨cur, hh, _⟩ := h
  exact frozen_row hh i

def zop : OpE := ⟨0, 0, 0, 0, 0⟩

theorem made_zero (n : Nat) : (madeCells #[.int .i64 0, .int .i64 0, .int .u8 0, .int .i64 0, .int .i64 0] (n * 5)).toList = cO (List.replicate n zop) := by
  induction n with
  | zero => simp [madeCells, cO]
  | succ n ih =>
    have e : (madeCells #[.int .i64 0, .int .i64 0, .int .u8 0, .int .i64 0, .int .i64 0] ((n + 1) * 5)).toList = (madeCells #[.int .i64 0, .int .i64 0, .int .u8 0, .int .i64 0, .int .i64 0] (n * 5)).toList ++ [.int .i64 0, .int .i64 0, .int .u8 0, .int .i64 0, .int .i64 0] := by
      simp only [madeCells, Array.toList_map, Array.toList_range, show (n + 1) * 5 = n * 5 + 1 + 1 + 1 + 1 + 1 by omega, List.range_succ, List.map_append, List.map_cons, List.map_nil, List.append_assoc, List.cons_append, List.nil_append]
      congr 1
      have e0 : n * 5 % 5 = 0 := by omega
      have e1 : (n * 5 + 1) % 5 = 1 := by omega
      have e2 : (n * 5 + 1 + 1) % 5 = 2 := by omega
      have e3 : (n * 5 + 1 + 1 + 1) % 5 = 3 := by omega
      have e4 : (n * 5 + 1 + 1 + 1 + 1) % 5 = 4 := by omega
      simp [e0, e1, e2, e3, e4]
    rw [e, ih, List.replicate_succ', cO_app, cO_one]
    rfl

/-- A row of the call's own, from block base on. -/
def OwnO (w : World) (base : Nat) (v : Value) (xs : List OpE) : Prop := ∃ g c, base ≤ g ∧ v = .slice (some ⟨g, 0, none⟩) xs.length c ∧ RowO w g xs.length c xs

theorem OwnO.below {w w' : World} {base : Nat} {v : Value} {xs : List OpE} (h : OwnO w base v xs) (hb : Below w.heap.size w w') : OwnO w' base v xs := by
  obtain ⟨g, c, h1, h2, h3⟩ := h
  exact ⟨g, c, h1, h2, h3.fr (S := fun _ => False) (Fr.of_below hb) (fun h => h)⟩

/-- A copy of a whole line into a row of the call's own. -/
theorem run_copyO (w : World) (a : Option Addr) (n c m g : Nat) (xs : List OpE) (cur : List Value) (hE : IsO w a n c xs) (hg : w.heap[g]? = some (.cells cur.toArray 69 (0, 0))) (hl : cur.length = m * 5) (hm : n ≤ m) (hm63 : m ≤ 9223372036854775807) :
    ∃ w', (∀ ty, (Builtin.copy_ #[63, 63] ty #[.slice (some ⟨g, 0, none⟩) n m, .slice a n c]).run Tryz.prog w = .ok (goInt n) w') ∧ RowO w' g n m xs ∧ Fr (· = g) w w' := by
  obtain ⟨h1, h2, h3, h4⟩ := hE
  by_cases h0 : n = 0
  · subst h0
    obtain rfl := List.eq_nil_of_length_eq_zero h1
    exact ⟨w, fun ty => run_copy_zero w _ _ ty 69 _ _ _ _ _ _ 5 Tryz.underlying63 sizeO' (Nat.min_self _), ⟨cur, hg, by simp [cO_nil], rfl, hm, hm63, hl⟩, Fr.refl _ _⟩
  · obtain ⟨b, off, rfl, hlt, hc⟩ := h4 (by omega)
    have hcl : (cO xs).length = n * 5 := by rw [cO_len, h1]
    refine ⟨_, fun ty => run_copy_k w 63 63 ty 69 5 g 0 n m ⟨b, off, none⟩ n c n cur 69 (cO xs) Tryz.underlying63 sizeO' hg (Nat.min_self _).symm hcl (fun j v hj => by rw [add_lit]; exact hc j v hj) (by rw [hcl, hl]; omega) (cO_one' _), ?_, Fr.setRow _ _ _ rfl⟩
    refine ⟨_, setRow_heap w g _ _ 69 _ hg, ?_, h1, hm, hm63, by rw [length_splice _ _ _ (by rw [hcl, hl]; omega), hl]⟩
    have := splice_take_end cur 0 (cO xs) (Nat.zero_le _)
    rw [Nat.zero_add, hcl] at this
    simpa using this

end Go.Proofs.YtfhghijefjhehaaGreatDoor

/-! Na -/
namespace Go.Proofs.YtfhghijefjhehaaGreatDoor
open Go.RowKit
set_option linter.unusedVariables false

set_option maxRecDepth 100000 in
set_option maxHeartbeats 4000000 in
theorem copied_any (a : Option Addr) (n c : Nat) (xs : List OpE) (w : World) (hE : IsO w a n c xs) (hn : n * 40 ≤ 281474976710656) :
    Calls Tryz.prog 128 #[.slice a n c] w fun e w' => ∃ v, e = .returned v ∧ OwnO w' w.heap.size v xs ∧ Below w.heap.size w w' := by
  obtain ⟨i0, hi0, hz0, hz1, hz2⟩ := info_parts Tryz.infoO
  have HE := hd hE
  have HN : Hid (xs.length = n) := hE.1
  have n63 : n ≤ 9223372036854775807 := by omega
  clear hE
  go_enter Tryz.func128, Tryz.ntmps128
  go_wp2_with (first | (at_make; refine wpList_make_k _ rfl _ _ 63 rfl 69 i0 _ Tryz.underlying63 hi0 hz0 _ _ _ _ n n rfl rfl rfl rfl (Nat.le_refl _) (by rw [hz2]; omega) (by omega) ?_; intro w3 cur hg3 hcur hb3) | fail)
  have hl3 : cur.length = n * 5 := by
    have := hcur.out
    rw [hz1] at this
    rw [this, show (Value.agg #[.int .i64 0, .int .i64 0, .int .u8 0, .int .i64 0, .int .i64 0]).cells = #[.int .i64 0, .int .i64 0, .int .u8 0, .int .i64 0, .int .i64 0] from rfl, made_zero, cO_len]
    simp
  obtain ⟨w4, hr4, hR4, hF4⟩ := run_copyO w3 a n c n w.heap.size xs cur (HE.out.below hb3.out) hg3.out hl3 (Nat.le_refl _) n63
  have R : Hid (OwnO w4 w.heap.size (.slice (some ⟨w.heap.size, 0, none⟩) n n) xs ∧ Below w.heap.size w w4) := by
    refine ⟨⟨_, n, Nat.le_refl _, by rw [HN.out], by rw [HN.out]; exact hR4⟩, hb3.out.trans (hF4.below hb3.out.size (fun k h => by rw [h]; exact Nat.le_refl _))⟩
  clear hg3 hcur hb3 hi0 hz0 hz1 hz2 hl3 hR4 hF4
  rw [hr4]
  go_wp2
  go_ret
  exact ⟨_, rfl, R.out⟩

end Go.Proofs.YtfhghijefjhehaaGreatDoor

/-! Ha -/
namespace Go.Proofs.YtfhghijefjhehaaGreatDoor
set_option linter.unusedVariables false

structure Ed where
  tag : Int
  o : OpE
structure Ev where
  step : Int
  site : Int
  hav : Int
  made : Int
  o : OpE
  len : Nat

section
variable (chg : OpE → Prop) (C : Int) (log : List Ed)

/-- The places of a client's edits among the first k. -/
def lgAt : Nat → Int → List Nat
  | 0, _ => []
  | k + 1, c => lgAt k c ++ (match log[k]? with | some e => if e.o.cl = c then [k] else [] | none => [])
/-- The document's: the last Seq, the last Tag of a client. -/
def sqAt : Nat → Int → Int
  | 0, _ => 0
  | k + 1, c => match log[k]? with | some e => if e.o.cl = c then e.o.sq else sqAt k c | none => sqAt k c
def tgAt : Nat → Int → Int
  | 0, _ => 0
  | k + 1, c => match log[k]? with | some e => if e.o.cl = c then e.tag else tgAt k c | none => tgAt k c
/-- The program's least tag. -/
def lstAt (k : Nat) (c : Int) : Int := match (lgAt log k c).getLast? with
  | some j => match log[j]? with | some e => e.tag | none => 0
  | none => 0

/-- The program's test of the log's edit k, and the document's. -/
def canP (k : Nat) (e : Ed) : Prop := chg e.o ∧ e.o.cl ≤ C ∧ e.o.sq = ((lgAt log k e.o.cl).length : Int) + 1 ∧ lstAt log k e.o.cl ≤ e.tag ∧ e.tag ≤ (k : Int)
def canD (k : Nat) (e : Ed) : Prop := chg e.o ∧ e.o.cl ≤ C ∧ e.o.sq = sqAt log k e.o.cl + 1 ∧ tgAt log k e.o.cl ≤ e.tag ∧ e.tag ≤ (k : Int)
def GoodL (k : Nat) : Prop := ∀ i e, i < k → log[i]? = some e → canP chg C log i e

variable {chg C log}
theorem lstAt_eq (k : Nat) (c : Int) : lstAt log k c = tgAt log k c := by
  induction k with
  | zero => rfl
  | succ k ih =>
    unfold lstAt at ih ⊢
    cases h : log[k]? with
    | none => simp only [lgAt, tgAt, h, List.append_nil]; exact ih
    | some e =>
      by_cases hc : e.o.cl = c
      · simp [lgAt, tgAt, h, hc]
      · simp only [lgAt, tgAt, h, if_neg hc, List.append_nil]; exact ih
theorem len_eq {k : Nat} (h : GoodL chg C log k) (c : Int) : ((lgAt log k c).length : Int) = sqAt log k c := by
  induction k with
  | zero => rfl
  | succ k ih =>
    have ih := ih (fun i e hi => h i e (by omega))
    cases hk : log[k]? with
    | none => simp only [lgAt, sqAt, hk, List.append_nil]; exact ih
    | some e =>
      by_cases hc : e.o.cl = c
      · have := (h k e (by omega) hk).2.2.1
        rw [hc] at this
        simp [lgAt, sqAt, hk, hc]
        omega
      · simp only [lgAt, sqAt, hk, if_neg hc, List.append_nil]; exact ih
/-- Both ask the same of the log's edit k. -/
theorem can_iff {k : Nat} (h : GoodL chg C log k) (e : Ed) : canP chg C log k e ↔ canD chg C log k e := by
  unfold canP canD
  rw [len_eq h, lstAt_eq]

theorem lgAt_lt {k j : Nat} {c : Int} (h : j ∈ lgAt log k c) : j < k ∧ ∃ e, log[j]? = some e ∧ e.o.cl = c := by
  induction k with
  | zero => simp [lgAt] at h
  | succ k ih =>
    simp only [lgAt, List.mem_append] at h
    rcases h with h | h
    · obtain ⟨a, b⟩ := ih h
      exact ⟨by omega, b⟩
    · cases hk : log[k]? with
      | none => rw [hk] at h; simp at h
      | some e =>
        rw [hk] at h
        by_cases hc : e.o.cl = c
        · simp [hc] at h
          subst h
          exact ⟨by omega, e, hk, hc⟩
        · simp [hc] at h
theorem mem_lgAt {k j : Nat} {c : Int} {e : Ed} (hj : j < k) (he : log[j]? = some e) (hc : e.o.cl = c) : j ∈ lgAt log k c := by
  induction k with
  | zero => omega
  | succ k ih =>
    simp only [lgAt, List.mem_append]
    by_cases h : j = k
    · subst h
      exact .inr (by simp [he, hc])
    · exact .inl (ih (by omega))
/-- The places rise. -/
theorem lgAt_sorted (k : Nat) (c : Int) : (lgAt log k c).Pairwise (· < ·) := by
  induction k with
  | zero => exact List.Pairwise.nil
  | succ k ih =>
    simp only [lgAt]
    rw [List.pairwise_append]
    refine ⟨ih, ?_, fun a ha b hb => ?_⟩
    · split
      · split <;> simp
      · simp
    · have := (lgAt_lt ha).1
      have hb' : b = k := by
        revert hb
        split
        · split <;> simp
        · simp
      omega
/-- The j-th of a client's edits has the Seq j + 1. -/
theorem lgAt_seq {k : Nat} (h : GoodL chg C log k) (c : Int) (j : Nat) (hj : j < (lgAt log k c).length) : ∃ e, log[(lgAt log k c)[j]]? = some e ∧ e.o.cl = c ∧ e.o.sq = (j : Int) + 1 := by
  induction k with
  | zero => simp [lgAt] at hj
  | succ k ih =>
    have ih := ih (fun i e hi => h i e (by omega))
    cases hk : log[k]? with
    | none =>
      have e1 : lgAt log (k + 1) c = lgAt log k c := by simp [lgAt, hk]
      simp only [e1] at hj ⊢
      exact ih hj
    | some e =>
      by_cases hc : e.o.cl = c
      · have e1 : lgAt log (k + 1) c = lgAt log k c ++ [k] := by simp [lgAt, hk, hc]
        simp only [e1] at hj ⊢
        rw [List.length_append, List.length_singleton] at hj
        by_cases hl : j < (lgAt log k c).length
        · rw [List.getElem_append_left hl]
          exact ih hl
        · have hjl : j = (lgAt log k c).length := by omega
          subst hjl
          rw [List.getElem_append_right (Nat.le_refl _)]
          simp only [Nat.sub_self, List.getElem_singleton]
          have := (h k e (by omega) hk).2.2.1
          rw [hc] at this
          exact ⟨e, hk, hc, this⟩
      · have e1 : lgAt log (k + 1) c = lgAt log k c := by simp [lgAt, hk, hc]
        simp only [e1] at hj ⊢
        exact ih hj

/-- How many of the first m edits are the client's (the document's ownAmong). -/
def ownN (m : Nat) (c : Int) : Nat := ((lgAt log log.length c).filter (fun j => decide (j < m))).length
theorem count_lt : ∀ {l : List Nat} (hs : l.Pairwise (· < ·)) (m n : Nat), n < (l.filter (fun j => decide (j < m))).length ↔ ∃ h : n < l.length, l[n] < m
  | [], _, m, n => by simp
  | a :: l, hs, m, n => by
    rw [List.pairwise_cons] at hs
    by_cases ha : a < m
    · rw [List.filter_cons_of_pos (by simpa using ha)]
      cases n with
      | zero => simp [ha]
      | succ n =>
        simp only [List.length_cons, Nat.add_lt_add_iff_right, List.getElem_cons_succ]
        rw [count_lt hs.2 m n]
    · have : (a :: l).filter (fun j => decide (j < m)) = [] := by
        rw [List.filter_eq_nil_iff]
        intro x hx
        rcases List.mem_cons.1 hx with rfl | hx
        · simpa using ha
        · have := hs.1 x hx
          simp
          omega
      rw [this]
      simp only [List.length_nil, Nat.not_lt_zero, false_iff, not_exists]
      intro h hh
      cases n with
      | zero => exact ha hh
      | succ n =>
        have hn : n < l.length := by simpa using h
        have := hs.1 l[n] (List.getElem_mem hn)
        simp only [List.getElem_cons_succ] at hh
        omega
/-- hasUnmade of the program: more than made of the client's edits are among the first hav. -/
theorem unmade_iff (c : Int) (made hav : Nat) : (∃ h : made < (lgAt log log.length c).length, (lgAt log log.length c)[made] < hav) ↔ ¬ (ownN (log := log) hav c ≤ made) := by
  rw [Nat.not_le]
  exact (count_lt (lgAt_sorted _ _) hav made).symm

/-- isAsLogged of the program is the document's loop. -/
theorem logged_iff (h : GoodL chg C log log.length) (c : Int) (q : Nat) (x : Ed) :
    (∀ hq : q < (lgAt log log.length c).length, log[(lgAt log log.length c)[q]]? = some x) ↔ ∀ (k : Nat) (e : Ed), log[k]? = some e → e.o.cl = c → e.o.sq = (q : Int) + 1 → e = x := by
  constructor
  · intro hx k e hk hc hs
    have hm : k ∈ lgAt log log.length c := mem_lgAt (List.getElem?_eq_some_iff.1 hk).1 hk hc
    obtain ⟨j, hj, rfl⟩ := List.getElem_of_mem hm
    obtain ⟨e', h1, -, h3⟩ := lgAt_seq h c j hj
    rw [hk] at h1
    injection h1 with h1
    subst h1
    have : j = q := by omega
    subst this
    have := hx hj
    rw [hk] at this
    injection this
  · intro hx hq
    obtain ⟨e, h1, h2, h3⟩ := lgAt_seq h c q hq
    rw [h1, hx _ e h1 h2 h3]
end

end Go.Proofs.YtfhghijefjhehaaGreatDoor

/-! Hb -/
namespace Go.Proofs.YtfhghijefjhehaaGreatDoor
set_option linter.unusedVariables false

def zo : OpE := ⟨0, 0, 0, 0, 0⟩
def zev : Ev := ⟨0, 0, 0, 0, zo, 0⟩

section
variable (evs : List Ev)
/-- The numbers of a site's events among the first i. -/
def shAt : Nat → Int → List Nat
  | 0, _ => []
  | k + 1, c => shAt k c ++ (match evs[k]? with | some e => if e.site = c then [k] else [] | none => [])
/-- The event before (of the same site). -/
def pv : Nat → Int → Ev
  | 0, _ => zev
  | k + 1, c => match evs[k]? with | some e => if e.site = c then e else pv k c | none => pv k c
/-- How many edits a site has made. -/
noncomputable def dn : Nat → Int → Nat
  | 0, _ => 0
  | k + 1, c => open Classical in match evs[k]? with | some e => if e.site = c ∧ e.o ≠ zo then dn k c + 1 else dn k c | none => dn k c

/-- The program's event(last(site)). -/
theorem pv_last (k : Nat) (c : Int) : pv evs k c = match (shAt evs k c).getLast? with | some j => (evs[j]?).getD zev | none => zev := by
  induction k with
  | zero => rfl
  | succ k ih =>
    cases h : evs[k]? with
    | none => simp only [shAt, pv, h, List.append_nil]; exact ih
    | some e =>
      by_cases hc : e.site = c
      · simp [shAt, pv, h, hc]
      · simp only [shAt, pv, h, if_neg hc, List.append_nil]; exact ih

/-- What is known of an event that can be. -/
def FactE (log : List Ed) (j : Nat) (e : Ev) : Prop :=
  (e.site = 0 → e.o = zo) ∧ (e.site ≠ 0 → e.o = zo → e.made = (pv evs j e.site).made) ∧
  (e.site ≠ 0 → e.o ≠ zo → e.o.cl = e.site ∧ e.o.sq = e.made ∧ e.made = (pv evs j e.site).made + 1 ∧ ∀ (k : Nat) (x : Ed), log[k]? = some x → x.o.cl = e.site → x.o.sq = e.made → x = ⟨e.hav, e.o⟩)
variable {evs} {log : List Ed}

theorem made_dn {i : Nat} (h : ∀ j e, j < i → evs[j]? = some e → FactE evs log j e) {c : Int} (hc : c ≠ 0) : (pv evs i c).made = (dn evs i c : Int) := by
  induction i with
  | zero => rfl
  | succ i ih =>
    have ih := ih (fun j e hj => h j e (by omega))
    cases hi : evs[i]? with
    | none => simp only [pv, dn, hi]; exact ih
    | some e =>
      have hf := h i e (by omega) hi
      by_cases hs : e.site = c
      · by_cases ho : e.o = zo
        · simp only [pv, dn, hi, if_pos hs, if_neg (fun h : e.site = c ∧ e.o ≠ zo => h.2 ho)]
          rw [hf.2.1 (by rw [hs]; exact hc) ho, hs]
          exact ih
        · simp only [pv, dn, hi, if_pos hs, if_pos (And.intro hs ho)]
          have := (hf.2.2 (by rw [hs]; exact hc) ho).2.2.1
          rw [hs] at this
          omega
      · simp only [pv, dn, hi, if_neg hs, if_neg (fun h : e.site = c ∧ e.o ≠ zo => hs h.1)]
        exact ih

theorem dn_mono {i j : Nat} (hij : i ≤ j) (c : Int) : dn evs i c ≤ dn evs j c := by
  induction j with
  | zero =>
    obtain rfl : i = 0 := by omega
    exact Nat.le_refl _
  | succ j ih =>
    by_cases e : i = j + 1
    · subst e
      exact Nat.le_refl _
    · refine Nat.le_trans (ih (by omega)) ?_
      simp only [dn]
      split
      · split <;> omega
      · exact Nat.le_refl _

theorem ex_dn {i : Nat} (h : ∀ j e, j < i → evs[j]? = some e → FactE evs log j e) {c : Int} (hc : c ≠ 0) {q : Nat} (h1 : 1 ≤ q) (h2 : q ≤ dn evs i c) : ∃ j e, j < i ∧ evs[j]? = some e ∧ e.site = c ∧ e.o ≠ zo ∧ e.made = (q : Int) := by
  induction i with
  | zero => simp [dn] at h2; omega
  | succ i ih =>
    have h' : ∀ j e, j < i → evs[j]? = some e → FactE evs log j e := fun j e hj => h j e (by omega)
    by_cases hq : q ≤ dn evs i c
    · obtain ⟨j, e, a, b⟩ := ih h' hq
      exact ⟨j, e, by omega, b⟩
    · cases hi : evs[i]? with
      | none => simp only [dn, hi] at h2; omega
      | some e =>
        by_cases hs : e.site = c ∧ e.o ≠ zo
        · refine ⟨i, e, by omega, hi, hs.1, hs.2, ?_⟩
          have hf := (h i e (by omega) hi).2.2 (by rw [hs.1]; exact hc) hs.2
          have hm := made_dn h' hc
          simp only [dn, hi, if_pos hs] at h2
          have := hf.2.2.1
          rw [hs.1] at this
          omega
        · simp only [dn, hi, if_neg hs] at h2
          omega

/-- The program's last loop (Seq is not above the edits made) is the document's makes. -/
theorem makes_iff (h : ∀ j e, j < evs.length → evs[j]? = some e → FactE evs log j e) {k : Nat} {x : Ed} (hk : log[k]? = some x) (hx : x.o ≠ zo) (hcl : x.o.cl ≠ 0) (hsq : 1 ≤ x.o.sq) :
    (∃ (j : Nat) (e : Ev), evs[j]? = some e ∧ e.o ≠ zo ∧ e.o = x.o) ↔ x.o.sq ≤ (dn evs evs.length x.o.cl : Int) := by
  constructor
  · rintro ⟨j, e, hj, ho, he⟩
    have hjl := (List.getElem?_eq_some_iff.1 hj).1
    have hf := h j e hjl hj
    have hs : e.site ≠ 0 := fun hs => ho (hf.1 hs)
    obtain ⟨a1, a2, a3, -⟩ := hf.2.2 hs ho
    have hm := made_dn (i := j) (fun j' e' hj' => h j' e' (by omega)) hs
    have hd : dn evs (j + 1) e.site = dn evs j e.site + 1 := by simp only [dn, hj, if_pos (And.intro rfl ho)]
    have := dn_mono (evs := evs) (show j + 1 ≤ evs.length by omega) e.site
    rw [he] at a1 a2
    rw [a1]
    omega
  · intro hle
    obtain ⟨q, hq⟩ : ∃ q : Nat, x.o.sq = (q : Int) := ⟨x.o.sq.toNat, by omega⟩
    obtain ⟨j, e, hj, hje, hs, ho, hm⟩ := ex_dn h hcl (q := q) (by omega) (by omega)
    refine ⟨j, e, hje, ho, ?_⟩
    obtain ⟨-, -, -, a4⟩ := (h j e hj hje).2.2 (by rw [hs]; exact hcl) ho
    have := a4 k x hk hs.symm (by omega)
    rw [this]
end

end Go.Proofs.YtfhghijefjhehaaGreatDoor

/-! Hc -/
namespace Go.Proofs.YtfhghijefjhehaaGreatDoor
set_option linter.unusedVariables false

section
variable (chg : OpE → Prop) (fit : Nat → OpE → Prop) (C : Int) (log : List Ed)

/-- hasUnmade, isAsLogged of the program. -/
def unm (c made hav : Int) : Prop := ∃ (q : Nat) (h : q < (lgAt log log.length c).length), (q : Int) = made ∧ (((lgAt log log.length c)[q] : Nat) : Int) < hav
def asL (x : Ed) : Prop := ((lgAt log log.length x.o.cl).length : Int) < x.o.sq ∨ ∃ (q : Nat) (h : q < (lgAt log log.length x.o.cl).length), (q : Int) + 1 = x.o.sq ∧ log[(lgAt log log.length x.o.cl)[q]]? = some x

/-- The program: canFollow and canShow (st: the step of the event ahead; p: the site's event before). -/
def canS (st : Int) (p e : Ev) : Prop :=
  (0 ≤ e.site ∧ e.site ≤ C ∧ st ≤ e.step ∧ e.len ≤ 4096) ∧ (p.hav ≤ e.hav ∧ e.hav ≤ log.length) ∧
  ((e.site = 0 ∧ e.made = 0 ∧ e.o = zo) ∨ (e.site ≠ 0 ∧ e.o ≠ zo ∧ (e.o.cl = e.site ∧ e.o.sq = e.made ∧ e.made = p.made + 1 ∧ e.hav = p.hav) ∧ chg e.o ∧ fit p.len e.o ∧ asL log ⟨e.hav, e.o⟩) ∨ (e.site ≠ 0 ∧ e.o = zo ∧ e.made = p.made ∧ ¬ unm log e.site e.made e.hav))
/-- The document: can. -/
def canR (st : Int) (p e : Ev) : Prop :=
  (0 ≤ e.site ∧ e.site ≤ C ∧ st ≤ e.step ∧ e.len ≤ 4096 ∧ p.hav ≤ e.hav ∧ e.hav ≤ log.length) ∧
  ((e.site = 0 ∧ e.made = 0 ∧ e.o = zo) ∨ (e.site ≠ 0 ∧ e.o = zo ∧ e.made = p.made ∧ ((ownN (log := log) e.hav.toNat e.site : Nat) : Int) ≤ e.made) ∨
   (e.site ≠ 0 ∧ e.o ≠ zo ∧ chg e.o ∧ e.o.cl = e.site ∧ e.o.sq = e.made ∧ e.made = p.made + 1 ∧ e.hav = p.hav ∧ fit p.len e.o ∧ ∀ (k : Nat) (x : Ed), log[k]? = some x → x.o.cl = e.site → x.o.sq = e.made → x = ⟨e.hav, e.o⟩))

variable {chg fit C log}
theorem unm_iff (c made hav : Int) (hm : 0 ≤ made) (hh : 0 ≤ hav) : ¬ unm log c made hav ↔ ((ownN (log := log) hav.toNat c : Nat) : Int) ≤ made := by
  obtain ⟨m, rfl⟩ : ∃ m : Nat, made = (m : Int) := ⟨made.toNat, by omega⟩
  obtain ⟨n, rfl⟩ : ∃ n : Nat, hav = (n : Int) := ⟨hav.toNat, by omega⟩
  have h := unmade_iff (log := log) c m n
  have e : unm log c (m : Int) (n : Int) ↔ ∃ h : m < (lgAt log log.length c).length, (lgAt log log.length c)[m] < n := by
    unfold unm
    constructor
    · rintro ⟨q, hq, e1, e2⟩
      have : q = m := by omega
      subst this
      exact ⟨hq, by omega⟩
    · rintro ⟨hq, e2⟩
      exact ⟨m, hq, rfl, by omega⟩
  rw [e, h, Decidable.not_not, Int.toNat_natCast]
  omega
theorem asL_iff (h : GoodL chg C log log.length) (x : Ed) (hs : 1 ≤ x.o.sq) : asL log x ↔ ∀ (k : Nat) (y : Ed), log[k]? = some y → y.o.cl = x.o.cl → y.o.sq = x.o.sq → y = x := by
  obtain ⟨q, hq⟩ : ∃ q : Nat, x.o.sq = (q : Int) + 1 := ⟨(x.o.sq - 1).toNat, by omega⟩
  have := logged_iff h x.o.cl q x
  rw [hq, ← this]
  unfold asL
  constructor
  · rintro (a | ⟨q', h', e1, e2⟩) hl
    · omega
    · have : q' = q := by omega
      subst this
      exact e2
  · intro hx
    by_cases hl : q < (lgAt log log.length x.o.cl).length
    · exact .inr ⟨q, hl, hq.symm, hx hl⟩
    · exact .inl (by omega)

/-- Both ask the same. -/
theorem canS_iff (hg : GoodL chg C log log.length) (hch : ∀ o, chg o → 1 ≤ o.sq) {st : Int} {p e : Ev} (hp : 0 ≤ p.hav) (hm : 0 ≤ p.made) : canS chg fit C log st p e ↔ canR chg fit C log st p e := by
  unfold canS canR
  constructor
  · rintro ⟨⟨a1, a2, a3, a4⟩, ⟨a5, a6⟩, h⟩
    refine ⟨⟨a1, a2, a3, a4, a5, a6⟩, ?_⟩
    rcases h with h | ⟨h1, h2, ⟨h3, h4, h5, h6⟩, h7, h8, h9⟩ | ⟨h1, h2, h3, h4⟩
    · exact .inl h
    · refine .inr (.inr ⟨h1, h2, h7, h3, h4, h5, h6, h8, ?_⟩)
      have := (asL_iff hg ⟨e.hav, e.o⟩ (hch _ h7)).1 h9
      intro k x hk hc hs
      exact this k x hk (by rw [hc]; exact h3.symm) (by rw [hs]; exact h4.symm)
    · exact .inr (.inl ⟨h1, h2, h3, (unm_iff _ _ _ (by omega) (by omega)).1 h4⟩)
  · rintro ⟨⟨a1, a2, a3, a4, a5, a6⟩, h⟩
    refine ⟨⟨a1, a2, a3, a4⟩, ⟨a5, a6⟩, ?_⟩
    rcases h with h | ⟨h1, h2, h3, h4⟩ | ⟨h1, h2, h7, h3, h4, h5, h6, h8, h9⟩
    · exact .inl h
    · exact .inr (.inr ⟨h1, h2, h3, (unm_iff _ _ _ (by omega) (by omega)).2 h4⟩)
    · refine .inr (.inl ⟨h1, h2, ⟨h3, h4, h5, h6⟩, h7, h8, ?_⟩)
      refine (asL_iff hg ⟨e.hav, e.o⟩ (hch _ h7)).2 (fun k x hk hc hs => ?_)
      exact h9 k x hk (hc.trans h3) (hs.trans h4)

/-- What can be is known as the last loop wants it. -/
theorem canR.fact {evs : List Ev} {j : Nat} {st : Int} {e : Ev} (h : canR chg fit C log st (pv evs j e.site) e) : FactE evs log j e := by
  obtain ⟨-, h⟩ := h
  rcases h with ⟨h1, h2, h3⟩ | ⟨h1, h2, h3, h4⟩ | ⟨h1, h2, h7, h3, h4, h5, h6, h8, h9⟩
  · exact ⟨fun _ => h3, fun a => absurd h1 a, fun a => absurd h1 a⟩
  · exact ⟨fun a => absurd a h1, fun _ _ => h3, fun _ a => absurd h2 a⟩
  · exact ⟨fun a => absurd a h1, fun _ a => absurd a h2, fun _ _ => ⟨h3, h4, h5, h9⟩⟩
end

end Go.Proofs.YtfhghijefjhehaaGreatDoor

/-! Hd -/
namespace Go.Proofs.YtfhghijefjhehaaGreatDoor
open Go.RowKit
set_option linter.unusedVariables false

def chP (o : OpE) : Bool := decide (o.kind ≠ 0) && decide (validP o = 0)
theorem chP_iff (o : OpE) : chP o = true ↔ o.kind ≠ 0 ∧ validP o = 0 := by simp [chP]

set_option maxRecDepth 100000 in
set_option maxHeartbeats 2000000 in
theorem isEdit_any (k p c l s : Int) (w : World) (h0 : 0 ≤ c) (h1 : c ≤ 255) :
    Calls Tryz.prog 78 #[.agg #[.int .i64 k, .int .i64 p, .int .u8 c, .int .i64 l, .int .i64 s]] w fun e w' => e = .returned (.bool (chP ⟨k, p, c, l, s⟩)) ∧ Below w.heap.size w w' := by
  have CV := hd (fun W => valid_any k p c l s W h0 h1)
  have hP : Hid (chP ⟨k, p, c, l, s⟩ = (decide (k ≠ 0) && decide (validP ⟨k, p, c, l, s⟩ = 0))) := rfl
  generalize chP ⟨k, p, c, l, s⟩ = b at *
  generalize validP ⟨k, p, c, l, s⟩ = r at *
  have B1 := hd ((Below.refl w.heap.size w).alloc (Nat.le_refl _) (.cells #[.int .i64 k, .int .i64 p, .int .u8 c, .int .i64 l, .int .i64 s] 69))
  by_cases hk : k = 0
  · subst hk
    have hb : b = false := by rw [hP.out]; simp
    subst hb
    go_enter Tryz.func78, Tryz.ntmps78
    go_wp2_with fail
    go_ret
    exact ⟨rfl, B1.out⟩
  · have k1 : (k == 0) = false := by simpa using hk
    by_cases hr : r = 0
    · subst hr
      have hb : b = true := by rw [hP.out]; simp [hk]
      subst hb
      go_enter Tryz.func78, Tryz.ntmps78
      go_wp2_with fail
      refine (CV.out _).mono ?_
      rintro e w1 ⟨rfl, b1⟩
      have Z := hd (B1.out.trans (b1.mono B1.out.size))
      clear b1
      go_wp2
      go_ret
      exact ⟨by simp [hk], Z.out⟩
    · have hb : b = false := by rw [hP.out]; simp [hr]
      subst hb
      have r1 : (r == 0) = false := by simpa using hr
      go_enter Tryz.func78, Tryz.ntmps78
      go_wp2_with fail
      refine (CV.out _).mono ?_
      rintro e w1 ⟨rfl, b1⟩
      have Z := hd (B1.out.trans (b1.mono B1.out.size))
      clear b1
      go_wp2
      go_ret
      exact ⟨rfl, Z.out⟩

/-- An event in memory or in a slot: ten cells. -/
def evc (e : Ev) (d : Value) : Array Value := #[.int .i64 e.step, .int .i64 e.site, .int .i64 e.hav, .int .i64 e.made, .int .i64 e.o.kind, .int .i64 e.o.pos, .int .u8 e.o.ch, .int .i64 e.o.cl, .int .i64 e.o.sq, d]

def zoB (o : OpE) : Bool := o.kind == 0 && o.pos == 0 && o.ch == 0 && o.cl == 0 && o.sq == 0
theorem zoB_iff (o : OpE) : zoB o = true ↔ o = zo := by
  obtain ⟨k, p, c, l, s⟩ := o
  simp [zoB, zo, and_assoc]

set_option maxRecDepth 100000 in
set_option maxHeartbeats 2000000 in
theorem hmakes_any (st si ha ma k p c l s : Int) (a : Option Addr) (n cp : Nat) (w : World) :
    Calls Tryz.prog 81 #[.agg #[.int .i64 st, .int .i64 si, .int .i64 ha, .int .i64 ma, .int .i64 k, .int .i64 p, .int .u8 c, .int .i64 l, .int .i64 s, .slice a n cp]] w fun e w' => e = .returned (.bool (!zoB ⟨k, p, c, l, s⟩)) ∧ Below w.heap.size w w' := by
  go_enter Tryz.func81, Tryz.ntmps81
  go_wp2
  all_goals
    go_ret
    exact ⟨by simp [zoB, *], (Below.refl _ _).alloc (Nat.le_refl _) _⟩

set_option maxRecDepth 100000 in
set_option maxHeartbeats 2000000 in
theorem editOf_any (st si ha ma k p c l s : Int) (a : Option Addr) (n cp : Nat) (w : World) :
    Calls Tryz.prog 84 #[.agg #[.int .i64 st, .int .i64 si, .int .i64 ha, .int .i64 ma, .int .i64 k, .int .i64 p, .int .u8 c, .int .i64 l, .int .i64 s, .slice a n cp]] w fun e w' => e = .returned (.agg #[.int .i64 ha, .int .i64 k, .int .i64 p, .int .u8 c, .int .i64 l, .int .i64 s]) ∧ Below w.heap.size w w' := by
  go_enter Tryz.func84, Tryz.ntmps84
  go_wp2
  refine bodyPost_ret (v := .agg #[.int .i64 ha, .int .i64 k, .int .i64 p, .int .u8 c, .int .i64 l, .int .i64 s]) (by simp [results, Tryz.results84, go_sem]) rfl ?_
  exact ⟨rfl, by repeat (first | exact Below.refl _ _ | refine Below.alloc ?_ (by simp) _ | refine Below.setCell ?_ (by simp) _)⟩

set_option maxRecDepth 100000 in
set_option maxHeartbeats 2000000 in
theorem elemOf_any (k p c l s : Int) (w : World) :
    Calls Tryz.prog 59 #[.agg #[.int .i64 k, .int .i64 p, .int .u8 c, .int .i64 l, .int .i64 s]] w fun e w' => e = .returned (.agg #[.int .u8 c, .int .i64 l, .int .i64 s]) ∧ Below w.heap.size w w' := by
  go_enter Tryz.func59, Tryz.ntmps59
  go_wp2
  refine bodyPost_ret (v := .agg #[.int .u8 c, .int .i64 l, .int .i64 s]) (by simp [results, Tryz.results59, go_sem]) rfl ?_
  exact ⟨rfl, by repeat (first | exact Below.refl _ _ | refine Below.alloc ?_ (by simp) _ | refine Below.setCell ?_ (by simp) _)⟩

end Go.Proofs.YtfhghijefjhehaaGreatDoor

/-! Hf -/
namespace Go.Proofs.YtfhghijefjhehaaGreatDoor
open Go.RowKit
set_option linter.unusedVariables false

theorem wrap64_id {n : Int} (h0 : -9223372036854775808 ≤ n) (h1 : n ≤ 9223372036854775807) : wrap64 n = n := by rw [wrap64]; omega

/-- A log in memory. -/
def IsL (w : World) (a : Option Addr) (n : Nat) (log : List Ed) : Prop :=
  log.length = n ∧ (0 < n → ∃ b off, a = some ⟨b, off, none⟩ ∧ b < w.heap.size ∧ ∀ i (h : i < log.length), w.cell? ⟨b, off + i * 6, none⟩ = some (.int .i64 log[i].tag) ∧ w.cell? ⟨b, off + i * 6 + 1, none⟩ = some (.int .i64 log[i].o.kind) ∧
    w.cell? ⟨b, off + i * 6 + 2, none⟩ = some (.int .i64 log[i].o.pos) ∧ w.cell? ⟨b, off + i * 6 + 3, none⟩ = some (.int .u8 log[i].o.ch) ∧ w.cell? ⟨b, off + i * 6 + 4, none⟩ = some (.int .i64 log[i].o.cl) ∧ w.cell? ⟨b, off + i * 6 + 5, none⟩ = some (.int .i64 log[i].o.sq))
/-- Events in memory; of their texts only where they lie. -/
def IsV (w : World) (a : Option Addr) (n : Nat) (evs : List Ev) (A : Nat → Option Addr) (K : Nat → Nat) : Prop :=
  evs.length = n ∧ (0 < n → ∃ b off, a = some ⟨b, off, none⟩ ∧ b < w.heap.size ∧ ∀ i (h : i < evs.length), w.cell? ⟨b, off + i * 10, none⟩ = some (.int .i64 evs[i].step) ∧ w.cell? ⟨b, off + i * 10 + 1, none⟩ = some (.int .i64 evs[i].site) ∧
    w.cell? ⟨b, off + i * 10 + 2, none⟩ = some (.int .i64 evs[i].hav) ∧ w.cell? ⟨b, off + i * 10 + 3, none⟩ = some (.int .i64 evs[i].made) ∧
    w.cell? ⟨b, off + i * 10 + 4, none⟩ = some (.int .i64 evs[i].o.kind) ∧ w.cell? ⟨b, off + i * 10 + 5, none⟩ = some (.int .i64 evs[i].o.pos) ∧ w.cell? ⟨b, off + i * 10 + 6, none⟩ = some (.int .u8 evs[i].o.ch) ∧
    w.cell? ⟨b, off + i * 10 + 7, none⟩ = some (.int .i64 evs[i].o.cl) ∧ w.cell? ⟨b, off + i * 10 + 8, none⟩ = some (.int .i64 evs[i].o.sq) ∧ w.cell? ⟨b, off + i * 10 + 9, none⟩ = some (.slice (A i) evs[i].len (K i)))

theorem IsL.below {w w' : World} {a : Option Addr} {n B : Nat} {log : List Ed} (h : IsL w a n log) (hb : Below B w w') (hB : w.heap.size ≤ B) : IsL w' a n log := by
  refine ⟨h.1, fun hn => ?_⟩
  obtain ⟨b, off, e, hlt, hc⟩ := h.2 hn
  refine ⟨b, off, e, Nat.lt_of_lt_of_le hlt hb.size, fun i hi => ?_⟩
  have k : ∀ j, w'.cell? ⟨b, j, none⟩ = w.cell? ⟨b, j, none⟩ := fun j => hb.cell (p := ⟨b, j, none⟩) (show b < B by omega)
  simp only [k]
  exact hc i hi
theorem IsV.below {w w' : World} {a : Option Addr} {n B : Nat} {evs : List Ev} {A : Nat → Option Addr} {K : Nat → Nat} (h : IsV w a n evs A K) (hb : Below B w w') (hB : w.heap.size ≤ B) : IsV w' a n evs A K := by
  refine ⟨h.1, fun hn => ?_⟩
  obtain ⟨b, off, e, hlt, hc⟩ := h.2 hn
  refine ⟨b, off, e, Nat.lt_of_lt_of_le hlt hb.size, fun i hi => ?_⟩
  have k : ∀ j, w'.cell? ⟨b, j, none⟩ = w.cell? ⟨b, j, none⟩ := fun j => hb.cell (p := ⟨b, j, none⟩) (show b < B by omega)
  simp only [k]
  exact hc i hi

/-- The box of a history. -/
theorem box_hist (w : World) (cs : Array Value) (t : TypeId) : (w.alloc (.cells cs t)).heap[w.heap.size]? = some (.cells cs t (0, 0)) := heap_alloc_new _ _

theorem lgAt_succ (log : List Ed) (k : Nat) (c : Int) (h : k < log.length) : (lgAt log (k + 1) c).length = (lgAt log k c).length + if log[k].o.cl = c then 1 else 0 := by
  simp only [lgAt, List.getElem?_eq_getElem h, List.length_append]
  split <;> rfl
theorem lgAt_le (log : List Ed) (k : Nat) (c : Int) : (lgAt log k c).length ≤ k := by
  induction k with
  | zero => simp [lgAt]
  | succ k ih =>
    simp only [lgAt, List.length_append]
    split
    · split <;> simp <;> omega
    · simp; omega

set_option maxRecDepth 100000 in
set_option maxHeartbeats 4000000 in
theorem ownAmong_any (C c : Int) (aL aE : Option Addr) (nL cL nE cE k : Nat) (log : List Ed) (w : World) (hL : IsL w aL nL log) (hk : k ≤ nL) (hn : nL ≤ 4096) :
    Calls Tryz.prog 91 #[.agg #[.int .i64 C, .slice aL nL cL, .slice aE nE cE], .int .i64 c, .int .i64 k] w fun e w' => e = .returned (.int .i64 ((lgAt log k c).length : Nat)) ∧ Below w.heap.size w w' := by
  have g := box_hist w #[.int .i64 C, .slice aL nL cL, .slice aE nE cE] 25
  have gb : Below w.heap.size w (w.alloc (.cells #[.int .i64 C, .slice aL nL cL, .slice aE nE cE] 25)) := (Below.refl _ _).alloc (Nat.le_refl _) _
  have H1 := hd (hL.below gb (Nat.le_refl _))
  have HG := hd g
  have HB := hd gb
  clear hL g gb
  go_enter Tryz.func91, Tryz.ntmps91
  go_upto_region 1 with fail
  generalize w.alloc (.cells #[.int .i64 C, .slice aL nL cL, .slice aE nE cE] 25) = w0 at *
  go_wp2_with fail
  have x1 := cell_row HG.out 1
  simp at x1
  have HN := hd hn
  have HK := hd hk
  clear hn hk
  go_loopw [7, 8] (fun n b wr => ∃ i : Nat, i ≤ k ∧ b = .int .i64 i ∧ wr = w0 ∧ n = .int .i64 ((lgAt log i c).length : Nat)) (fun _ b _ => k - (intOf b).toNat)
  case atStart => exact ⟨0, Nat.zero_le _, rfl, rfl, rfl⟩
  case round =>
    obtain ⟨i, hi, rfl, rfl, rfl⟩ := hrel
    by_cases hlt : i < k
    · have l1 : i < log.length := by have := H1.out.1; have := HK.out; omega
      obtain ⟨b, off, rfl, s1, q⟩ := H1.out.2 (by have := HK.out; omega)
      obtain ⟨q0, q1, q2, q3, q4, q5⟩ := q i l1
      have HS := hd (lgAt_succ log i c l1)
      have HC := hd (lgAt_le log i c)
      have i1 : (i : Int) < (nL : Int) := by have := HK.out; omega
      have i2 : (i : Int) < (k : Int) := by omega
      generalize lgAt log i c = L at *
      generalize log[i] = x at *
      obtain ⟨tg, ok, op, oc, ol, os⟩ := x
      simp only at q0 q1 q2 q3 q4 q5 HS
      clear q q0 q1 q2 q3 q5
      by_cases hc : ol = c
      · subst hc
        have Z : Hid (∃ j : Nat, j ≤ k ∧ Value.int .i64 (wrap64 ((i : Int) + 1)) = Value.int .i64 j ∧ wr = wr ∧ Value.int .i64 (wrap64 ((L.length : Int) + 1)) = .int .i64 ((lgAt log j ol).length : Nat)) := by
          have e1 := HS.out
          have e2 := HC.out
          have e3 := HN.out
          have e4 := HK.out
          rw [if_pos rfl] at e1
          refine ⟨i + 1, by omega, by rw [wrap64_id (by omega) (by omega)]; rfl, rfl, ?_⟩
          rw [e1, wrap64_id (by omega) (by omega)]
          rfl
        have Z2 : Hid (k - (intOf (Value.int .i64 (wrap64 ((i : Int) + 1)))).toNat < k - (intOf (Value.int .i64 (i : Int))).toNat) := by
          have e3 := HN.out
          have e4 := HK.out
          rw [wrap64_id (by omega) (by omega)]
          simp only [Hid, intOf]
          omega
        clear HS HC
        go_wp2
        exact ⟨by simpa using Z.out, by simpa using Z2.out⟩
      · have hb : (ol == c) = false := by simpa using hc
        have Z : Hid (∃ j : Nat, j ≤ k ∧ Value.int .i64 (wrap64 ((i : Int) + 1)) = Value.int .i64 j ∧ wr = wr ∧ Value.int .i64 (L.length : Int) = .int .i64 ((lgAt log j c).length : Nat)) := by
          have e1 := HS.out
          have e2 := HC.out
          have e3 := HN.out
          have e4 := HK.out
          rw [if_neg hc] at e1
          refine ⟨i + 1, by omega, by rw [wrap64_id (by omega) (by omega)]; rfl, rfl, ?_⟩
          rw [e1]
          rfl
        have Z2 : Hid (k - (intOf (Value.int .i64 (wrap64 ((i : Int) + 1)))).toNat < k - (intOf (Value.int .i64 (i : Int))).toNat) := by
          have e3 := HN.out
          have e4 := HK.out
          rw [wrap64_id (by omega) (by omega)]
          simp only [Hid, intOf]
          omega
        clear HS HC
        go_wp2
        exact ⟨by simpa using Z.out, by simpa using Z2.out⟩
    · obtain rfl : i = k := by omega
      go_wp2
      go_ret
      exact ⟨rfl, HB.out⟩

end Go.Proofs.YtfhghijefjhehaaGreatDoor

/-! Hw -/
namespace Go.Proofs.YtfhghijefjhehaaGreatDoor
open Go.RowKit
set_option linter.unusedVariables false

/-- A world in which all that was there at u is as it was. -/
structure Wd (u : World) where
  W : World
  ok : Below u.heap.size u W

theorem Wd.cell {u : World} (x : Wd u) {p : Addr} {v : Value} (h : u.cell? p = some v) (hp : p.block < u.heap.size) : x.W.cell? p = some v := (x.ok.cell (p := p) hp).trans h

theorem wp_region_calm {P : Program} {id : Nat} {Q : Exit → Act → World → Prop} {a : Act} {w : World} {l : List Oper} (hm : P.follows .mixedOrders = true) (hB : Region.lexB .any l.toArray = true)
    (h : wpQuiet P l.toArray (fun w' => ∃ x : Wd w, w' = x.W) (fun a' => ∀ w', (∃ x : Wd w, w' = x.W) → Q .normal a' w') l a) : (Code.region id l.toArray true).wp P Q a w :=
  wp_region_quiet (C := fun w' => ∃ x : Wd w, w' = x.W) hm hB ⟨⟨_, below_drewN (Below.refl _ w) 1⟩, rfl⟩ (by simpa using h)

theorem calm_call {P : Program} {f : FuncId} {args : Array Value} {u : World} {v : Value} {x : Wd u} (h : Calls P f args x.W fun e w' => e = .returned v ∧ Below x.W.heap.size x.W w') : Calls P f args x.W fun e w' => e = .returned v ∧ ∃ y : Wd u, w' = y.W :=
  h.mono fun e w' ⟨he, hb⟩ => ⟨he, ⟨w', x.ok.trans (hb.mono x.ok.size)⟩, rfl⟩

end Go.Proofs.YtfhghijefjhehaaGreatDoor
