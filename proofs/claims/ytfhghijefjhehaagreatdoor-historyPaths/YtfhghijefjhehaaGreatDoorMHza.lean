/-
  Texts put together: Hza Ma Mb Na Hf Hw Hl Wa.
-/
import Derived.Test.YtfhghijefjhehaaGreatDoorVa
import Derived.Test.YtfhghijefjhehaaGreatDoorAx
import Derived.WalkKit
import Derived.WalkSpells
import Derived.WalkLawsBesides
import Derived.Laws.CopyOwn
import Derived.Laws.MakeOwn
import Derived.Deep.DeepAppendWide
import Derived.Laws.AppendOwn
import Derived.Deep.QuietTactic
import Derived.BigQuiet
import Derived.Test.YtfhghijefjhehaaGreatDoorHd
import Derived.Deep.DeepCutAuto
import Derived.Deep.Quiet
import Derived.Test.YtfhghijefjhehaaGreatDoorMUa
import Derived.Deep.RegionHeld3
import Derived.Laws.NewDeep
/-! Hza -/
namespace Go.Proofs.YtfhghijefjhehaaGreatDoor
open Go.RowKit
set_option linter.unusedVariables false

/-- Every block that was there is as it was, but for the blocks of S. -/
structure Fr (S : Nat → Prop) (w w' : World) : Prop where
  os : w'.os = w.os
  tape : w'.tape = w.tape
  output : w'.output = w.output
  size : w.heap.size ≤ w'.heap.size
  block : ∀ k, k < w.heap.size → ¬ S k → w'.heap[k]? = w.heap[k]?

theorem Fr.refl (S : Nat → Prop) (w : World) : Fr S w w := ⟨rfl, rfl, rfl, Nat.le_refl _, fun _ _ _ => rfl⟩
theorem Fr.trans {S : Nat → Prop} {a b c : World} (h : Fr S a b) (k : Fr S b c) : Fr S a c :=
  ⟨k.os.trans h.os, k.tape.trans h.tape, k.output.trans h.output, Nat.le_trans h.size k.size, fun i hi hr => (k.block i (Nat.lt_of_lt_of_le hi h.size) hr).trans (h.block i hi hr)⟩
theorem Fr.next {S S' : Nat → Prop} {a b c : World} (h : Fr S a b) (k : Fr S' b c) (hS : ∀ i, i < a.heap.size → S' i → S i) : Fr S a c :=
  ⟨k.os.trans h.os, k.tape.trans h.tape, k.output.trans h.output, Nat.le_trans h.size k.size, fun i hi hr => (k.block i (Nat.lt_of_lt_of_le hi h.size) (fun hs => hr (hS i hi hs))).trans (h.block i hi hr)⟩
theorem Fr.mono {S S' : Nat → Prop} {w w' : World} (h : Fr S w w') (hS : ∀ k, k < w.heap.size → S k → S' k) : Fr S' w w' :=
  ⟨h.os, h.tape, h.output, h.size, fun k hk hn => h.block k hk (fun hs => hn (hS k hk hs))⟩
theorem Fr.of_below {S : Nat → Prop} {w w' : World} (h : Below w.heap.size w w') : Fr S w w' := ⟨h.os, h.tape, h.output, h.size, fun k hk _ => h.block k hk⟩
theorem Fr.below {S : Nat → Prop} {B : Nat} {w w' : World} (h : Fr S w w') (hB : B ≤ w.heap.size) (hS : ∀ k, S k → B ≤ k) : Below B w w' :=
  ⟨h.os, h.tape, h.output, h.size, fun k hk => h.block k (by omega) (fun hs => by have := hS k hs; omega)⟩
theorem Fr.drewN (S : Nat → Prop) (w : World) (m : Nat) : Fr S w (w.drewN m) := ⟨rfl, rfl, rfl, Nat.le_refl _, fun _ _ _ => rfl⟩
theorem Fr.drew (S : Nat → Prop) (w : World) : Fr S w w.drew := ⟨rfl, rfl, rfl, Nat.le_refl _, fun _ _ _ => rfl⟩
theorem Fr.setCell {S : Nat → Prop} (w : World) (p : Addr) (u : Value) (hp : S p.block) : Fr S w (w.setCell p u) :=
  ⟨rfl, rfl, rfl, by simp, fun k _ hk => Below.heap_setCell w p u k (fun h => hk (h ▸ hp))⟩
theorem Fr.setRow {S : Nat → Prop} (w : World) (g : Nat) (cs : Array Value) (hp : S g) : Fr S w (w.setRow g cs) :=
  ⟨rfl, rfl, rfl, by simp, fun k _ hk => setRow_other w g k cs (fun h => hk (h ▸ hp))⟩
theorem Fr.alloc (S : Nat → Prop) (w : World) (o : Obj) : Fr S w (w.alloc o) := Fr.of_below ((Below.refl _ _).alloc (Nat.le_refl _) o)
theorem Fr.cell {S : Nat → Prop} {w w' : World} (h : Fr S w w') {p : Addr} (hp : p.block < w.heap.size) (hr : ¬ S p.block) : w'.cell? p = w.cell? p := World.cell?_of_block (w := w) (h.block p.block hp hr)

theorem block_lt {w : World} {r : Nat} {o : Obj} (h : w.heap[r]? = some o) : r < w.heap.size := by
  by_cases hg : r < w.heap.size
  · exact hg
  · rw [Array.getElem?_eq_none (by omega)] at h
    simp at h

theorem Fr.keeps {S : Nat → Prop} {w w' : World} (h : Fr S w w') {r : Nat} {o : Obj} (hr : w.heap[r]? = some o) (hS : ¬ S r) : w'.heap[r]? = some o := (h.block r (block_lt hr) hS).trans hr

theorem cell_row {w : World} {r : Nat} {cur : Array Value} {t : TypeId} (h : w.heap[r]? = some (.cells cur t (0, 0))) (i : Nat) : w.cell? ⟨r, i, none⟩ = cur[i]? := by
  simp [World.cell?, h]
theorem frozen_row {w : World} {r : Nat} {cur : Array Value} {t : TypeId} (h : w.heap[r]? = some (.cells cur t (0, 0))) (i : Nat) : w.frozen? ⟨r, i, none⟩ = false := by
  simp [World.frozen?, h]
theorem set_row {w : World} {r : Nat} {cur : Array Value} {t : TypeId} (h : w.heap[r]? = some (.cells cur t (0, 0))) (i : Nat) (u : Value) : (w.setCell ⟨r, i, none⟩ u).heap[r]? = some (.cells (cur.setIfInBounds i u) t (0, 0)) :=
  heap_setCell_same w r i cur t u h

/-- An element has k cells. -/
def Sz {α : Type} (f : α → List Value) (k : Nat) : Prop := ∀ x, (f x).length = k ∧ ∀ v ∈ f x, v.oneCell' = true

/-- The cells of a list. -/
def cl {α : Type} (f : α → List Value) (xs : List α) : List Value := xs.flatMap f

section
variable {α : Type} {f : α → List Value} {k : Nat}
theorem cl_nil : cl f [] = [] := rfl
theorem cl_one (x : α) : cl f [x] = f x := by simp [cl]
theorem cl_app (xs ys : List α) : cl f (xs ++ ys) = cl f xs ++ cl f ys := by simp [cl]
theorem cl_cons (x : α) (xs : List α) : cl f (x :: xs) = f x ++ cl f xs := by simp [cl]
theorem cl_len (h : Sz f k) (xs : List α) : (cl f xs).length = xs.length * k := by
  induction xs with
  | nil => simp [cl_nil]
  | cons x xs ih => rw [cl_cons, List.length_append, ih, (h x).1, List.length_cons, Nat.add_mul]; omega
theorem cl_cells (h : Sz f k) (xs : List α) : ∀ v ∈ cl f xs, v.oneCell' = true := by
  intro v hv
  obtain ⟨x, -, hx⟩ := List.mem_flatMap.1 hv
  exact (h x).2 v hx
theorem cl_drop (h : Sz f k) (xs : List α) (i : Nat) : (cl f xs).drop (i * k) = cl f (xs.drop i) := by
  induction xs generalizing i with
  | nil => simp [cl_nil]
  | cons x xs ih =>
    cases i with
    | zero => simp
    | succ i =>
      rw [cl_cons, Nat.add_mul, Nat.one_mul, List.drop_succ_cons, ← ih i, List.drop_append]
      rw [List.drop_eq_nil_of_le (by rw [(h x).1]; omega), List.nil_append, (h x).1, Nat.add_sub_cancel]
theorem cl_take (h : Sz f k) (xs : List α) (i : Nat) : (cl f xs).take (i * k) = cl f (xs.take i) := by
  induction xs generalizing i with
  | nil => simp [cl_nil]
  | cons x xs ih =>
    cases i with
    | zero => simp [cl_nil]
    | succ i =>
      rw [cl_cons, Nat.add_mul, Nat.one_mul, List.take_succ_cons, cl_cons, ← ih i, List.take_append]
      rw [List.take_of_length_le (by rw [(h x).1]; omega), (h x).1, Nat.add_sub_cancel]
theorem cl_get (h : Sz f k) (xs : List α) (i j : Nat) (hi : i < xs.length) (hj : j < k) : (cl f xs)[i * k + j]? = (f xs[i])[j]? := by
  have h1 : (cl f xs)[i * k + j]? = ((cl f xs).drop (i * k))[j]? := by rw [List.getElem?_drop]
  rw [h1, cl_drop h, List.drop_eq_getElem_cons hi, cl_cons, List.getElem?_append_left (by rw [(h _).1]; exact hj)]
end

/-- Block g is a row of cap elements of type e, the first N of them xs. -/
def RowF {α : Type} (f : α → List Value) (k : Nat) (w : World) (g N cap : Nat) (e : TypeId) (xs : List α) : Prop :=
  ∃ cur : List Value, w.heap[g]? = some (.cells cur.toArray e (0, 0)) ∧ cur.take (N * k) = cl f xs ∧ xs.length = N ∧ N ≤ cap ∧ cap ≤ 9223372036854775807 ∧ cur.length = cap * k

/-- nil, or a row. -/
def SF {α : Type} (f : α → List Value) (k : Nat) (w : World) (e : TypeId) (β : Option Nat) (v : Value) (xs : List α) : Prop :=
  match β with
  | none => v = .slice none 0 0 ∧ xs = []
  | some g => ∃ cap, v = .slice (some ⟨g, 0, none⟩) xs.length cap ∧ RowF f k w g xs.length cap e xs

section
variable {α : Type} {f : α → List Value} {k : Nat} {w w' : World} {g N cap : Nat} {e : TypeId} {xs : List α} {S : Nat → Prop} {β : Option Nat} {v : Value}
theorem RowF.fr (h : RowF f k w g N cap e xs) (hF : Fr S w w') (hS : ¬ S g) : RowF f k w' g N cap e xs := by
  obtain ⟨cur, hh, r⟩ := h
  exact ⟨cur, hF.keeps hh hS, r⟩
theorem RowF.lt (h : RowF f k w g N cap e xs) : g < w.heap.size := by
  obtain ⟨cur, hh, _⟩ := h
  exact block_lt hh
theorem RowF.cell (h : RowF f k w g N cap e xs) (hz : Sz f k) (i j : Nat) (hi : i < xs.length) (hj : j < k) : w.cell? ⟨g, i * k + j, none⟩ = (f xs[i])[j]? := by
  obtain ⟨cur, hh, ht, hl, _⟩ := h
  have hlt : i * k + j < N * k := by
    have : (i + 1) * k ≤ N * k := Nat.mul_le_mul_right _ (by omega)
    rw [Nat.add_mul] at this
    omega
  rw [cell_row hh, ← cl_get hz xs i j hi hj, ← ht, List.getElem?_take, if_pos hlt]
  simp
theorem RowF.cells (h : RowF f k w g N cap e xs) (hz : Sz f k) (i : Nat) : ∀ j u, (cl f (xs.drop i))[j]? = some u → w.cell? ((⟨g, i * k, none⟩ : Addr).add j) = some u := by
  intro j u hj
  obtain ⟨cur, hh, ht, hl, _⟩ := h
  rw [add_lit, cell_row hh]
  rw [← cl_drop hz, List.getElem?_drop, ← ht] at hj
  have hjl := (List.getElem?_eq_some_iff.1 hj).1
  rw [List.length_take] at hjl
  rw [List.getElem?_take, if_pos (by omega)] at hj
  simpa using hj

theorem SF.fr (h : SF f k w e β v xs) (hF : Fr S w w') (hS : ∀ g, β = some g → ¬ S g) : SF f k w' e β v xs := by
  cases β with
  | none => exact h
  | some g =>
    obtain ⟨cap, hv, hR⟩ := h
    exact ⟨cap, hv, hR.fr hF (hS g rfl)⟩
theorem SF.form (h : SF f k w e β v xs) : ∃ a c, v = .slice a xs.length c ∧ xs.length ≤ c ∧ c ≤ 9223372036854775807 := by
  cases β with
  | none =>
    obtain ⟨rfl, rfl⟩ := h
    exact ⟨none, 0, rfl, by simp, by omega⟩
  | some g =>
    obtain ⟨cap, rfl, cur, -, -, -, h1, h2, -⟩ := h
    exact ⟨_, cap, rfl, h1, h2⟩
theorem SF.lt (h : SF f k w e β v xs) : ∀ g, β = some g → g < w.heap.size := by
  rintro g rfl
  obtain ⟨cap, hv, hR⟩ := h
  exact hR.lt
theorem SF.blk {g : Nat} (h : SF f k w e (some g) v xs) : ∃ cur, w.heap[g]? = some (.cells cur e (0, 0)) := by
  obtain ⟨cap, -, cur, hh, -⟩ := h
  exact ⟨_, hh⟩
end

/-- What an append leaves: the same row, or a new one behind all that was there. -/
def NowF {α : Type} (f : α → List Value) (k : Nat) (w w' : World) (e : TypeId) (β : Option Nat) (v' : Value) (xs : List α) : Prop :=
  ∃ g', SF f k w' e (some g') v' xs ∧ ((β = some g' ∧ Fr (· = g') w w') ∨ (g' = w.heap.size ∧ Fr (fun _ => False) w w'))

theorem run_pushF {α : Type} {f : α → List Value} {k : Nat} (hz : Sz f k) {P : Program} (w : World) (t ty e : TypeId) (i : TypeInfo) (z : Value) (bytes : Nat) (ht : P.underlying t = some (.slice e)) (hi : P.info? e = some i) (hzo : i.zero = some z) (hsz : i.size = k) (hzs : z.cells.size = k) (hby : i.bytes = bytes)
    (β : Option Nat) (v : Value) (xs : List α) (hv : SF f k w e β v xs) (ad : Addr) (m c : Nat) (ys : List α) (hl : ys.length = m) (hnews : ∀ j u, (cl f ys)[j]? = some u → w.cell? (ad.add j) = some u)
    (hm : 0 < m) (h63 : xs.length + m ≤ 9223372036854775807) (hb : ((xs.length + m) + (xs.length + m) / 4 + 192) * bytes ≤ 281474976710656) :
    ∃ v' w', (Builtin.append_ #[t, t] ty #[v, .slice (some ad) m c]).run P w = .ok v' w' ∧ NowF f k w w' e β v' (xs ++ ys) := by
  subst hby
  subst hsz
  have hmx : xs.length + m ≤ maxLen := h63
  have hlm : (cl f ys).length = m * i.size := by rw [cl_len hz, hl]
  have h1 := cl_cells hz ys
  have newrow : ∀ G, xs.length + m ≤ G → G ≤ 9223372036854775807 → RowF f i.size (w.drew.alloc (.cells ((cl f xs).toArray ++ (cl f ys).toArray ++ Builtin.zeroCells z.cells (G - (xs.length + m))) e)) w.heap.size (xs.length + m) G e (xs ++ ys) := by
    intro G hG1 hG2
    refine ⟨((cl f xs).toArray ++ (cl f ys).toArray ++ Builtin.zeroCells z.cells (G - (xs.length + m))).toList, ?_, ?_, by simp [hl], hG1, hG2, ?_⟩
    · rw [show w.heap.size = w.drew.heap.size from rfl, heap_alloc_new]
    · rw [Array.toList_append, Array.toList_append, List.toList_toArray, List.toList_toArray]
      have : (cl f xs ++ cl f ys).length = (xs.length + m) * i.size := by rw [List.length_append, cl_len hz, cl_len hz, hl, Nat.add_mul]
      rw [← this, List.take_left, cl_app]
    · rw [Array.toList_append, Array.toList_append, List.length_append, List.length_append, List.toList_toArray, List.toList_toArray, cl_len hz, cl_len hz, Array.length_toList (xs := Builtin.zeroCells _ _), size_zeroCells, hzs, hl, ← Nat.add_mul, ← Nat.add_mul]
      congr 1
      omega
  have newfr : ∀ o, Fr (fun _ => False) w (w.drew.alloc o) := fun o => (Fr.drew _ w).trans (Fr.alloc _ _ _)
  cases β with
  | none =>
    obtain ⟨rfl, rfl⟩ := hv
    have hr := run_append_nil (P := P) w t ty e i z ht hi hzo ad m c (cl f ys) hlm hnews hm (by simp at h63; omega) (by
      simp only [List.length_nil, Nat.zero_add] at hb
      exact Nat.le_trans (Nat.mul_le_mul_right _ (by omega)) hb)
    have hG1 := grownCap_ge w m 0 e
    have hG2 := grownCap_le_maxLen w m 0 e (by unfold maxLen; simp at h63; omega)
    generalize grownCap w m 0 e = G at hr hG1 hG2
    have hn := newrow G (by simpa using hG1) hG2
    simp only [List.length_nil, Nat.zero_add, List.nil_append, cl_nil] at hn ⊢
    refine ⟨_, _, hr, w.heap.size, ⟨G, by rw [hl], ?_⟩, .inr ⟨rfl, newfr _⟩⟩
    rw [hl]
    simpa using hn
  | some g =>
    obtain ⟨cap, rfl, cur, hh, htk, hvl, hnc, hcm, hcs⟩ := hv
    by_cases hroom : xs.length + m ≤ cap
    · have hfit : xs.length * i.size + (cl f ys).length ≤ cur.length := by
        rw [hlm, ← Nat.add_mul, hcs]
        exact Nat.mul_le_mul_right _ hroom
      have hr := run_append_room (P := P) w t ty e i ht hi g xs.length cap cur.toArray hh ad m c (cl f ys) hlm hnews h1 hroom (by simpa using hfit)
      refine ⟨_, _, hr, g, ⟨cap, by simp [hl], ?_⟩, .inl ⟨rfl, Fr.setRow w g _ rfl⟩⟩
      refine ⟨_, setRow_heap w g cur.toArray _ e _ hh, ?_, rfl, by simp [hl]; omega, hcm, ?_⟩
      · rw [List.toList_toArray, htk]
        have : (cl f xs ++ cl f ys).length = (xs ++ ys).length * i.size := by rw [List.length_append, cl_len hz, cl_len hz, List.length_append, Nat.add_mul]
        rw [← this, List.take_left, cl_app]
      · simp only [List.length_append, List.length_take, List.length_drop]
        omega
    · have holds : ∀ j u, (cl f xs)[j]? = some u → w.cell? ((⟨g, 0, none⟩ : Addr).add j) = some u := by
        have := RowF.cells (f := f) (k := i.size) (w := w) (g := g) (N := xs.length) (cap := cap) (e := e) (xs := xs) ⟨cur, hh, htk, hvl, hnc, hcm, hcs⟩ hz 0
        simpa using this
      have hr := run_append_grow (P := P) w t ty e i z ht hi hzo ⟨g, 0, none⟩ xs.length cap (cl f xs) (by rw [cl_len hz]) holds ad m c (cl f ys) hlm hnews (by omega) (by omega) (growslice_fits_wide (by omega) hb)
      have hG1 := grownCap_ge w (xs.length + m) cap e
      have hG2 := grownCap_le_maxLen w (xs.length + m) cap e hmx
      generalize grownCap w (xs.length + m) cap e = G at hr hG1 hG2
      have hn := newrow G hG1 hG2
      refine ⟨_, _, hr, w.heap.size, ⟨G, by simp [hl], ?_⟩, .inr ⟨rfl, newfr _⟩⟩
      rw [List.length_append, hl]
      exact hn

/-- The elements behind place i, moved onto place j (j at most i): append(s[:j], s[i:]...). -/
theorem row_moved {α : Type} {f : α → List Value} {k : Nat} (hz : Sz f k) {P : Program} (w : World) (t ty e : TypeId) (i : TypeInfo) (ht : P.underlying t = some (.slice e)) (hi : P.info? e = some i) (hsz : i.size = k)
    (g N cap d c : Nat) (xs : List α) (h : RowF f k w g N cap e xs) (hd' : d ≤ N) (A : Addr) (hA : N = d ∨ A = ⟨g, d * k, none⟩) :
    ∃ cur : List Value, (Builtin.append_ #[t, t] ty #[.slice (some ⟨g, 0, none⟩) 0 cap, .slice (some A) (N - d) c]).run P w = .ok (.slice (some ⟨g, 0, none⟩) (N - d) cap) (w.setRow g (splice cur 0 (cl f (xs.drop d))).toArray) ∧
      w.heap[g]? = some (.cells cur.toArray e (0, 0)) ∧ cur.length = cap * k := by
  subst hsz
  have hR := h
  obtain ⟨cur, hh, htk, hl, hnc, hcm, hcs⟩ := h
  refine ⟨cur, ?_, hh, hcs⟩
  have hdl : (xs.drop d).length = N - d := by rw [List.length_drop, hl]
  have hlm : (cl f (xs.drop d)).length = (N - d) * i.size := by rw [cl_len hz, hdl]
  have hsrc : ∀ j u, (cl f (xs.drop d))[j]? = some u → w.cell? (A.add j) = some u := by
    rcases hA with hA | rfl
    · intro j u hj
      rw [show xs.drop d = [] from List.drop_eq_nil_of_le (by omega)] at hj
      simp [cl_nil] at hj
    · exact hR.cells hz d
  have hfit : 0 * i.size + (cl f (xs.drop d)).length ≤ cur.toArray.size := by
    rw [hlm, List.size_toArray, hcs, Nat.zero_mul, Nat.zero_add]
    exact Nat.mul_le_mul_right _ (by omega)
  have hr := run_append_room (P := P) w t ty e i ht hi g 0 cap cur.toArray hh A (N - d) c (cl f (xs.drop d)) hlm hsrc (cl_cells hz _) (by omega) hfit
  simpa [splice] using hr

end Go.Proofs.YtfhghijefjhehaaGreatDoor

/-! Ma -/
namespace Go.Proofs.YtfhghijefjhehaaGreatDoor
open Go.RowKit Go.Lib
set_option linter.unusedVariables false

theorem splice_take {α : Type} (L : List α) (off k : Nat) (cs : List α) (h : k ≤ off) (hL : off ≤ L.length) : (splice L off cs).take k = L.take k := by
  unfold splice
  rw [List.take_append_of_le_length (by rw [List.length_take]; omega), List.take_take, Nat.min_eq_left h]
theorem splice_drop {α : Type} (L : List α) (off : Nat) (cs : List α) (hL : off ≤ L.length) : (splice L off cs).drop off = cs ++ L.drop (off + cs.length) := by
  unfold splice
  have : (L.take off).length = off := by rw [List.length_take]; omega
  have e := List.drop_left (l₁ := L.take off) (l₂ := cs ++ L.drop (off + cs.length))
  rw [this] at e
  exact e

theorem splice_take_end {α : Type} (L : List α) (off : Nat) (cs : List α) (hL : off ≤ L.length) : (splice L off cs).take (off + cs.length) = L.take off ++ cs := by
  unfold splice
  have h : (L.take off ++ cs).length = off + cs.length := by simp; omega
  rw [← List.append_assoc, ← h, List.take_left]

section
variable {P : Program}

/-- copy, of elements of any number of cells, into a block that is known whole. -/
theorem run_copy_k (w : World) (dT sT ty elem : TypeId) (size g o dLen dCap : Nat) (a : Addr) (sLen sCap n : Nat) (cur : List Value) (t : TypeId) (cs : List Value)
    (hu : P.underlying dT = some (.slice elem)) (hs : (P.info? elem).map (·.size) = some size)
    (hg : w.heap[g]? = some (.cells cur.toArray t (0, 0))) (hn : n = Nat.min sLen dLen) (hcl : cs.length = n * size)
    (hsrc : ∀ j v, cs[j]? = some v → w.cell? (a.add j) = some v) (hfit : o + cs.length ≤ cur.length) (h1 : ∀ v ∈ cs, v.oneCell' = true) :
    (Builtin.copy_ #[dT, sT] ty #[.slice (some ⟨g, o, none⟩) dLen dCap, .slice (some a) sLen sCap]).run P w = .ok (goInt n) (w.setRow g (splice cur o cs).toArray) := by
  have hl := run_loadCells_list (P := P) w a cs hsrc
  rw [hcl] at hl
  have hst := run_storeCells_at P g o t cs 0 cur.toArray w hg (by simpa using hfit) h1
  cases hq : P.info? elem with
  | none => simp [hq] at hs
  | some i =>
    have hi : i.size = size := by simpa [hq] using hs
    simp [Builtin.copy_, run_underlying hu, Builtin.lenOf, Builtin.firstCells, sizeOf, typeInfo, hq, hi, ← hn, hl, hst, splice]

theorem wpList_copy_k (w : World) {ops : Array Oper} {rest : List Oper} {o : Oper} {a : Act} {Q : Exit → Act → World → Prop} (hgd : o.guard = none) (d s : Operand) (t t' : TypeId)
    (ho : o.op = .call { callee := .builtin .copy, args := #[d, s], argTypes := #[t, t'] }) (v u : Value) (hd' : a.eval d = v) (hs : a.eval s = u) {v' : Value} {w' : World}
    (hr : (Builtin.copy_ #[t, t'] o.type #[v, u]).run P w = .ok v' w') (h : wpList P ops Q rest (a.put o.dst v') w') : wpList P ops Q (o :: rest) a w := by
  refine wpList_plain hgd fun K hK => ?_
  unfold Oper.wp
  simp [execOp, ho, resolve, invoke, builtin, hd', hs, hr, Result.andThen]
  exact hK _ _ h

theorem step_copy_k {ops : Array Oper} {o : Oper} {a : Act} {w : World} {K : Act → World → Prop} {Q : Exit → Act → World → Prop} {E : Prop}
    (hg : o.guard = none) (d x : Operand) (dT sT : TypeId) (hop : o.op = Op.call { callee := Callee.builtin Builtin.copy, args := #[d, x], argTypes := #[dT, sT] })
    (v u : Value) (hd' : a.eval d = v) (hx : a.eval x = u) {v' : Value} {w' : World} (hr : (Builtin.copy_ #[dT, sT] o.type #[v, u]).run P w = .ok v' w') (hK : K (a.put o.dst v') w') :
    if Region.wanted o (yielded ops a.tmps) = true then Oper.wp P o a w K Q else E := by
  have hw : Region.wanted o (yielded ops a.tmps) = true := by simp [Region.wanted, hg]
  rw [if_pos hw]
  unfold Oper.wp
  simp [execOp, hop, resolve, invoke, builtin, hd', hx, hr, Result.andThen]
  exact hK

theorem step_append_k {ops : Array Oper} {o : Oper} {a : Act} {w : World} {K : Act → World → Prop} {Q : Exit → Act → World → Prop} {E : Prop}
    (hg : o.guard = none) (d x : Operand) (dT sT : TypeId) (hop : o.op = Op.call { callee := Callee.builtin Builtin.append, args := #[d, x], argTypes := #[dT, sT] })
    (v u : Value) (hd' : a.eval d = v) (hx : a.eval x = u) {v' : Value} {w' : World} (hr : (Builtin.append_ #[dT, sT] o.type #[v, u]).run P w = .ok v' w') (hK : K (a.put o.dst v') w') :
    if Region.wanted o (yielded ops a.tmps) = true then Oper.wp P o a w K Q else E := by
  have hw : Region.wanted o (yielded ops a.tmps) = true := by simp [Region.wanted, hg]
  rw [if_pos hw]
  unfold Oper.wp
  simp [execOp, hop, resolve, invoke, builtin, hd', hx, hr, Result.andThen]
  exact hK

theorem wpList_append_k (w : World) {ops : Array Oper} {rest : List Oper} {o : Oper} {a : Act} {Q : Exit → Act → World → Prop} (hgd : o.guard = none) (d s : Operand) (t t' : TypeId)
    (ho : o.op = .call { callee := .builtin .append, args := #[d, s], argTypes := #[t, t'] }) (v u : Value) (hd' : a.eval d = v) (hs : a.eval s = u) {v' : Value} {w' : World}
    (hr : (Builtin.append_ #[t, t'] o.type #[v, u]).run P w = .ok v' w') (h : wpList P ops Q rest (a.put o.dst v') w') : wpList P ops Q (o :: rest) a w := by
  refine wpList_plain hgd fun K hK => ?_
  unfold Oper.wp
  simp [execOp, ho, resolve, invoke, builtin, hd', hs, hr, Result.andThen]
  exact hK _ _ h
end

/-- The row that an append leaves: the same, or a new one. -/
def Moved (w : World) (β β' : Option Nat) : Prop := β' = β ∨ ∃ g, β' = some g ∧ w.heap.size ≤ g

theorem wpList_make_k {P : Program} (w : World) {ops : Array Oper} {rest : List Oper} {o : Oper} {a : Act} {Q : Exit → Act → World → Prop}
    (hg : o.guard = none) (l c : Operand) (t : TypeId) (hop : o.op = Op.makeSlice t l c)
    (e : TypeId) (i : TypeInfo) (z : Value) (h1 : P.underlying t = some (.slice e)) (h2 : P.info? e = some i) (h3 : i.zero = some z)
    (kl kc : IntKind) (L C : Int) (n m : Nat) (hl : a.eval l = .int kl L) (hc : a.eval c = .int kc C) (hL : L = (n : Int)) (hC : C = (m : Int)) (hnm : n ≤ m) (b2 : i.bytes * m ≤ 281474976710656) (b3 : m ≤ 9223372036854775807)
    (hK : ∀ (w' : World) (cur : List Value), Hid (w'.heap[w.heap.size]? = some (.cells cur.toArray e (0, 0))) → Hid (cur = (madeCells z.cells (m * i.size)).toList) → Hid (Below w.heap.size w w') → wpList P ops Q rest (a.put o.dst (.slice (some ⟨w.heap.size, 0, none⟩) n m)) w') :
    wpList P ops Q (o :: rest) a w := by
  refine wpList_plain hg fun K hK' => ?_
  subst hL
  subst hC
  have hrun := run_make (P := P) w t e i z h1 h2 h3 kl kc n m (by omega) (by omega) (by rw [← Int.natCast_mul]; exact Int.ofNat_le.2 b2) (by omega)
  simp only [Int.toNat_natCast] at hrun
  unfold Oper.wp
  simp [execOp, hop, hl, hc, hrun, Result.andThen]
  refine hK' _ _ (hK _ _ ?_ (rfl : _ = _) ((Below.refl _ _).alloc (Nat.le_refl _) _))
  show (w.alloc _).heap[w.heap.size]? = _
  rw [heap_alloc_new]

theorem run_copy_zero {P : Program} (w : World) (dT sT ty elem : TypeId) (d a : Option Addr) (dLen dCap sLen sCap size : Nat) (hu : P.underlying dT = some (.slice elem)) (hs : (P.info? elem).map (·.size) = some size) (hn : Nat.min sLen dLen = 0) :
    (Builtin.copy_ #[dT, sT] ty #[.slice d dLen dCap, .slice a sLen sCap]).run P w = .ok (goInt (0 : Nat)) w := by
  cases hq : P.info? elem with
  | none => simp [hq] at hs
  | some i =>
    have hl : ∀ (x : Addr), (loadCells x 0).run P w = .ok #[] w := fun x => by simpa using run_loadCells_list (P := P) w x [] (by simp)
    cases d <;> cases a <;> simp [Builtin.copy_, run_underlying hu, Builtin.lenOf, Builtin.firstCells, sizeOf, typeInfo, hq, hn, storeCells, hl]

def opc (o : OpE) : List Value := [.int .i64 o.kind, .int .i64 o.pos, .int .u8 o.ch, .int .i64 o.cl, .int .i64 o.sq]
def cO (os : List OpE) : List Value := os.flatMap opc

theorem cO_nil : cO [] = [] := rfl
theorem cO_cons (x : OpE) (xs : List OpE) : cO (x :: xs) = opc x ++ cO xs := rfl
theorem cO_app (xs ys : List OpE) : cO (xs ++ ys) = cO xs ++ cO ys := by simp [cO]
theorem cO_one (x : OpE) : cO [x] = opc x := by simp [cO]
theorem cO_len (xs : List OpE) : (cO xs).length = xs.length * 5 := by
  induction xs with
  | nil => rfl
  | cons x xs ih => rw [cO_cons, List.length_append, ih]; simp [opc]; omega
theorem cO_take (xs : List OpE) (k : Nat) (hk : k ≤ xs.length) : (cO xs).take (k * 5) = cO (xs.take k) := by
  have h : cO xs = cO (xs.take k) ++ cO (xs.drop k) := by rw [← cO_app, List.take_append_drop]
  rw [h, List.take_append_of_le_length (by rw [cO_len, List.length_take, Nat.min_eq_left hk]; exact Nat.le_refl _), List.take_of_length_le (by rw [cO_len, List.length_take, Nat.min_eq_left hk]; exact Nat.le_refl _)]
theorem cO_one' (xs : List OpE) : ∀ v ∈ cO xs, v.oneCell' = true := by
  intro v hv
  simp [cO, opc] at hv
  obtain ⟨o, _, h⟩ := hv
  rcases h with rfl | rfl | rfl | rfl | rfl <;> rfl
theorem cO_get (xs : List OpE) (i : Nat) (hi : i < xs.length) : (cO xs)[i * 5]? = some (.int .i64 xs[i].kind) ∧ (cO xs)[i * 5 + 1]? = some (.int .i64 xs[i].pos) ∧ (cO xs)[i * 5 + 2]? = some (.int .u8 xs[i].ch) ∧ (cO xs)[i * 5 + 3]? = some (.int .i64 xs[i].cl) ∧ (cO xs)[i * 5 + 4]? = some (.int .i64 xs[i].sq) := by
  have h : cO xs = cO (xs.take i) ++ (opc xs[i] ++ cO (xs.drop (i + 1))) := by
    rw [← cO_cons, ← cO_app]
    congr 1
    rw [← List.drop_eq_getElem_cons hi, List.take_append_drop]
  have hl : (cO (xs.take i)).length = i * 5 := by rw [cO_len, List.length_take]; congr 1; omega
  rw [h]
  refine ⟨?_, ?_, ?_, ?_, ?_⟩
  · rw [List.getElem?_append_right (by omega), hl, Nat.sub_self]; rfl
  · rw [List.getElem?_append_right (by omega), hl, show i * 5 + 1 - i * 5 = 1 by omega]; rfl
  · rw [List.getElem?_append_right (by omega), hl, show i * 5 + 2 - i * 5 = 2 by omega]; rfl
  · rw [List.getElem?_append_right (by omega), hl, show i * 5 + 3 - i * 5 = 3 by omega]; rfl
  · rw [List.getElem?_append_right (by omega), hl, show i * 5 + 4 - i * 5 = 4 by omega]; rfl

/-- The slice value at a, of n elements and capacity c, holds the operations os in w. -/
def IsO (w : World) (a : Option Addr) (n c : Nat) (os : List OpE) : Prop :=
  os.length = n ∧ n ≤ c ∧ c ≤ 9223372036854775807 ∧
  (0 < n → ∃ b off, a = some ⟨b, off, none⟩ ∧ b < w.heap.size ∧ ∀ j v, (cO os)[j]? = some v → w.cell? ⟨b, off + j, none⟩ = some v)

/-- Every character is a byte. -/
def OkO (os : List OpE) : Prop := ∀ o ∈ os, 0 ≤ o.ch ∧ o.ch ≤ 255

theorem IsO.addr {w : World} {a : Option Addr} {n c : Nat} {os : List OpE} (h : IsO w a n c os) (hn : 0 < n) : ∃ b off, a = some ⟨b, off, none⟩ ∧ b < w.heap.size := by
  obtain ⟨b, off, e, hlt, _⟩ := h.2.2.2 hn
  exact ⟨b, off, e, hlt⟩
theorem IsO.at {w : World} {b off n c : Nat} {os : List OpE} (h : IsO w (some ⟨b, off, none⟩) n c os) (i : Nat) (hi : i < n) (hx : i < os.length) :
    w.cell? ⟨b, off + i * 5, none⟩ = some (.int .i64 os[i].kind) ∧ w.cell? ⟨b, off + i * 5 + 1, none⟩ = some (.int .i64 os[i].pos) ∧ w.cell? ⟨b, off + i * 5 + 2, none⟩ = some (.int .u8 os[i].ch) ∧
      w.cell? ⟨b, off + i * 5 + 3, none⟩ = some (.int .i64 os[i].cl) ∧ w.cell? ⟨b, off + i * 5 + 4, none⟩ = some (.int .i64 os[i].sq) := by
  obtain ⟨h1, h2, h3, h4⟩ := h
  obtain ⟨b', off', e, hlt, hc⟩ := h4 (by omega)
  have e' := Option.some.inj e
  simp at e'
  obtain ⟨rfl, rfl⟩ := e'
  obtain ⟨g0, g1, g2, g3, g4⟩ := cO_get os i hx
  exact ⟨hc _ _ g0, by rw [Nat.add_assoc]; exact hc _ _ g1, by rw [Nat.add_assoc]; exact hc _ _ g2, by rw [Nat.add_assoc]; exact hc _ _ g3, by rw [Nat.add_assoc]; exact hc _ _ g4⟩
theorem IsO.fr {S : Nat → Prop} {w w' : World} {a : Option Addr} {n c : Nat} {os : List OpE} (h : IsO w a n c os) (hb : Fr S w w') (hr : 0 < n → ∀ b off, a = some ⟨b, off, none⟩ → ¬ S b) : IsO w' a n c os := by
  obtain ⟨h1, h2, h3, h4⟩ := h
  refine ⟨h1, h2, h3, fun hn => ?_⟩
  obtain ⟨b, off, e, hlt, hc⟩ := h4 hn
  refine ⟨b, off, e, Nat.lt_of_lt_of_le hlt hb.size, fun j v hj => ?_⟩
  rw [hb.cell (p := ⟨b, off + j, none⟩) hlt (hr hn b off e)]
  exact hc j v hj
theorem IsO.below {w w' : World} {a : Option Addr} {n c : Nat} {os : List OpE} (h : IsO w a n c os) (hb : Below w.heap.size w w') : IsO w' a n c os :=
  h.fr (S := fun _ => False) (Fr.of_below hb) (fun _ _ _ _ h => h)
theorem IsO.take {w : World} {a : Option Addr} {n c : Nat} {os : List OpE} (h : IsO w a n c os) (m : Nat) (hm : m ≤ n) : IsO w a m c (os.take m) := by
  obtain ⟨h1, h2, h3, h4⟩ := h
  refine ⟨by simp; omega, by omega, h3, fun hn => ?_⟩
  obtain ⟨b, off, e, hlt, hc⟩ := h4 (by omega)
  refine ⟨b, off, e, hlt, fun j v hj => hc j v ?_⟩
  rw [← cO_take os m (by omega), List.getElem?_take] at hj
  split at hj
  · exact hj
  · cases hj
theorem OkO.take {os : List OpE} (h : OkO os) (m : Nat) : OkO (os.take m) := fun o ho => h o (List.mem_of_mem_take ho)

theorem Tryz.infoO : (Tryz.prog.info? 69).map (fun i => (i.zero, i.size, i.bytes)) = some (some (.agg #[.int .i64 0, .int .i64 0, .int .u8 0, .int .i64 0, .int .i64 0]), 5, 40) := by kernel_rfl

/-- Block g is a row of cap operations, the first N of them os. -/
def RowO (w : World) (g N cap : Nat) (os : List OpE) : Prop :=
  ∃ cur : List Value, w.heap[g]? = some (.cells cur.toArray 69 (0, 0)) ∧ cur.take (N * 5) = cO os ∧ os.length = N ∧ N ≤ cap ∧ cap ≤ 9223372036854775807 ∧ cur.length = cap * 5

theorem RowO.fr {S : Nat → Prop} {w w' : World} {g N cap : Nat} {os : List OpE} (h : RowO w g N cap os) (hF : Fr S w w') (hS : ¬ S g) : RowO w' g N cap os := by
  obtain ⟨cur, hh, r⟩ := h
  exact ⟨cur, hF.keeps hh hS, r⟩
theorem RowO.lt {w : World} {g N cap : Nat} {os : List OpE} (h : RowO w g N cap os) : g < w.heap.size := by
  obtain ⟨cur, hh, _⟩ := h
  exact block_lt hh
theorem RowO.isO {w : World} {g N cap : Nat} {os : List OpE} (h : RowO w g N cap os) : IsO w (some ⟨g, 0, none⟩) N cap os := by
  obtain ⟨cur, hh, ht, hl, hn, hm, hs⟩ := h
  refine ⟨hl, hn, hm, fun _ => ⟨g, 0, rfl, block_lt hh, fun j v hj => ?_⟩⟩
  rw [Nat.zero_add, cell_row hh, List.getElem?_toArray]
  rw [← ht, List.getElem?_take] at hj
  split at hj
  · exact hj
  · cases hj

/-- nil, or a row at the block. -/
def SO (w : World) (β : Option Nat) (v : Value) (os : List OpE) : Prop :=
  match β with
  | none => v = .slice none 0 0 ∧ os = []
  | some g => ∃ cap, v = .slice (some ⟨g, 0, none⟩) os.length cap ∧ RowO w g os.length cap os

theorem SO.fr {S : Nat → Prop} {w w' : World} {β : Option Nat} {v : Value} {os : List OpE} (h : SO w β v os) (hF : Fr S w w') (hS : ∀ g, β = some g → ¬ S g) : SO w' β v os := by
  cases β with
  | none => exact h
  | some g =>
    obtain ⟨cap, hv, hR⟩ := h
    exact ⟨cap, hv, hR.fr hF (hS g rfl)⟩
theorem SO.below {w w' : World} {β : Option Nat} {v : Value} {os : List OpE} (h : SO w β v os) (hb : Below w.heap.size w w') : SO w' β v os :=
  h.fr (S := fun _ => False) (Fr.of_below hb) (fun _ _ h => h)
theorem SO.lt {w : World} {β : Option Nat} {v : Value} {os : List OpE} (h : SO w β v os) : ∀ g, β = some g → g < w.heap.size := by
  rintro g rfl
  obtain ⟨cap, hv, hR⟩ := h
  exact hR.lt
theorem SO.form {w : World} {β : Option Nat} {v : Value} {os : List OpE} (h : SO w β v os) : ∃ a c, v = .slice a os.length c ∧ IsO w a os.length c os := by
  cases β with
  | none =>
    obtain ⟨rfl, rfl⟩ := h
    exact ⟨none, 0, rfl, ⟨rfl, Nat.le_refl _, by omega, fun h => by simp at h⟩⟩
  | some g =>
    obtain ⟨cap, rfl, hR⟩ := h
    exact ⟨_, cap, rfl, hR.isO⟩
def NowO (w w' : World) (β : Option Nat) (v : Value) (os : List OpE) : Prop := ∃ β', SO w' β' v os ∧ Moved w β β' ∧ Fr (fun k => β = some k) w w'

theorem row_cellsO {w : World} {g N : Nat} {xs : List OpE} {cur : List Value} {t : TypeId} (hg : w.heap[g]? = some (.cells cur.toArray t (0, 0))) (ht : cur.take (N * 5) = cO xs) :
    ∀ j v, (cO xs)[j]? = some v → w.cell? ((⟨g, 0, none⟩ : Addr).add j) = some v := by
  intro j v hj
  rw [add_lit, Nat.zero_add, cell_row hg, List.getElem?_toArray]
  rw [← ht, List.getElem?_take] at hj
  split at hj
  · exact hj
  · cases hj
theorem zero_lenO (k : Nat) : (Builtin.zeroCells #[.int .i64 0, .int .i64 0, .int .u8 0, .int .i64 0, .int .i64 0] k).toList.length = k * 5 := by
  rw [Array.length_toList, size_zeroCells]
  rfl

theorem push_takeO (L : List Value) (xs : List OpE) (x : OpE) (n : Nat) (hx : xs.length = n) (hL : n * 5 ≤ L.length) (ht : L.take (n * 5) = cO xs) :
    (splice L (n * 5) (opc x)).take ((n + 1) * 5) = cO (xs ++ [x]) := by
  have h := splice_take_end L (n * 5) (opc x) hL
  rw [show n * 5 + (opc x).length = (n + 1) * 5 from by simp [opc]; omega, ht] at h
  rw [h, cO_app, cO_one]

/-- append of one element onto nil or a row of the call's own. -/
theorem run_pushO (w : World) (β : Option Nat) (v : Value) (xs : List OpE) (hv : SO w β v xs) (vb : Nat) (x : OpE) (hb : w.heap[vb]? = some (.cells (opc x).toArray 69 (0, 0))) (hn : xs.length ≤ 4096) :
    ∃ v' w', (∀ ty, (Builtin.append_ #[63, 63] ty #[v, .slice (some ⟨vb, 0, none⟩) 1 1]).run Tryz.prog w = .ok v' w') ∧ NowO w w' β v' (xs ++ [x]) := by
  obtain ⟨i0, hi0, hz0, hz1, hz2⟩ := info_parts Tryz.infoO
  have hl : (opc x).length = 1 * i0.size := by rw [hz1]; rfl
  have hnews : ∀ j u, (opc x)[j]? = some u → w.cell? ((⟨vb, 0, none⟩ : Addr).add j) = some u := fun j u hj => by
    rw [add_lit, Nat.zero_add, cell_row hb, List.getElem?_toArray]
    exact hj
  have h1 : ∀ u ∈ opc x, u.oneCell' = true := by rw [← cO_one]; exact cO_one' _
  have newrow : ∀ G, xs.length + 1 ≤ G → G ≤ 9223372036854775807 → RowO (w.drew.alloc (.cells ((cO xs).toArray ++ (opc x).toArray ++ Builtin.zeroCells #[.int .i64 0, .int .i64 0, .int .u8 0, .int .i64 0, .int .i64 0] (G - (xs.length + 1))) 69)) w.heap.size (xs.length + 1) G (xs ++ [x]) := by
    intro G hG1 hG2
    refine ⟨((cO xs).toArray ++ (opc x).toArray ++ Builtin.zeroCells #[.int .i64 0, .int .i64 0, .int .u8 0, .int .i64 0, .int .i64 0] (G - (xs.length + 1))).toList, ?_, ?_, by simp, hG1, hG2, ?_⟩
    · rw [show w.heap.size = w.drew.heap.size from rfl, heap_alloc_new]
    · rw [Array.toList_append, Array.toList_append, List.toList_toArray, List.toList_toArray]
      have : (cO xs ++ opc x).length = (xs.length + 1) * 5 := by rw [List.length_append, cO_len]; simp [opc]; omega
      rw [← this, List.take_left, cO_app, cO_one]
    · rw [Array.toList_append, Array.toList_append, List.length_append, List.length_append, zero_lenO, List.toList_toArray, List.toList_toArray, cO_len]
      simp [opc]
      omega
  cases β with
  | none =>
    obtain ⟨rfl, rfl⟩ := hv
    have hr := fun ty => run_append_nil (P := Tryz.prog) w 63 ty 69 i0 _ Tryz.underlying63 hi0 hz0 ⟨vb, 0, none⟩ 1 1 (opc x) hl hnews (by omega) (by omega) (by rw [hz2]; omega)
    have hG1 := grownCap_ge w 1 0 69
    have hG2 := grownCap_le_maxLen w 1 0 69 (by unfold maxLen; omega)
    generalize grownCap w 1 0 69 = G at hr hG1 hG2
    refine ⟨_, _, hr, some w.heap.size, ?_, .inr ⟨_, rfl, Nat.le_refl _⟩, (Fr.drew _ w).trans (Fr.alloc _ _ _)⟩
    have := newrow G hG1 hG2
    simp [cO_nil] at this
    refine ⟨G, rfl, ?_⟩
    simpa [Value.cells] using this
  | some g =>
    obtain ⟨cap, rfl, cur, hh, htk, hvl, hnc, hcm, hcs⟩ := hv
    by_cases hroom : xs.length + 1 ≤ cap
    · have hr := fun ty => run_append_room (P := Tryz.prog) w 63 ty 69 i0 Tryz.underlying63 hi0 g xs.length cap cur.toArray hh ⟨vb, 0, none⟩ 1 1 (opc x) hl hnews h1 hroom (by rw [hz1]; simp [opc, hcs]; omega)
      refine ⟨_, _, hr, some g, ⟨cap, by simp, ?_⟩, .inl rfl, Fr.setRow _ _ _ rfl⟩
      rw [hz1]
      refine ⟨splice cur (xs.length * 5) (opc x), ?_, by simpa using push_takeO cur xs x xs.length rfl (by omega) htk, rfl, by simpa using hroom, hcm, ?_⟩
      · have := setRow_heap w g cur.toArray (splice cur (xs.length * 5) (opc x)).toArray 69 _ hh
        simpa [splice] using this
      · rw [length_splice _ _ _ (by simp [opc]; omega), hcs]
    · have holds : ∀ j u, (cO xs)[j]? = some u → w.cell? ((⟨g, 0, none⟩ : Addr).add j) = some u := by
        exact row_cellsO hh htk
      have hr := fun ty => run_append_grow (P := Tryz.prog) w 63 ty 69 i0 _ Tryz.underlying63 hi0 hz0 ⟨g, 0, none⟩ xs.length cap (cO xs) (by rw [hz1, cO_len]) holds ⟨vb, 0, none⟩ 1 1 (opc x) hl hnews (by omega) (by omega) (growslice_fits (by omega) (by rw [hz2]; omega))
      have hG1 := grownCap_ge w (xs.length + 1) cap 69
      have hG2 := grownCap_le_maxLen w (xs.length + 1) cap 69 (by unfold maxLen; omega)
      generalize grownCap w (xs.length + 1) cap 69 = G at hr hG1 hG2
      refine ⟨_, _, hr, some w.heap.size, ⟨G, by simp, ?_⟩, .inr ⟨_, rfl, Nat.le_refl _⟩, (Fr.drew _ w).trans (Fr.alloc _ _ _)⟩
      have := newrow G hG1 hG2
      simpa [Value.cells] using this


theorem SO.formN {w : World} {β : Option Nat} {v : Value} {os : List OpE} {n : Nat} (h : SO w β v os) (hn : os.length = n) : ∃ a c, v = .slice a n c ∧ IsO w a n c os := by
  subst hn
  exact h.form

theorem drewN2 (w : World) (m n : Nat) : (w.drewN m).drewN n = w.drewN (m + n) := by
  simp

end Go.Proofs.YtfhghijefjhehaaGreatDoor

/-! Mb -/
namespace Go.Proofs.YtfhghijefjhehaaGreatDoor
open Go.RowKit Go.Lib
set_option linter.unusedVariables false

theorem sizeO' : (Tryz.prog.info? 69).map (·.size) = some 5 := by
  obtain ⟨i0, hi, hz0, hz1, hz2⟩ := info_parts Tryz.infoO
  rw [hi]
  simp [hz1]

theorem cO_split (xs : List OpE) (k : Nat) (hk : k < xs.length) : cO xs = cO (xs.take k) ++ (opc xs[k] ++ cO (xs.drop (k + 1))) := by
  rw [← cO_cons, ← cO_app]
  congr 1
  rw [← List.drop_eq_getElem_cons hk, List.take_append_drop]

theorem set_app (A B : List Value) (n j : Nat) (v : Value) (h : A.length = n) : (A ++ B).set (n + j) v = A ++ B.set j v := by
  rw [List.set_append_right _ _ (by omega), show n + j - A.length = j by omega]

theorem cO_set (xs : List OpE) (k : Nat) (a b c d e : Int) (hk : k < xs.length) :
    (((((cO xs).set (k * 5) (.int .i64 a)).set (k * 5 + 1) (.int .i64 b)).set (k * 5 + 2) (.int .u8 c)).set (k * 5 + 3) (.int .i64 d)).set (k * 5 + 4) (.int .i64 e) = cO (xs.set k ⟨a, b, c, d, e⟩) := by
  have hl : (cO (xs.take k)).length = k * 5 := by rw [cO_len, List.length_take]; congr 1; omega
  have es : xs.set k ⟨a, b, c, d, e⟩ = xs.take k ++ ⟨a, b, c, d, e⟩ :: xs.drop (k + 1) := by rw [List.set_eq_take_append_cons_drop, if_pos hk]
  rw [es, cO_app, cO_cons, cO_split xs k hk]
  have h0 : (cO (xs.take k) ++ (opc xs[k] ++ cO (xs.drop (k + 1)))).set (k * 5) (.int .i64 a) = cO (xs.take k) ++ (opc xs[k] ++ cO (xs.drop (k + 1))).set 0 (.int .i64 a) := set_app _ _ (k * 5) 0 _ hl
  rw [h0, set_app _ _ (k * 5) 1 _ hl, set_app _ _ (k * 5) 2 _ hl, set_app _ _ (k * 5) 3 _ hl, set_app _ _ (k * 5) 4 _ hl]
  simp [opc]

theorem RowO.set5 {w : World} {g N cap : Nat} {xs : List OpE} (h : RowO w g N cap xs) (k : Nat) (a b c d e : Int) (hk : k < N) :
    RowO (((((w.setCell ⟨g, k * 5, none⟩ (.int .i64 a)).setCell ⟨g, k * 5 + 1, none⟩ (.int .i64 b)).setCell ⟨g, k * 5 + 2, none⟩ (.int .u8 c)).setCell ⟨g, k * 5 + 3, none⟩ (.int .i64 d)).setCell ⟨g, k * 5 + 4, none⟩ (.int .i64 e)) g N cap (xs.set k ⟨a, b, c, d, e⟩) := by
  obtain ⟨cur, hh, ht, hl, hn, hm, hs⟩ := h
  refine ⟨((((cur.set (k * 5) (.int .i64 a)).set (k * 5 + 1) (.int .i64 b)).set (k * 5 + 2) (.int .u8 c)).set (k * 5 + 3) (.int .i64 d)).set (k * 5 + 4) (.int .i64 e), ?_, ?_, by simpa using hl, hn, hm, by simpa using hs⟩
  · have h1 := set_row hh (k * 5) (.int .i64 a)
    have h2 := set_row h1 (k * 5 + 1) (.int .i64 b)
    have h3 := set_row h2 (k * 5 + 2) (.int .u8 c)
    have h4 := set_row h3 (k * 5 + 3) (.int .i64 d)
    have h5 := set_row h4 (k * 5 + 4) (.int .i64 e)
    simpa using h5
  · rw [List.take_set, List.take_set, List.take_set, List.take_set, List.take_set, ht, cO_set xs k a b c d e (by omega)]

theorem RowO.at {w : World} {g N cap : Nat} {xs : List OpE} (h : RowO w g N cap xs) (k : Nat) (hk : k < N) (hx : k < xs.length) :
    w.cell? ⟨g, k * 5, none⟩ = some (.int .i64 xs[k].kind) ∧ w.cell? ⟨g, k * 5 + 1, none⟩ = some (.int .i64 xs[k].pos) ∧ w.cell? ⟨g, k * 5 + 2, none⟩ = some (.int .u8 xs[k].ch) ∧
      w.cell? ⟨g, k * 5 + 3, none⟩ = some (.int .i64 xs[k].cl) ∧ w.cell? ⟨g, k * 5 + 4, none⟩ = some (.int .i64 xs[k].sq) := by
  have := h.isO.at k hk hx
  rw [Nat.zero_add] at this
  exact this
theorem RowO.frozen {w : World} {g N cap : Nat} {xs : List OpE} (h : RowO w g N cap xs) (i : Nat) : w.frozen? ⟨g, i, none⟩ = false := by
  obtain ⟨cur, hh, _⟩ := h
  exact frozen_row hh i

def zop : OpE := ⟨0, 0, 0, 0, 0⟩

theorem made_zero (n : Nat) : (madeCells #[.int .i64 0, .int .i64 0, .int .u8 0, .int .i64 0, .int .i64 0] (n * 5)).toList = cO (List.replicate n zop) := by
  induction n with
  | zero => simp [madeCells, cO]
  | succ n ih =>
    have e : (madeCells #[.int .i64 0, .int .i64 0, .int .u8 0, .int .i64 0, .int .i64 0] ((n + 1) * 5)).toList = (madeCells #[.int .i64 0, .int .i64 0, .int .u8 0, .int .i64 0, .int .i64 0] (n * 5)).toList ++ [.int .i64 0, .int .i64 0, .int .u8 0, .int .i64 0, .int .i64 0] := by
      simp only [madeCells, Array.toList_map, Array.toList_range, show (n + 1) * 5 = n * 5 + 1 + 1 + 1 + 1 + 1 by omega, List.range_succ, List.map_append, List.map_cons, List.map_nil, List.append_assoc, List.cons_append, List.nil_append]
      congr 1
      have e0 : n * 5 % 5 = 0 := by omega
      have e1 : (n * 5 + 1) % 5 = 1 := by omega
      have e2 : (n * 5 + 1 + 1) % 5 = 2 := by omega
      have e3 : (n * 5 + 1 + 1 + 1) % 5 = 3 := by omega
      have e4 : (n * 5 + 1 + 1 + 1 + 1) % 5 = 4 := by omega
      simp [e0, e1, e2, e3, e4]
    rw [e, ih, List.replicate_succ', cO_app, cO_one]
    rfl

/-- A row that make has made: zero values, or an empty line with room. -/
theorem row_made {w : World} {g m : Nat} {cur : List Value} (hg : w.heap[g]? = some (.cells cur.toArray 69 (0, 0))) (hcur : cur = (madeCells #[.int .i64 0, .int .i64 0, .int .u8 0, .int .i64 0, .int .i64 0] (m * 5)).toList) (hm : m ≤ 9223372036854775807) :
    RowO w g m m (List.replicate m zop) ∧ RowO w g 0 m [] := by
  subst hcur
  have hl : (madeCells #[.int .i64 0, .int .i64 0, .int .u8 0, .int .i64 0, .int .i64 0] (m * 5)).toList.length = m * 5 := by rw [made_zero, cO_len]; simp
  refine ⟨⟨_, hg, ?_, by simp, Nat.le_refl _, hm, hl⟩, ⟨_, hg, by simp [cO_nil], rfl, Nat.zero_le _, hm, hl⟩⟩
  rw [List.take_of_length_le (by omega), made_zero]

/-- A row of the call's own, from block base on. -/
def OwnO (w : World) (base : Nat) (v : Value) (xs : List OpE) : Prop := ∃ g c, base ≤ g ∧ v = .slice (some ⟨g, 0, none⟩) xs.length c ∧ RowO w g xs.length c xs

theorem OwnO.below {w w' : World} {base : Nat} {v : Value} {xs : List OpE} (h : OwnO w base v xs) (hb : Below w.heap.size w w') : OwnO w' base v xs := by
  obtain ⟨g, c, h1, h2, h3⟩ := h
  exact ⟨g, c, h1, h2, h3.fr (S := fun _ => False) (Fr.of_below hb) (fun h => h)⟩

/-- A copy of a whole line into a row of the call's own. -/
theorem run_copyO (w : World) (a : Option Addr) (n c m g : Nat) (xs : List OpE) (cur : List Value) (hE : IsO w a n c xs) (hg : w.heap[g]? = some (.cells cur.toArray 69 (0, 0))) (hl : cur.length = m * 5) (hm : n ≤ m) (hm63 : m ≤ 9223372036854775807) :
    ∃ w', (∀ ty, (Builtin.copy_ #[63, 63] ty #[.slice (some ⟨g, 0, none⟩) n m, .slice a n c]).run Tryz.prog w = .ok (goInt n) w') ∧ RowO w' g n m xs ∧ Fr (· = g) w w' := by
  obtain ⟨h1, h2, h3, h4⟩ := hE
  by_cases h0 : n = 0
  · subst h0
    obtain rfl := List.eq_nil_of_length_eq_zero h1
    exact ⟨w, fun ty => run_copy_zero w _ _ ty 69 _ _ _ _ _ _ 5 Tryz.underlying63 sizeO' (Nat.min_self _), ⟨cur, hg, by simp [cO_nil], rfl, hm, hm63, hl⟩, Fr.refl _ _⟩
  · obtain ⟨b, off, rfl, hlt, hc⟩ := h4 (by omega)
    have hcl : (cO xs).length = n * 5 := by rw [cO_len, h1]
    refine ⟨_, fun ty => run_copy_k w 63 63 ty 69 5 g 0 n m ⟨b, off, none⟩ n c n cur 69 (cO xs) Tryz.underlying63 sizeO' hg (Nat.min_self _).symm hcl (fun j v hj => by rw [add_lit]; exact hc j v hj) (by rw [hcl, hl]; omega) (cO_one' _), ?_, Fr.setRow _ _ _ rfl⟩
    refine ⟨_, setRow_heap w g _ _ 69 _ hg, ?_, h1, hm, hm63, by rw [length_splice _ _ _ (by rw [hcl, hl]; omega), hl]⟩
    have := splice_take_end cur 0 (cO xs) (Nat.zero_le _)
    rw [Nat.zero_add, hcl] at this
    simpa using this

theorem take_set_succ {α : Type} (xs : List α) (k : Nat) (x : α) (h : k < xs.length) : (xs.set k x).take (k + 1) = xs.take k ++ [x] := by
  rw [List.take_set, List.take_succ_eq_append_getElem h, List.set_append_right _ _ (by simp; omega)]
  have : k - (xs.take k).length = 0 := by simp; omega
  rw [this]
  rfl

end Go.Proofs.YtfhghijefjhehaaGreatDoor

/-! Na -/
namespace Go.Proofs.YtfhghijefjhehaaGreatDoor
open Go.RowKit
set_option linter.unusedVariables false

set_option maxRecDepth 100000 in
set_option maxHeartbeats 4000000 in
theorem copied_any (a : Option Addr) (n c : Nat) (xs : List OpE) (w : World) (hE : IsO w a n c xs) (hn : n * 40 ≤ 281474976710656) :
    Calls Tryz.prog 128 #[.slice a n c] w fun e w' => ∃ v, e = .returned v ∧ OwnO w' w.heap.size v xs ∧ Below w.heap.size w w' := by
  obtain ⟨i0, hi0, hz0, hz1, hz2⟩ := info_parts Tryz.infoO
  have HE := hd hE
  have HN : Hid (xs.length = n) := hE.1
  have n63 : n ≤ 9223372036854775807 := by omega
  clear hE
  go_enter Tryz.func128, Tryz.ntmps128
  go_wp2_with (first | (at_make; refine wpList_make_k _ rfl _ _ 63 rfl 69 i0 _ Tryz.underlying63 hi0 hz0 _ _ _ _ n n rfl rfl rfl rfl (Nat.le_refl _) (by rw [hz2]; omega) (by omega) ?_; intro w3 cur hg3 hcur hb3) | fail)
  have hl3 : cur.length = n * 5 := by
    have := hcur.out
    rw [hz1] at this
    rw [this, show (Value.agg #[.int .i64 0, .int .i64 0, .int .u8 0, .int .i64 0, .int .i64 0]).cells = #[.int .i64 0, .int .i64 0, .int .u8 0, .int .i64 0, .int .i64 0] from rfl, made_zero, cO_len]
    simp
  obtain ⟨w4, hr4, hR4, hF4⟩ := run_copyO w3 a n c n w.heap.size xs cur (HE.out.below hb3.out) hg3.out hl3 (Nat.le_refl _) n63
  have R : Hid (OwnO w4 w.heap.size (.slice (some ⟨w.heap.size, 0, none⟩) n n) xs ∧ Below w.heap.size w w4) := by
    refine ⟨⟨_, n, Nat.le_refl _, by rw [HN.out], by rw [HN.out]; exact hR4⟩, hb3.out.trans (hF4.below hb3.out.size (fun k h => by rw [h]; exact Nat.le_refl _))⟩
  clear hg3 hcur hb3 hi0 hz0 hz1 hz2 hl3 hR4 hF4
  rw [hr4]
  go_wp2
  go_ret
  exact ⟨_, rfl, R.out⟩

end Go.Proofs.YtfhghijefjhehaaGreatDoor

/-! Hf -/
namespace Go.Proofs.YtfhghijefjhehaaGreatDoor
open Go.RowKit
set_option linter.unusedVariables false

theorem wrap64_id {n : Int} (h0 : -9223372036854775808 ≤ n) (h1 : n ≤ 9223372036854775807) : wrap64 n = n := by rw [wrap64]; omega

/-- A log in memory. -/
def IsL (w : World) (a : Option Addr) (n : Nat) (log : List Ed) : Prop :=
  log.length = n ∧ (0 < n → ∃ b off, a = some ⟨b, off, none⟩ ∧ b < w.heap.size ∧ ∀ i (h : i < log.length), w.cell? ⟨b, off + i * 6, none⟩ = some (.int .i64 log[i].tag) ∧ w.cell? ⟨b, off + i * 6 + 1, none⟩ = some (.int .i64 log[i].o.kind) ∧
    w.cell? ⟨b, off + i * 6 + 2, none⟩ = some (.int .i64 log[i].o.pos) ∧ w.cell? ⟨b, off + i * 6 + 3, none⟩ = some (.int .u8 log[i].o.ch) ∧ w.cell? ⟨b, off + i * 6 + 4, none⟩ = some (.int .i64 log[i].o.cl) ∧ w.cell? ⟨b, off + i * 6 + 5, none⟩ = some (.int .i64 log[i].o.sq))
/-- Events in memory; of their texts only where they lie. -/
def IsV (w : World) (a : Option Addr) (n : Nat) (evs : List Ev) (A : Nat → Option Addr) (K : Nat → Nat) : Prop :=
  evs.length = n ∧ (0 < n → ∃ b off, a = some ⟨b, off, none⟩ ∧ b < w.heap.size ∧ ∀ i (h : i < evs.length), w.cell? ⟨b, off + i * 10, none⟩ = some (.int .i64 evs[i].step) ∧ w.cell? ⟨b, off + i * 10 + 1, none⟩ = some (.int .i64 evs[i].site) ∧
    w.cell? ⟨b, off + i * 10 + 2, none⟩ = some (.int .i64 evs[i].hav) ∧ w.cell? ⟨b, off + i * 10 + 3, none⟩ = some (.int .i64 evs[i].made) ∧
    w.cell? ⟨b, off + i * 10 + 4, none⟩ = some (.int .i64 evs[i].o.kind) ∧ w.cell? ⟨b, off + i * 10 + 5, none⟩ = some (.int .i64 evs[i].o.pos) ∧ w.cell? ⟨b, off + i * 10 + 6, none⟩ = some (.int .u8 evs[i].o.ch) ∧
    w.cell? ⟨b, off + i * 10 + 7, none⟩ = some (.int .i64 evs[i].o.cl) ∧ w.cell? ⟨b, off + i * 10 + 8, none⟩ = some (.int .i64 evs[i].o.sq) ∧ w.cell? ⟨b, off + i * 10 + 9, none⟩ = some (.slice (A i) evs[i].len (K i)))

theorem IsL.below {w w' : World} {a : Option Addr} {n B : Nat} {log : List Ed} (h : IsL w a n log) (hb : Below B w w') (hB : w.heap.size ≤ B) : IsL w' a n log := by
  refine ⟨h.1, fun hn => ?_⟩
  obtain ⟨b, off, e, hlt, hc⟩ := h.2 hn
  refine ⟨b, off, e, Nat.lt_of_lt_of_le hlt hb.size, fun i hi => ?_⟩
  have k : ∀ j, w'.cell? ⟨b, j, none⟩ = w.cell? ⟨b, j, none⟩ := fun j => hb.cell (p := ⟨b, j, none⟩) (show b < B by omega)
  simp only [k]
  exact hc i hi
theorem IsV.below {w w' : World} {a : Option Addr} {n B : Nat} {evs : List Ev} {A : Nat → Option Addr} {K : Nat → Nat} (h : IsV w a n evs A K) (hb : Below B w w') (hB : w.heap.size ≤ B) : IsV w' a n evs A K := by
  refine ⟨h.1, fun hn => ?_⟩
  obtain ⟨b, off, e, hlt, hc⟩ := h.2 hn
  refine ⟨b, off, e, Nat.lt_of_lt_of_le hlt hb.size, fun i hi => ?_⟩
  have k : ∀ j, w'.cell? ⟨b, j, none⟩ = w.cell? ⟨b, j, none⟩ := fun j => hb.cell (p := ⟨b, j, none⟩) (show b < B by omega)
  simp only [k]
  exact hc i hi

/-- The box of a history. -/
theorem box_hist (w : World) (cs : Array Value) (t : TypeId) : (w.alloc (.cells cs t)).heap[w.heap.size]? = some (.cells cs t (0, 0)) := heap_alloc_new _ _

theorem lgAt_succ (log : List Ed) (k : Nat) (c : Int) (h : k < log.length) : (lgAt log (k + 1) c).length = (lgAt log k c).length + if log[k].o.cl = c then 1 else 0 := by
  simp only [lgAt, List.getElem?_eq_getElem h, List.length_append]
  split <;> rfl
theorem lgAt_le (log : List Ed) (k : Nat) (c : Int) : (lgAt log k c).length ≤ k := by
  induction k with
  | zero => simp [lgAt]
  | succ k ih =>
    simp only [lgAt, List.length_append]
    split
    · split <;> simp <;> omega
    · simp; omega

set_option maxRecDepth 100000 in
set_option maxHeartbeats 4000000 in
theorem ownAmong_any (C c : Int) (aL aE : Option Addr) (nL cL nE cE k : Nat) (log : List Ed) (w : World) (hL : IsL w aL nL log) (hk : k ≤ nL) (hn : nL ≤ 4096) :
    Calls Tryz.prog 91 #[.agg #[.int .i64 C, .slice aL nL cL, .slice aE nE cE], .int .i64 c, .int .i64 k] w fun e w' => e = .returned (.int .i64 ((lgAt log k c).length : Nat)) ∧ Below w.heap.size w w' := by
  have g := box_hist w #[.int .i64 C, .slice aL nL cL, .slice aE nE cE] 25
  have gb : Below w.heap.size w (w.alloc (.cells #[.int .i64 C, .slice aL nL cL, .slice aE nE cE] 25)) := (Below.refl _ _).alloc (Nat.le_refl _) _
  have H1 := hd (hL.below gb (Nat.le_refl _))
  have HG := hd g
  have HB := hd gb
  clear hL g gb
  go_enter Tryz.func91, Tryz.ntmps91
  go_upto_region 1 with fail
  generalize w.alloc (.cells #[.int .i64 C, .slice aL nL cL, .slice aE nE cE] 25) = w0 at *
  go_wp2_with fail
  have x1 := cell_row HG.out 1
  simp at x1
  have HN := hd hn
  have HK := hd hk
  clear hn hk
  go_loopw [7, 8] (fun n b wr => ∃ i : Nat, i ≤ k ∧ b = .int .i64 i ∧ wr = w0 ∧ n = .int .i64 ((lgAt log i c).length : Nat)) (fun _ b _ => k - (intOf b).toNat)
  case atStart => exact ⟨0, Nat.zero_le _, rfl, rfl, rfl⟩
  case round =>
    obtain ⟨i, hi, rfl, rfl, rfl⟩ := hrel
    by_cases hlt : i < k
    · have l1 : i < log.length := by have := H1.out.1; have := HK.out; omega
      obtain ⟨b, off, rfl, s1, q⟩ := H1.out.2 (by have := HK.out; omega)
      obtain ⟨q0, q1, q2, q3, q4, q5⟩ := q i l1
      have HS := hd (lgAt_succ log i c l1)
      have HC := hd (lgAt_le log i c)
      have i1 : (i : Int) < (nL : Int) := by have := HK.out; omega
      have i2 : (i : Int) < (k : Int) := by omega
      generalize lgAt log i c = L at *
      generalize log[i] = x at *
      obtain ⟨tg, ok, op, oc, ol, os⟩ := x
      simp only at q0 q1 q2 q3 q4 q5 HS
      clear q q0 q1 q2 q3 q5
      by_cases hc : ol = c
      · subst hc
        have Z : Hid (∃ j : Nat, j ≤ k ∧ Value.int .i64 (wrap64 ((i : Int) + 1)) = Value.int .i64 j ∧ wr = wr ∧ Value.int .i64 (wrap64 ((L.length : Int) + 1)) = .int .i64 ((lgAt log j ol).length : Nat)) := by
          have e1 := HS.out
          have e2 := HC.out
          have e3 := HN.out
          have e4 := HK.out
          rw [if_pos rfl] at e1
          refine ⟨i + 1, by omega, by rw [wrap64_id (by omega) (by omega)]; rfl, rfl, ?_⟩
          rw [e1, wrap64_id (by omega) (by omega)]
          rfl
        have Z2 : Hid (k - (intOf (Value.int .i64 (wrap64 ((i : Int) + 1)))).toNat < k - (intOf (Value.int .i64 (i : Int))).toNat) := by
          have e3 := HN.out
          have e4 := HK.out
          rw [wrap64_id (by omega) (by omega)]
          simp only [Hid, intOf]
          omega
        clear HS HC
        go_wp2
        exact ⟨by simpa using Z.out, by simpa using Z2.out⟩
      · have hb : (ol == c) = false := by simpa using hc
        have Z : Hid (∃ j : Nat, j ≤ k ∧ Value.int .i64 (wrap64 ((i : Int) + 1)) = Value.int .i64 j ∧ wr = wr ∧ Value.int .i64 (L.length : Int) = .int .i64 ((lgAt log j c).length : Nat)) := by
          have e1 := HS.out
          have e2 := HC.out
          have e3 := HN.out
          have e4 := HK.out
          rw [if_neg hc] at e1
          refine ⟨i + 1, by omega, by rw [wrap64_id (by omega) (by omega)]; rfl, rfl, ?_⟩
          rw [e1]
          rfl
        have Z2 : Hid (k - (intOf (Value.int .i64 (wrap64 ((i : Int) + 1)))).toNat < k - (intOf (Value.int .i64 (i : Int))).toNat) := by
          have e3 := HN.out
          have e4 := HK.out
          rw [wrap64_id (by omega) (by omega)]
          simp only [Hid, intOf]
          omega
        clear HS HC
        go_wp2
        exact ⟨by simpa using Z.out, by simpa using Z2.out⟩
    · obtain rfl : i = k := by omega
      go_wp2
      go_ret
      exact ⟨rfl, HB.out⟩

end Go.Proofs.YtfhghijefjhehaaGreatDoor

/-! Hw -/
namespace Go.Proofs.YtfhghijefjhehaaGreatDoor
open Go.RowKit
set_option linter.unusedVariables false

/-- A world in which all that was there at u is as it was. -/
structure Wd (u : World) where
  W : World
  ok : Below u.heap.size u W

theorem Wd.cell {u : World} (x : Wd u) {p : Addr} {v : Value} (h : u.cell? p = some v) (hp : p.block < u.heap.size) : x.W.cell? p = some v := (x.ok.cell (p := p) hp).trans h

theorem wp_region_calm {P : Program} {id : Nat} {Q : Exit → Act → World → Prop} {a : Act} {w : World} {l : List Oper} (hm : P.follows .mixedOrders = true) (hB : Region.lexB .any l.toArray = true)
    (h : wpQuiet P l.toArray (fun w' => ∃ x : Wd w, w' = x.W) (fun a' => ∀ w', (∃ x : Wd w, w' = x.W) → Q .normal a' w') l a) : (Code.region id l.toArray true).wp P Q a w :=
  wp_region_quiet (C := fun w' => ∃ x : Wd w, w' = x.W) hm hB ⟨⟨_, below_drewN (Below.refl _ w) 1⟩, rfl⟩ (by simpa using h)

theorem calm_call {P : Program} {f : FuncId} {args : Array Value} {u : World} {v : Value} {x : Wd u} (h : Calls P f args x.W fun e w' => e = .returned v ∧ Below x.W.heap.size x.W w') : Calls P f args x.W fun e w' => e = .returned v ∧ ∃ y : Wd u, w' = y.W :=
  h.mono fun e w' ⟨he, hb⟩ => ⟨he, ⟨w', x.ok.trans (hb.mono x.ok.size)⟩, rfl⟩

end Go.Proofs.YtfhghijefjhehaaGreatDoor

/-! Hl -/
namespace Go.Proofs.YtfhghijefjhehaaGreatDoor
set_option linter.unusedVariables false

theorem lgAt_filter (log : List Ed) (c : Int) (m : Nat) : ∀ n, m ≤ n → (lgAt log n c).filter (fun j => decide (j < m)) = lgAt log m c
  | 0, h => by
    obtain rfl : m = 0 := by omega
    rfl
  | n + 1, h => by
    by_cases e : m = n + 1
    · subst e
      exact List.filter_eq_self.2 fun j hj => decide_eq_true (lgAt_lt hj).1
    · have ih := lgAt_filter log c m n (by omega)
      simp only [lgAt, List.filter_append, ih]
      cases log[n]? with
      | none => simp
      | some x =>
        by_cases hc : x.o.cl = c
        · have : ¬ n < m := by omega
          simp [hc, this]
        · simp [hc]
theorem ownN_eq (log : List Ed) (c : Int) (m : Nat) (h : m ≤ log.length) : ownN (log := log) m c = (lgAt log m c).length := by
  unfold ownN
  rw [lgAt_filter log c m log.length h]
end Go.Proofs.YtfhghijefjhehaaGreatDoor

/-! Wa -/
namespace Go.Proofs.YtfhghijefjhehaaGreatDoor
open Go.RowKit
set_option linter.unusedVariables false

/-- The table of rules, as its text lays it. -/
def Table (w : World) : Prop :=
  1 < w.heap.size ∧ w.cell? ⟨1, 0, none⟩ = some (.int .i64 0) ∧ w.cell? ⟨1, 1, none⟩ = some (.int .i64 0) ∧ w.cell? ⟨1, 2, none⟩ = some (.int .i64 0) ∧
  w.cell? ⟨1, 3, none⟩ = some (.int .i64 0) ∧ w.cell? ⟨1, 4, none⟩ = some (.int .i64 1) ∧ w.cell? ⟨1, 5, none⟩ = some (.int .i64 2) ∧
  w.cell? ⟨1, 6, none⟩ = some (.int .i64 0) ∧ w.cell? ⟨1, 7, none⟩ = some (.int .i64 3) ∧ w.cell? ⟨1, 8, none⟩ = some (.int .i64 4)

theorem Table.below {B : Nat} {w w' : World} (h : Table w) (hb : Below B w w') (hB : 1 < B) : Table w' := by
  obtain ⟨h0, r⟩ := h
  have hc : ∀ i, w'.cell? ⟨1, i, none⟩ = w.cell? ⟨1, i, none⟩ := fun i => hb.cell (p := ⟨1, i, none⟩) hB
  refine ⟨Nat.lt_of_lt_of_le h0 hb.size, ?_⟩
  simp only [hc]
  exact r

def rowP (k : Int) : Nat := if k = 1 then 1 else if k = 2 then 2 else 0

theorem row_any (k : Int) (w : World) : Calls Tryz.prog 158 #[.int .i64 k] w fun e w' => e = .returned (.int .i64 (rowP k)) ∧ w = w' := by
  by_cases h1 : k = 1
  · subst h1
    rw [show rowP 1 = 1 from rfl]
    go_enter Tryz.func158, Tryz.ntmps158
    go_wp2
    go_ret
    exact ⟨rfl, rfl⟩
  · by_cases h2 : k = 2
    · subst h2
      rw [show rowP 2 = 2 from rfl]
      go_enter Tryz.func158, Tryz.ntmps158
      go_wp2
      go_ret
      exact ⟨rfl, rfl⟩
    · rw [show rowP k = 0 from by simp [rowP, h1, h2]]
      have b1 : (k == 1) = false := by simpa using h1
      have b2 : (k == 2) = false := by simpa using h2
      clear h1 h2
      go_enter Tryz.func158, Tryz.ntmps158
      go_wp2
      go_ret
      exact ⟨rfl, rfl⟩

theorem pushed_any (a : OpE) (l : Bool) (w : World) : Calls Tryz.prog 159 #[a.val, .bool l] w fun e w' =>
    e = .returned (OpE.val ⟨a.kind, if l then wrap64 (a.pos + 1) else a.pos, a.ch, a.cl, a.sq⟩) ∧ Below w.heap.size w w' := by
  obtain ⟨k, p, c, q, s⟩ := a
  simp only [OpE.val]
  cases l
  · simp only [Bool.false_eq_true, if_false]
    go_enter Tryz.func159, Tryz.ntmps159
    go_wp2
    refine bodyPost_ret (v := .agg #[.int .i64 k, .int .i64 p, .int .u8 c, .int .i64 q, .int .i64 s]) (by simp [results, Tryz.results159, go_sem]) rfl ?_
    exact ⟨rfl, ((Below.refl _ _).alloc (Nat.le_refl _) _).alloc (by simp) _⟩
  · simp only [if_true]
    go_enter Tryz.func159, Tryz.ntmps159
    go_wp2
    refine bodyPost_ret (v := .agg #[.int .i64 k, .int .i64 (wrap64 (p + 1)), .int .u8 c, .int .i64 q, .int .i64 s]) (by simp [results, Tryz.results159, go_sem]) rfl ?_
    exact ⟨rfl, ((Below.refl _ _).alloc (Nat.le_refl _) _).alloc (by simp) _⟩

theorem pulled_any (a : OpE) (l : Bool) (w : World) : Calls Tryz.prog 160 #[a.val, .bool l] w fun e w' =>
    e = .returned (OpE.val ⟨a.kind, if l then wrap64 (a.pos - 1) else a.pos, a.ch, a.cl, a.sq⟩) ∧ Below w.heap.size w w' := by
  obtain ⟨k, p, c, q, s⟩ := a
  simp only [OpE.val]
  cases l
  · simp only [Bool.false_eq_true, if_false]
    go_enter Tryz.func160, Tryz.ntmps160
    go_wp2
    refine bodyPost_ret (v := .agg #[.int .i64 k, .int .i64 p, .int .u8 c, .int .i64 q, .int .i64 s]) (by simp [results, Tryz.results160, go_sem]) rfl ?_
    exact ⟨rfl, ((Below.refl _ _).alloc (Nat.le_refl _) _).alloc (by simp) _⟩
  · simp only [if_true]
    go_enter Tryz.func160, Tryz.ntmps160
    go_wp2
    refine bodyPost_ret (v := .agg #[.int .i64 k, .int .i64 (wrap64 (p - 1)), .int .u8 c, .int .i64 q, .int .i64 s]) (by simp [results, Tryz.results160, go_sem]) rfl ?_
    exact ⟨rfl, ((Below.refl _ _).alloc (Nat.le_refl _) _).alloc (by simp) _⟩

theorem nothing_any (a : OpE) (w : World) : Calls Tryz.prog 161 #[a.val] w fun e w' =>
    e = .returned (OpE.val ⟨0, 0, 0, a.cl, a.sq⟩) ∧ Below w.heap.size w w' := by
  obtain ⟨k, p, c, q, s⟩ := a
  simp only [OpE.val]
  go_enter Tryz.func161, Tryz.ntmps161
  go_wp2
  refine bodyPost_ret (v := .agg #[.int .i64 0, .int .i64 0, .int .u8 0, .int .i64 q, .int .i64 s]) (by simp [results, Tryz.results161, go_sem]) rfl ?_
  exact ⟨rfl, ((Below.refl _ _).alloc (Nat.le_refl _) _).alloc (by simp) _⟩

end Go.Proofs.YtfhghijefjhehaaGreatDoor
