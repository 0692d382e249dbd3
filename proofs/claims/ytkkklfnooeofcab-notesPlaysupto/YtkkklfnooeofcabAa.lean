/-
  Frames; rows of elements of several cells each.
-/
import Derived.Test.YtkkklfnooeofcabRows
import Derived.WalkKit
import Derived.WalkSpells
import Derived.WalkLawsBesides
import Derived.Laws.CopyOwn
import Derived.Laws.MakeOwn
import Derived.Deep.DeepAppendWide
namespace Go.Proofs.Ytkkklfnooeofcab
open Go.RowKit
set_option linter.unusedVariables false

theorem hd {p : Prop} (h : p) : Hid p := h

/-- Every block that was there is as it was, but for the blocks of S. -/
structure Fr (S : Nat → Prop) (w w' : World) : Prop where
  os : w'.os = w.os
  tape : w'.tape = w.tape
  output : w'.output = w.output
  size : w.heap.size ≤ w'.heap.size
  block : ∀ k, k < w.heap.size → ¬ S k → w'.heap[k]? = w.heap[k]?

theorem Fr.refl (S : Nat → Prop) (w : World) : Fr S w w := ⟨rfl, rfl, rfl, Nat.le_refl _, fun _ _ _ => rfl⟩
theorem Fr.trans {S : Nat → Prop} {a b c : World} (h : Fr S a b) (k : Fr S b c) : Fr S a c :=
  ⟨k.os.trans h.os, k.tape.trans h.tape, k.output.trans h.output, Nat.le_trans h.size k.size, fun i hi hr => (k.block i (Nat.lt_of_lt_of_le hi h.size) hr).trans (h.block i hi hr)⟩
theorem Fr.next {S S' : Nat → Prop} {a b c : World} (h : Fr S a b) (k : Fr S' b c) (hS : ∀ i, i < a.heap.size → S' i → S i) : Fr S a c :=
  ⟨k.os.trans h.os, k.tape.trans h.tape, k.output.trans h.output, Nat.le_trans h.size k.size, fun i hi hr => (k.block i (Nat.lt_of_lt_of_le hi h.size) (fun hs => hr (hS i hi hs))).trans (h.block i hi hr)⟩
theorem Fr.mono {S S' : Nat → Prop} {w w' : World} (h : Fr S w w') (hS : ∀ k, k < w.heap.size → S k → S' k) : Fr S' w w' :=
  ⟨h.os, h.tape, h.output, h.size, fun k hk hn => h.block k hk (fun hs => hn (hS k hk hs))⟩
theorem Fr.of_below {S : Nat → Prop} {w w' : World} (h : Below w.heap.size w w') : Fr S w w' := ⟨h.os, h.tape, h.output, h.size, fun k hk _ => h.block k hk⟩
theorem Fr.below {S : Nat → Prop} {B : Nat} {w w' : World} (h : Fr S w w') (hB : B ≤ w.heap.size) (hS : ∀ k, S k → B ≤ k) : Below B w w' :=
  ⟨h.os, h.tape, h.output, h.size, fun k hk => h.block k (by omega) (fun hs => by have := hS k hs; omega)⟩
theorem Fr.drewN (S : Nat → Prop) (w : World) (m : Nat) : Fr S w (w.drewN m) := ⟨rfl, rfl, rfl, Nat.le_refl _, fun _ _ _ => rfl⟩
theorem Fr.drew (S : Nat → Prop) (w : World) : Fr S w w.drew := ⟨rfl, rfl, rfl, Nat.le_refl _, fun _ _ _ => rfl⟩
theorem Fr.setCell {S : Nat → Prop} (w : World) (p : Addr) (u : Value) (hp : S p.block) : Fr S w (w.setCell p u) :=
  ⟨rfl, rfl, rfl, by simp, fun k _ hk => Below.heap_setCell w p u k (fun h => hk (h ▸ hp))⟩
theorem Fr.setRow {S : Nat → Prop} (w : World) (g : Nat) (cs : Array Value) (hp : S g) : Fr S w (w.setRow g cs) :=
  ⟨rfl, rfl, rfl, by simp, fun k _ hk => setRow_other w g k cs (fun h => hk (h ▸ hp))⟩
theorem Fr.alloc (S : Nat → Prop) (w : World) (o : Obj) : Fr S w (w.alloc o) := Fr.of_below ((Below.refl _ _).alloc (Nat.le_refl _) o)
theorem Fr.cell {S : Nat → Prop} {w w' : World} (h : Fr S w w') {p : Addr} (hp : p.block < w.heap.size) (hr : ¬ S p.block) : w'.cell? p = w.cell? p := World.cell?_of_block (w := w) (h.block p.block hp hr)

theorem block_lt {w : World} {r : Nat} {o : Obj} (h : w.heap[r]? = some o) : r < w.heap.size := by
  by_cases hg : r < w.heap.size
  · exact hg
  · rw [Array.getElem?_eq_none (by omega)] at h
    simp at h

theorem Fr.keeps {S : Nat → Prop} {w w' : World} (h : Fr S w w') {r : Nat} {o : Obj} (hr : w.heap[r]? = some o) (hS : ¬ S r) : w'.heap[r]? = some o := (h.block r (block_lt hr) hS).trans hr

theorem cell_row {w : World} {r : Nat} {cur : Array Value} {t : TypeId} (h : w.heap[r]? = some (.cells cur t (0, 0))) (i : Nat) : w.cell? ⟨r, i, none⟩ = cur[i]? := by
  simp [World.cell?, h]
theorem frozen_row {w : World} {r : Nat} {cur : Array Value} {t : TypeId} (h : w.heap[r]? = some (.cells cur t (0, 0))) (i : Nat) : w.frozen? ⟨r, i, none⟩ = false := by
  simp [World.frozen?, h]
theorem set_row {w : World} {r : Nat} {cur : Array Value} {t : TypeId} (h : w.heap[r]? = some (.cells cur t (0, 0))) (i : Nat) (u : Value) : (w.setCell ⟨r, i, none⟩ u).heap[r]? = some (.cells (cur.setIfInBounds i u) t (0, 0)) :=
  heap_setCell_same w r i cur t u h

theorem add_lit (b o j : Nat) : (⟨b, o, none⟩ : Addr).add j = ⟨b, o + j, none⟩ := by
  by_cases h0 : j = 0
  · subst h0; simp [Addr.add]
  · simp [Addr.add, h0]

/-- An element has k cells. -/
def Sz {α : Type} (f : α → List Value) (k : Nat) : Prop := ∀ x, (f x).length = k ∧ ∀ v ∈ f x, v.oneCell' = true

/-- The cells of a list. -/
def cl {α : Type} (f : α → List Value) (xs : List α) : List Value := xs.flatMap f

section
variable {α : Type} {f : α → List Value} {k : Nat}
theorem cl_nil : cl f [] = [] := rfl
theorem cl_one (x : α) : cl f [x] = f x := by simp [cl]
theorem cl_app (xs ys : List α) : cl f (xs ++ ys) = cl f xs ++ cl f ys := by simp [cl]
theorem cl_cons (x : α) (xs : List α) : cl f (x :: xs) = f x ++ cl f xs := by simp [cl]
theorem cl_len (h : Sz f k) (xs : List α) : (cl f xs).length = xs.length * k := by
  induction xs with
  | nil => simp [cl_nil]
  | cons x xs ih => rw [cl_cons, List.length_append, ih, (h x).1, List.length_cons, Nat.add_mul]; omega
theorem cl_cells (h : Sz f k) (xs : List α) : ∀ v ∈ cl f xs, v.oneCell' = true := by
  intro v hv
  obtain ⟨x, -, hx⟩ := List.mem_flatMap.1 hv
  exact (h x).2 v hx
theorem cl_drop (h : Sz f k) (xs : List α) (i : Nat) : (cl f xs).drop (i * k) = cl f (xs.drop i) := by
  induction xs generalizing i with
  | nil => simp [cl_nil]
  | cons x xs ih =>
    cases i with
    | zero => simp
    | succ i =>
      rw [cl_cons, Nat.add_mul, Nat.one_mul, List.drop_succ_cons, ← ih i, List.drop_append]
      rw [List.drop_eq_nil_of_le (by rw [(h x).1]; omega), List.nil_append, (h x).1, Nat.add_sub_cancel]
theorem cl_take (h : Sz f k) (xs : List α) (i : Nat) : (cl f xs).take (i * k) = cl f (xs.take i) := by
  induction xs generalizing i with
  | nil => simp [cl_nil]
  | cons x xs ih =>
    cases i with
    | zero => simp [cl_nil]
    | succ i =>
      rw [cl_cons, Nat.add_mul, Nat.one_mul, List.take_succ_cons, cl_cons, ← ih i, List.take_append]
      rw [List.take_of_length_le (by rw [(h x).1]; omega), (h x).1, Nat.add_sub_cancel]
theorem cl_get (h : Sz f k) (xs : List α) (i j : Nat) (hi : i < xs.length) (hj : j < k) : (cl f xs)[i * k + j]? = (f xs[i])[j]? := by
  have h1 : (cl f xs)[i * k + j]? = ((cl f xs).drop (i * k))[j]? := by rw [List.getElem?_drop]
  rw [h1, cl_drop h, List.drop_eq_getElem_cons hi, cl_cons, List.getElem?_append_left (by rw [(h _).1]; exact hj)]
end

/-- Block g is a row of cap elements of type e, the first N of them xs. -/
def RowF {α : Type} (f : α → List Value) (k : Nat) (w : World) (g N cap : Nat) (e : TypeId) (xs : List α) : Prop :=
  ∃ cur : List Value, w.heap[g]? = some (.cells cur.toArray e (0, 0)) ∧ cur.take (N * k) = cl f xs ∧ xs.length = N ∧ N ≤ cap ∧ cap ≤ 9223372036854775807 ∧ cur.length = cap * k

/-- nil, or a row. -/
def SF {α : Type} (f : α → List Value) (k : Nat) (w : World) (e : TypeId) (β : Option Nat) (v : Value) (xs : List α) : Prop :=
  match β with
  | none => v = .slice none 0 0 ∧ xs = []
  | some g => ∃ cap, v = .slice (some ⟨g, 0, none⟩) xs.length cap ∧ RowF f k w g xs.length cap e xs

section
variable {α : Type} {f : α → List Value} {k : Nat} {w w' : World} {g N cap : Nat} {e : TypeId} {xs : List α} {S : Nat → Prop} {β : Option Nat} {v : Value}
theorem RowF.fr (h : RowF f k w g N cap e xs) (hF : Fr S w w') (hS : ¬ S g) : RowF f k w' g N cap e xs := by
  obtain ⟨cur, hh, r⟩ := h
  exact ⟨cur, hF.keeps hh hS, r⟩
theorem RowF.lt (h : RowF f k w g N cap e xs) : g < w.heap.size := by
  obtain ⟨cur, hh, _⟩ := h
  exact block_lt hh
theorem RowF.cell (h : RowF f k w g N cap e xs) (hz : Sz f k) (i j : Nat) (hi : i < xs.length) (hj : j < k) : w.cell? ⟨g, i * k + j, none⟩ = (f xs[i])[j]? := by
  obtain ⟨cur, hh, ht, hl, _⟩ := h
  have hlt : i * k + j < N * k := by
    have : (i + 1) * k ≤ N * k := Nat.mul_le_mul_right _ (by omega)
    rw [Nat.add_mul] at this
    omega
  rw [cell_row hh, ← cl_get hz xs i j hi hj, ← ht, List.getElem?_take, if_pos hlt]
  simp
theorem RowF.cells (h : RowF f k w g N cap e xs) (hz : Sz f k) (i : Nat) : ∀ j u, (cl f (xs.drop i))[j]? = some u → w.cell? ((⟨g, i * k, none⟩ : Addr).add j) = some u := by
  intro j u hj
  obtain ⟨cur, hh, ht, hl, _⟩ := h
  rw [add_lit, cell_row hh]
  rw [← cl_drop hz, List.getElem?_drop, ← ht] at hj
  have hjl := (List.getElem?_eq_some_iff.1 hj).1
  rw [List.length_take] at hjl
  rw [List.getElem?_take, if_pos (by omega)] at hj
  simpa using hj

theorem SF.fr (h : SF f k w e β v xs) (hF : Fr S w w') (hS : ∀ g, β = some g → ¬ S g) : SF f k w' e β v xs := by
  cases β with
  | none => exact h
  | some g =>
    obtain ⟨cap, hv, hR⟩ := h
    exact ⟨cap, hv, hR.fr hF (hS g rfl)⟩
theorem SF.form (h : SF f k w e β v xs) : ∃ a c, v = .slice a xs.length c ∧ xs.length ≤ c ∧ c ≤ 9223372036854775807 := by
  cases β with
  | none =>
    obtain ⟨rfl, rfl⟩ := h
    exact ⟨none, 0, rfl, by simp, by omega⟩
  | some g =>
    obtain ⟨cap, rfl, cur, -, -, -, h1, h2, -⟩ := h
    exact ⟨_, cap, rfl, h1, h2⟩
theorem SF.lt (h : SF f k w e β v xs) : ∀ g, β = some g → g < w.heap.size := by
  rintro g rfl
  obtain ⟨cap, hv, hR⟩ := h
  exact hR.lt
theorem SF.blk {g : Nat} (h : SF f k w e (some g) v xs) : ∃ cur, w.heap[g]? = some (.cells cur e (0, 0)) := by
  obtain ⟨cap, -, cur, hh, -⟩ := h
  exact ⟨_, hh⟩
end

/-- What an append leaves: the same row, or a new one behind all that was there. -/
def NowF {α : Type} (f : α → List Value) (k : Nat) (w w' : World) (e : TypeId) (β : Option Nat) (v' : Value) (xs : List α) : Prop :=
  ∃ g', SF f k w' e (some g') v' xs ∧ ((β = some g' ∧ Fr (· = g') w w') ∨ (g' = w.heap.size ∧ Fr (fun _ => False) w w'))

theorem run_pushF {α : Type} {f : α → List Value} {k : Nat} (hz : Sz f k) {P : Program} (w : World) (t ty e : TypeId) (i : TypeInfo) (z : Value) (bytes : Nat) (ht : P.underlying t = some (.slice e)) (hi : P.info? e = some i) (hzo : i.zero = some z) (hsz : i.size = k) (hzs : z.cells.size = k) (hby : i.bytes = bytes)
    (β : Option Nat) (v : Value) (xs : List α) (hv : SF f k w e β v xs) (ad : Addr) (m c : Nat) (ys : List α) (hl : ys.length = m) (hnews : ∀ j u, (cl f ys)[j]? = some u → w.cell? (ad.add j) = some u)
    (hm : 0 < m) (h63 : xs.length + m ≤ 9223372036854775807) (hb : ((xs.length + m) + (xs.length + m) / 4 + 192) * bytes ≤ 281474976710656) :
    ∃ v' w', (Builtin.append_ #[t, t] ty #[v, .slice (some ad) m c]).run P w = .ok v' w' ∧ NowF f k w w' e β v' (xs ++ ys) := by
  subst hby
  subst hsz
  have hmx : xs.length + m ≤ maxLen := h63
  have hlm : (cl f ys).length = m * i.size := by rw [cl_len hz, hl]
  have h1 := cl_cells hz ys
  have newrow : ∀ G, xs.length + m ≤ G → G ≤ 9223372036854775807 → RowF f i.size (w.drew.alloc (.cells ((cl f xs).toArray ++ (cl f ys).toArray ++ Builtin.zeroCells z.cells (G - (xs.length + m))) e)) w.heap.size (xs.length + m) G e (xs ++ ys) := by
    intro G hG1 hG2
    refine ⟨((cl f xs).toArray ++ (cl f ys).toArray ++ Builtin.zeroCells z.cells (G - (xs.length + m))).toList, ?_, ?_, by simp [hl], hG1, hG2, ?_⟩
    · rw [show w.heap.size = w.drew.heap.size from rfl, heap_alloc_new]
    · rw [Array.toList_append, Array.toList_append, List.toList_toArray, List.toList_toArray]
      have : (cl f xs ++ cl f ys).length = (xs.length + m) * i.size := by rw [List.length_append, cl_len hz, cl_len hz, hl, Nat.add_mul]
      rw [← this, List.take_left, cl_app]
    · rw [Array.toList_append, Array.toList_append, List.length_append, List.length_append, List.toList_toArray, List.toList_toArray, cl_len hz, cl_len hz, Array.length_toList (xs := Builtin.zeroCells _ _), size_zeroCells, hzs, hl, ← Nat.add_mul, ← Nat.add_mul]
      congr 1
      omega
  have newfr : ∀ o, Fr (fun _ => False) w (w.drew.alloc o) := fun o => (Fr.drew _ w).trans (Fr.alloc _ _ _)
  cases β with
  | none =>
    obtain ⟨rfl, rfl⟩ := hv
    have hr := run_append_nil (P := P) w t ty e i z ht hi hzo ad m c (cl f ys) hlm hnews hm (by simp at h63; omega) (by
      simp only [List.length_nil, Nat.zero_add] at hb
      exact Nat.le_trans (Nat.mul_le_mul_right _ (by omega)) hb)
    have hG1 := grownCap_ge w m 0 e
    have hG2 := grownCap_le_maxLen w m 0 e (by unfold maxLen; simp at h63; omega)
    generalize grownCap w m 0 e = G at hr hG1 hG2
    have hn := newrow G (by simpa using hG1) hG2
    simp only [List.length_nil, Nat.zero_add, List.nil_append, cl_nil] at hn ⊢
    refine ⟨_, _, hr, w.heap.size, ⟨G, by rw [hl], ?_⟩, .inr ⟨rfl, newfr _⟩⟩
    rw [hl]
    simpa using hn
  | some g =>
    obtain ⟨cap, rfl, cur, hh, htk, hvl, hnc, hcm, hcs⟩ := hv
    by_cases hroom : xs.length + m ≤ cap
    · have hfit : xs.length * i.size + (cl f ys).length ≤ cur.length := by
        rw [hlm, ← Nat.add_mul, hcs]
        exact Nat.mul_le_mul_right _ hroom
      have hr := run_append_room (P := P) w t ty e i ht hi g xs.length cap cur.toArray hh ad m c (cl f ys) hlm hnews h1 hroom (by simpa using hfit)
      refine ⟨_, _, hr, g, ⟨cap, by simp [hl], ?_⟩, .inl ⟨rfl, Fr.setRow w g _ rfl⟩⟩
      refine ⟨_, setRow_heap w g cur.toArray _ e _ hh, ?_, rfl, by simp [hl]; omega, hcm, ?_⟩
      · rw [List.toList_toArray, htk]
        have : (cl f xs ++ cl f ys).length = (xs ++ ys).length * i.size := by rw [List.length_append, cl_len hz, cl_len hz, List.length_append, Nat.add_mul]
        rw [← this, List.take_left, cl_app]
      · simp only [List.length_append, List.length_take, List.length_drop]
        omega
    · have holds : ∀ j u, (cl f xs)[j]? = some u → w.cell? ((⟨g, 0, none⟩ : Addr).add j) = some u := by
        have := RowF.cells (f := f) (k := i.size) (w := w) (g := g) (N := xs.length) (cap := cap) (e := e) (xs := xs) ⟨cur, hh, htk, hvl, hnc, hcm, hcs⟩ hz 0
        simpa using this
      have hr := run_append_grow (P := P) w t ty e i z ht hi hzo ⟨g, 0, none⟩ xs.length cap (cl f xs) (by rw [cl_len hz]) holds ad m c (cl f ys) hlm hnews (by omega) (by omega) (growslice_fits_wide (by omega) hb)
      have hG1 := grownCap_ge w (xs.length + m) cap e
      have hG2 := grownCap_le_maxLen w (xs.length + m) cap e hmx
      generalize grownCap w (xs.length + m) cap e = G at hr hG1 hG2
      have hn := newrow G hG1 hG2
      refine ⟨_, _, hr, w.heap.size, ⟨G, by simp [hl], ?_⟩, .inr ⟨rfl, newfr _⟩⟩
      rw [List.length_append, hl]
      exact hn

/-- The elements behind place i, moved onto place j (j at most i): append(s[:j], s[i:]...). -/
theorem row_moved {α : Type} {f : α → List Value} {k : Nat} (hz : Sz f k) {P : Program} (w : World) (t ty e : TypeId) (i : TypeInfo) (ht : P.underlying t = some (.slice e)) (hi : P.info? e = some i) (hsz : i.size = k)
    (g N cap d c : Nat) (xs : List α) (h : RowF f k w g N cap e xs) (hd' : d ≤ N) (A : Addr) (hA : N = d ∨ A = ⟨g, d * k, none⟩) :
    ∃ cur : List Value, (Builtin.append_ #[t, t] ty #[.slice (some ⟨g, 0, none⟩) 0 cap, .slice (some A) (N - d) c]).run P w = .ok (.slice (some ⟨g, 0, none⟩) (N - d) cap) (w.setRow g (splice cur 0 (cl f (xs.drop d))).toArray) ∧
      w.heap[g]? = some (.cells cur.toArray e (0, 0)) ∧ cur.length = cap * k := by
  subst hsz
  have hR := h
  obtain ⟨cur, hh, htk, hl, hnc, hcm, hcs⟩ := h
  refine ⟨cur, ?_, hh, hcs⟩
  have hdl : (xs.drop d).length = N - d := by rw [List.length_drop, hl]
  have hlm : (cl f (xs.drop d)).length = (N - d) * i.size := by rw [cl_len hz, hdl]
  have hsrc : ∀ j u, (cl f (xs.drop d))[j]? = some u → w.cell? (A.add j) = some u := by
    rcases hA with hA | rfl
    · intro j u hj
      rw [show xs.drop d = [] from List.drop_eq_nil_of_le (by omega)] at hj
      simp [cl_nil] at hj
    · exact hR.cells hz d
  have hfit : 0 * i.size + (cl f (xs.drop d)).length ≤ cur.toArray.size := by
    rw [hlm, List.size_toArray, hcs, Nat.zero_mul, Nat.zero_add]
    exact Nat.mul_le_mul_right _ (by omega)
  have hr := run_append_room (P := P) w t ty e i ht hi g 0 cap cur.toArray hh A (N - d) c (cl f (xs.drop d)) hlm hsrc (cl_cells hz _) (by omega) hfit
  simpa [splice] using hr

end Go.Proofs.Ytkkklfnooeofcab
