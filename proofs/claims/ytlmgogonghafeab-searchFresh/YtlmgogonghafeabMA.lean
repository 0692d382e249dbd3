/-
  Texts put together: Aa Pn Parts.
-/
import Derived.Test.YtlmgogonghafeabRows
import Derived.WalkKit
import Derived.WalkSpells
import Derived.WalkLawsBesides
import Derived.Laws.CopyOwn
import Derived.Laws.MakeOwn
import Derived.Deep.DeepAppendWide
import Derived.Laws.AppendOwn
/-! Aa -/
namespace Go.Proofs.Ytlmgogonghafeab
open Go.RowKit
set_option linter.unusedVariables false

theorem hd {p : Prop} (h : p) : Hid p := h

/-- Every block that was there is as it was, but for the blocks of S. -/
structure Fr (S : Nat → Prop) (w w' : World) : Prop where
  os : w'.os = w.os
  tape : w'.tape = w.tape
  output : w'.output = w.output
  size : w.heap.size ≤ w'.heap.size
  block : ∀ k, k < w.heap.size → ¬ S k → w'.heap[k]? = w.heap[k]?

theorem Fr.refl (S : Nat → Prop) (w : World) : Fr S w w := ⟨rfl, rfl, rfl, Nat.le_refl _, fun _ _ _ => rfl⟩
theorem Fr.trans {S : Nat → Prop} {a b c : World} (h : Fr S a b) (k : Fr S b c) : Fr S a c :=
  ⟨k.os.trans h.os, k.tape.trans h.tape, k.output.trans h.output, Nat.le_trans h.size k.size, fun i hi hr => (k.block i (Nat.lt_of_lt_of_le hi h.size) hr).trans (h.block i hi hr)⟩
theorem Fr.next {S S' : Nat → Prop} {a b c : World} (h : Fr S a b) (k : Fr S' b c) (hS : ∀ i, i < a.heap.size → S' i → S i) : Fr S a c :=
  ⟨k.os.trans h.os, k.tape.trans h.tape, k.output.trans h.output, Nat.le_trans h.size k.size, fun i hi hr => (k.block i (Nat.lt_of_lt_of_le hi h.size) (fun hs => hr (hS i hi hs))).trans (h.block i hi hr)⟩
theorem Fr.mono {S S' : Nat → Prop} {w w' : World} (h : Fr S w w') (hS : ∀ k, k < w.heap.size → S k → S' k) : Fr S' w w' :=
  ⟨h.os, h.tape, h.output, h.size, fun k hk hn => h.block k hk (fun hs => hn (hS k hk hs))⟩
theorem Fr.of_below {S : Nat → Prop} {w w' : World} (h : Below w.heap.size w w') : Fr S w w' := ⟨h.os, h.tape, h.output, h.size, fun k hk _ => h.block k hk⟩
theorem Fr.below {S : Nat → Prop} {B : Nat} {w w' : World} (h : Fr S w w') (hB : B ≤ w.heap.size) (hS : ∀ k, S k → B ≤ k) : Below B w w' :=
  ⟨h.os, h.tape, h.output, h.size, fun k hk => h.block k (by omega) (fun hs => by have := hS k hs; omega)⟩
theorem Fr.drewN (S : Nat → Prop) (w : World) (m : Nat) : Fr S w (w.drewN m) := ⟨rfl, rfl, rfl, Nat.le_refl _, fun _ _ _ => rfl⟩
theorem Fr.drew (S : Nat → Prop) (w : World) : Fr S w w.drew := ⟨rfl, rfl, rfl, Nat.le_refl _, fun _ _ _ => rfl⟩
theorem Fr.setCell {S : Nat → Prop} (w : World) (p : Addr) (u : Value) (hp : S p.block) : Fr S w (w.setCell p u) :=
  ⟨rfl, rfl, rfl, by simp, fun k _ hk => Below.heap_setCell w p u k (fun h => hk (h ▸ hp))⟩
theorem Fr.setRow {S : Nat → Prop} (w : World) (g : Nat) (cs : Array Value) (hp : S g) : Fr S w (w.setRow g cs) :=
  ⟨rfl, rfl, rfl, by simp, fun k _ hk => setRow_other w g k cs (fun h => hk (h ▸ hp))⟩
theorem Fr.alloc (S : Nat → Prop) (w : World) (o : Obj) : Fr S w (w.alloc o) := Fr.of_below ((Below.refl _ _).alloc (Nat.le_refl _) o)
theorem Fr.cell {S : Nat → Prop} {w w' : World} (h : Fr S w w') {p : Addr} (hp : p.block < w.heap.size) (hr : ¬ S p.block) : w'.cell? p = w.cell? p := World.cell?_of_block (w := w) (h.block p.block hp hr)

theorem block_lt {w : World} {r : Nat} {o : Obj} (h : w.heap[r]? = some o) : r < w.heap.size := by
  by_cases hg : r < w.heap.size
  · exact hg
  · rw [Array.getElem?_eq_none (by omega)] at h
    simp at h

theorem Fr.keeps {S : Nat → Prop} {w w' : World} (h : Fr S w w') {r : Nat} {o : Obj} (hr : w.heap[r]? = some o) (hS : ¬ S r) : w'.heap[r]? = some o := (h.block r (block_lt hr) hS).trans hr

theorem cell_row {w : World} {r : Nat} {cur : Array Value} {t : TypeId} (h : w.heap[r]? = some (.cells cur t (0, 0))) (i : Nat) : w.cell? ⟨r, i, none⟩ = cur[i]? := by
  simp [World.cell?, h]
theorem frozen_row {w : World} {r : Nat} {cur : Array Value} {t : TypeId} (h : w.heap[r]? = some (.cells cur t (0, 0))) (i : Nat) : w.frozen? ⟨r, i, none⟩ = false := by
  simp [World.frozen?, h]
theorem set_row {w : World} {r : Nat} {cur : Array Value} {t : TypeId} (h : w.heap[r]? = some (.cells cur t (0, 0))) (i : Nat) (u : Value) : (w.setCell ⟨r, i, none⟩ u).heap[r]? = some (.cells (cur.setIfInBounds i u) t (0, 0)) :=
  heap_setCell_same w r i cur t u h

theorem add_lit (b o j : Nat) : (⟨b, o, none⟩ : Addr).add j = ⟨b, o + j, none⟩ := by
  by_cases h0 : j = 0
  · subst h0; simp [Addr.add]
  · simp [Addr.add, h0]

/-- An element has k cells. -/
def Sz {α : Type} (f : α → List Value) (k : Nat) : Prop := ∀ x, (f x).length = k ∧ ∀ v ∈ f x, v.oneCell' = true

/-- The cells of a list. -/
def cl {α : Type} (f : α → List Value) (xs : List α) : List Value := xs.flatMap f

section
variable {α : Type} {f : α → List Value} {k : Nat}
theorem cl_nil : cl f [] = [] := rfl
theorem cl_one (x : α) : cl f [x] = f x := by simp [cl]
theorem cl_app (xs ys : List α) : cl f (xs ++ ys) = cl f xs ++ cl f ys := by simp [cl]
theorem cl_cons (x : α) (xs : List α) : cl f (x :: xs) = f x ++ cl f xs := by simp [cl]
theorem cl_len (h : Sz f k) (xs : List α) : (cl f xs).length = xs.length * k := by
  induction xs with
  | nil => simp [cl_nil]
  | cons x xs ih => rw [cl_cons, List.length_append, ih, (h x).1, List.length_cons, Nat.add_mul]; omega
theorem cl_cells (h : Sz f k) (xs : List α) : ∀ v ∈ cl f xs, v.oneCell' = true := by
  intro v hv
  obtain ⟨x, -, hx⟩ := List.mem_flatMap.1 hv
  exact (h x).2 v hx
theorem cl_drop (h : Sz f k) (xs : List α) (i : Nat) : (cl f xs).drop (i * k) = cl f (xs.drop i) := by
  induction xs generalizing i with
  | nil => simp [cl_nil]
  | cons x xs ih =>
    cases i with
    | zero => simp
    | succ i =>
      rw [cl_cons, Nat.add_mul, Nat.one_mul, List.drop_succ_cons, ← ih i, List.drop_append]
      rw [List.drop_eq_nil_of_le (by rw [(h x).1]; omega), List.nil_append, (h x).1, Nat.add_sub_cancel]
theorem cl_take (h : Sz f k) (xs : List α) (i : Nat) : (cl f xs).take (i * k) = cl f (xs.take i) := by
  induction xs generalizing i with
  | nil => simp [cl_nil]
  | cons x xs ih =>
    cases i with
    | zero => simp [cl_nil]
    | succ i =>
      rw [cl_cons, Nat.add_mul, Nat.one_mul, List.take_succ_cons, cl_cons, ← ih i, List.take_append]
      rw [List.take_of_length_le (by rw [(h x).1]; omega), (h x).1, Nat.add_sub_cancel]
theorem cl_get (h : Sz f k) (xs : List α) (i j : Nat) (hi : i < xs.length) (hj : j < k) : (cl f xs)[i * k + j]? = (f xs[i])[j]? := by
  have h1 : (cl f xs)[i * k + j]? = ((cl f xs).drop (i * k))[j]? := by rw [List.getElem?_drop]
  rw [h1, cl_drop h, List.drop_eq_getElem_cons hi, cl_cons, List.getElem?_append_left (by rw [(h _).1]; exact hj)]
end

/-- Block g is a row of cap elements of type e, the first N of them xs. -/
def RowF {α : Type} (f : α → List Value) (k : Nat) (w : World) (g N cap : Nat) (e : TypeId) (xs : List α) : Prop :=
  ∃ cur : List Value, w.heap[g]? = some (.cells cur.toArray e (0, 0)) ∧ cur.take (N * k) = cl f xs ∧ xs.length = N ∧ N ≤ cap ∧ cap ≤ 9223372036854775807 ∧ cur.length = cap * k

/-- nil, or a row. -/
def SF {α : Type} (f : α → List Value) (k : Nat) (w : World) (e : TypeId) (β : Option Nat) (v : Value) (xs : List α) : Prop :=
  match β with
  | none => v = .slice none 0 0 ∧ xs = []
  | some g => ∃ cap, v = .slice (some ⟨g, 0, none⟩) xs.length cap ∧ RowF f k w g xs.length cap e xs

section
variable {α : Type} {f : α → List Value} {k : Nat} {w w' : World} {g N cap : Nat} {e : TypeId} {xs : List α} {S : Nat → Prop} {β : Option Nat} {v : Value}
theorem RowF.fr (h : RowF f k w g N cap e xs) (hF : Fr S w w') (hS : ¬ S g) : RowF f k w' g N cap e xs := by
  obtain ⟨cur, hh, r⟩ := h
  exact ⟨cur, hF.keeps hh hS, r⟩
theorem RowF.lt (h : RowF f k w g N cap e xs) : g < w.heap.size := by
  obtain ⟨cur, hh, _⟩ := h
  exact block_lt hh
theorem RowF.cell (h : RowF f k w g N cap e xs) (hz : Sz f k) (i j : Nat) (hi : i < xs.length) (hj : j < k) : w.cell? ⟨g, i * k + j, none⟩ = (f xs[i])[j]? := by
  obtain ⟨cur, hh, ht, hl, _⟩ := h
  have hlt : i * k + j < N * k := by
    have : (i + 1) * k ≤ N * k := Nat.mul_le_mul_right _ (by omega)
    rw [Nat.add_mul] at this
    omega
  rw [cell_row hh, ← cl_get hz xs i j hi hj, ← ht, List.getElem?_take, if_pos hlt]
  simp
theorem RowF.cells (h : RowF f k w g N cap e xs) (hz : Sz f k) (i : Nat) : ∀ j u, (cl f (xs.drop i))[j]? = some u → w.cell? ((⟨g, i * k, none⟩ : Addr).add j) = some u := by
  intro j u hj
  obtain ⟨cur, hh, ht, hl, _⟩ := h
  rw [add_lit, cell_row hh]
  rw [← cl_drop hz, List.getElem?_drop, ← ht] at hj
  have hjl := (List.getElem?_eq_some_iff.1 hj).1
  rw [List.length_take] at hjl
  rw [List.getElem?_take, if_pos (by omega)] at hj
  simpa using hj

theorem SF.fr (h : SF f k w e β v xs) (hF : Fr S w w') (hS : ∀ g, β = some g → ¬ S g) : SF f k w' e β v xs := by
  cases β with
  | none => exact h
  | some g =>
    obtain ⟨cap, hv, hR⟩ := h
    exact ⟨cap, hv, hR.fr hF (hS g rfl)⟩
theorem SF.form (h : SF f k w e β v xs) : ∃ a c, v = .slice a xs.length c ∧ xs.length ≤ c ∧ c ≤ 9223372036854775807 := by
  cases β with
  | none =>
    obtain ⟨rfl, rfl⟩ := h
    exact ⟨none, 0, rfl, by simp, by omega⟩
  | some g =>
    obtain ⟨cap, rfl, cur, -, -, -, h1, h2, -⟩ := h
    exact ⟨_, cap, rfl, h1, h2⟩
theorem SF.lt (h : SF f k w e β v xs) : ∀ g, β = some g → g < w.heap.size := by
  rintro g rfl
  obtain ⟨cap, hv, hR⟩ := h
  exact hR.lt
theorem SF.blk {g : Nat} (h : SF f k w e (some g) v xs) : ∃ cur, w.heap[g]? = some (.cells cur e (0, 0)) := by
  obtain ⟨cap, -, cur, hh, -⟩ := h
  exact ⟨_, hh⟩
end

/-- What an append leaves: the same row, or a new one behind all that was there. -/
def NowF {α : Type} (f : α → List Value) (k : Nat) (w w' : World) (e : TypeId) (β : Option Nat) (v' : Value) (xs : List α) : Prop :=
  ∃ g', SF f k w' e (some g') v' xs ∧ ((β = some g' ∧ Fr (· = g') w w') ∨ (g' = w.heap.size ∧ Fr (fun _ => False) w w'))

theorem run_pushF {α : Type} {f : α → List Value} {k : Nat} (hz : Sz f k) {P : Program} (w : World) (t ty e : TypeId) (i : TypeInfo) (z : Value) (bytes : Nat) (ht : P.underlying t = some (.slice e)) (hi : P.info? e = some i) (hzo : i.zero = some z) (hsz : i.size = k) (hzs : z.cells.size = k) (hby : i.bytes = bytes)
    (β : Option Nat) (v : Value) (xs : List α) (hv : SF f k w e β v xs) (ad : Addr) (m c : Nat) (ys : List α) (hl : ys.length = m) (hnews : ∀ j u, (cl f ys)[j]? = some u → w.cell? (ad.add j) = some u)
    (hm : 0 < m) (h63 : xs.length + m ≤ 9223372036854775807) (hb : ((xs.length + m) + (xs.length + m) / 4 + 192) * bytes ≤ 281474976710656) :
    ∃ v' w', (Builtin.append_ #[t, t] ty #[v, .slice (some ad) m c]).run P w = .ok v' w' ∧ NowF f k w w' e β v' (xs ++ ys) := by
  subst hby
  subst hsz
  have hmx : xs.length + m ≤ maxLen := h63
  have hlm : (cl f ys).length = m * i.size := by rw [cl_len hz, hl]
  have h1 := cl_cells hz ys
  have newrow : ∀ G, xs.length + m ≤ G → G ≤ 9223372036854775807 → RowF f i.size (w.drew.alloc (.cells ((cl f xs).toArray ++ (cl f ys).toArray ++ Builtin.zeroCells z.cells (G - (xs.length + m))) e)) w.heap.size (xs.length + m) G e (xs ++ ys) := by
    intro G hG1 hG2
    refine ⟨((cl f xs).toArray ++ (cl f ys).toArray ++ Builtin.zeroCells z.cells (G - (xs.length + m))).toList, ?_, ?_, by simp [hl], hG1, hG2, ?_⟩
    · rw [show w.heap.size = w.drew.heap.size from rfl, heap_alloc_new]
    · rw [Array.toList_append, Array.toList_append, List.toList_toArray, List.toList_toArray]
      have : (cl f xs ++ cl f ys).length = (xs.length + m) * i.size := by rw [List.length_append, cl_len hz, cl_len hz, hl, Nat.add_mul]
      rw [← this, List.take_left, cl_app]
    · rw [Array.toList_append, Array.toList_append, List.length_append, List.length_append, List.toList_toArray, List.toList_toArray, cl_len hz, cl_len hz, Array.length_toList (xs := Builtin.zeroCells _ _), size_zeroCells, hzs, hl, ← Nat.add_mul, ← Nat.add_mul]
      congr 1
      omega
  have newfr : ∀ o, Fr (fun _ => False) w (w.drew.alloc o) := fun o => (Fr.drew _ w).trans (Fr.alloc _ _ _)
  cases β with
  | none =>
    obtain ⟨rfl, rfl⟩ := hv
    have hr := run_append_nil (P := P) w t ty e i z ht hi hzo ad m c (cl f ys) hlm hnews hm (by simp at h63; omega) (by
      simp only [List.length_nil, Nat.zero_add] at hb
      exact Nat.le_trans (Nat.mul_le_mul_right _ (by omega)) hb)
    have hG1 := grownCap_ge w m 0 e
    have hG2 := grownCap_le_maxLen w m 0 e (by unfold maxLen; simp at h63; omega)
    generalize grownCap w m 0 e = G at hr hG1 hG2
    have hn := newrow G (by simpa using hG1) hG2
    simp only [List.length_nil, Nat.zero_add, List.nil_append, cl_nil] at hn ⊢
    refine ⟨_, _, hr, w.heap.size, ⟨G, by rw [hl], ?_⟩, .inr ⟨rfl, newfr _⟩⟩
    rw [hl]
    simpa using hn
  | some g =>
    obtain ⟨cap, rfl, cur, hh, htk, hvl, hnc, hcm, hcs⟩ := hv
    by_cases hroom : xs.length + m ≤ cap
    · have hfit : xs.length * i.size + (cl f ys).length ≤ cur.length := by
        rw [hlm, ← Nat.add_mul, hcs]
        exact Nat.mul_le_mul_right _ hroom
      have hr := run_append_room (P := P) w t ty e i ht hi g xs.length cap cur.toArray hh ad m c (cl f ys) hlm hnews h1 hroom (by simpa using hfit)
      refine ⟨_, _, hr, g, ⟨cap, by simp [hl], ?_⟩, .inl ⟨rfl, Fr.setRow w g _ rfl⟩⟩
      refine ⟨_, setRow_heap w g cur.toArray _ e _ hh, ?_, rfl, by simp [hl]; omega, hcm, ?_⟩
      · rw [List.toList_toArray, htk]
        have : (cl f xs ++ cl f ys).length = (xs ++ ys).length * i.size := by rw [List.length_append, cl_len hz, cl_len hz, List.length_append, Nat.add_mul]
        rw [← this, List.take_left, cl_app]
      · simp only [List.length_append, List.length_take, List.length_drop]
        omega
    · have holds : ∀ j u, (cl f xs)[j]? = some u → w.cell? ((⟨g, 0, none⟩ : Addr).add j) = some u := by
        have := RowF.cells (f := f) (k := i.size) (w := w) (g := g) (N := xs.length) (cap := cap) (e := e) (xs := xs) ⟨cur, hh, htk, hvl, hnc, hcm, hcs⟩ hz 0
        simpa using this
      have hr := run_append_grow (P := P) w t ty e i z ht hi hzo ⟨g, 0, none⟩ xs.length cap (cl f xs) (by rw [cl_len hz]) holds ad m c (cl f ys) hlm hnews (by omega) (by omega) (growslice_fits_wide (by omega) hb)
      have hG1 := grownCap_ge w (xs.length + m) cap e
      have hG2 := grownCap_le_maxLen w (xs.length + m) cap e hmx
      generalize grownCap w (xs.length + m) cap e = G at hr hG1 hG2
      have hn := newrow G hG1 hG2
      refine ⟨_, _, hr, w.heap.size, ⟨G, by simp [hl], ?_⟩, .inr ⟨rfl, newfr _⟩⟩
      rw [List.length_append, hl]
      exact hn

/-- The elements behind place i, moved onto place j (j at most i): append(s[:j], s[i:]...). -/
theorem row_moved {α : Type} {f : α → List Value} {k : Nat} (hz : Sz f k) {P : Program} (w : World) (t ty e : TypeId) (i : TypeInfo) (ht : P.underlying t = some (.slice e)) (hi : P.info? e = some i) (hsz : i.size = k)
    (g N cap d c : Nat) (xs : List α) (h : RowF f k w g N cap e xs) (hd' : d ≤ N) (A : Addr) (hA : N = d ∨ A = ⟨g, d * k, none⟩) :
    ∃ cur : List Value, (Builtin.append_ #[t, t] ty #[.slice (some ⟨g, 0, none⟩) 0 cap, .slice (some A) (N - d) c]).run P w = .ok (.slice (some ⟨g, 0, none⟩) (N - d) cap) (w.setRow g (splice cur 0 (cl f (xs.drop d))).toArray) ∧
      w.heap[g]? = some (.cells cur.toArray e (0, 0)) ∧ cur.length = cap * k := by
  subst hsz
  have hR := h
  obtain ⟨cur, hh, htk, hl, hnc, hcm, hcs⟩ := h
  refine ⟨cur, ?_, hh, hcs⟩
  have hdl : (xs.drop d).length = N - d := by rw [List.length_drop, hl]
  have hlm : (cl f (xs.drop d)).length = (N - d) * i.size := by rw [cl_len hz, hdl]
  have hsrc : ∀ j u, (cl f (xs.drop d))[j]? = some u → w.cell? (A.add j) = some u := by
    rcases hA with hA | rfl
    · intro j u hj
      rw [show xs.drop d = [] from List.drop_eq_nil_of_le (by omega)] at hj
      simp [cl_nil] at hj
    · exact hR.cells hz d
  have hfit : 0 * i.size + (cl f (xs.drop d)).length ≤ cur.toArray.size := by
    rw [hlm, List.size_toArray, hcs, Nat.zero_mul, Nat.zero_add]
    exact Nat.mul_le_mul_right _ (by omega)
  have hr := run_append_room (P := P) w t ty e i ht hi g 0 cap cur.toArray hh A (N - d) c (cl f (xs.drop d)) hlm hsrc (cl_cells hz _) (by omega) hfit
  simpa [splice] using hr

end Go.Proofs.Ytlmgogonghafeab

/-! Pn -/
namespace Go.Proofs.Ytlmgogonghafeab
open Go.RowKit
set_option linter.unusedVariables false

abbrev El := Int × Int × Int
abbrev By := List UInt8

def stB (T p : By) (q : Nat) : Bool := p.isPrefixOf (T.drop q)
theorem stB_iff {T p : By} {q : Nat} : stB T p q = true ↔ p <+: T.drop q := by unfold stB; exact List.isPrefixOf_iff_prefix

/-- The places from s0 on at which the pattern is seen to stand, t characters having been read. -/
def fnd (T p : By) (s0 t : Nat) : List Nat := (List.range' s0 (t + 1 - p.length)).filter (stB T p)

theorem fnd_zero {T p : By} {s0 : Nat} (hp : 1 ≤ p.length) : fnd T p s0 0 = [] := by
  unfold fnd
  rw [show 0 + 1 - p.length = 0 by omega]
  rfl

theorem suf_iff {T p : By} {s0 t : Nat} (ht : s0 + t < T.length) (hm : p.length ≤ t + 1) : p <:+ (T.drop s0).take (t + 1) ↔ stB T p (s0 + (t + 1 - p.length)) = true := by
  have hl : ((T.drop s0).take (t + 1)).length = t + 1 := by simp; omega
  rw [stB_iff, List.suffix_iff_eq_drop, hl, List.prefix_iff_eq_take, List.drop_take, List.drop_drop, show t + 1 - (t + 1 - p.length) = p.length by omega]

theorem fnd_succ {T p : By} {s0 t : Nat} (ht : s0 + t < T.length) :
    fnd T p s0 (t + 1) = fnd T p s0 t ++ (if p <:+ (T.drop s0).take (t + 1) then [s0 + (t + 1 - p.length)] else []) := by
  by_cases hm : p.length ≤ t + 1
  · unfold fnd
    rw [show t + 1 + 1 - p.length = (t + 1 - p.length) + 1 by omega, List.range'_concat, List.filter_append]
    congr 1
    simp only [Nat.one_mul, List.filter_cons, List.filter_nil]
    by_cases h : p <:+ (T.drop s0).take (t + 1)
    · rw [if_pos h, if_pos ((suf_iff ht hm).1 h)]
    · rw [if_neg h, if_neg (fun e => h ((suf_iff ht hm).2 e))]
  · have hn : ¬ p <:+ (T.drop s0).take (t + 1) := fun h => by
      have := h.length_le
      simp at this
      omega
    rw [if_neg hn, List.append_nil]
    unfold fnd
    rw [show t + 1 + 1 - p.length = 0 by omega, show t + 1 - p.length = 0 by omega]

theorem fnd_prefix {T p : By} {s0 t : Nat} : ∀ d, fnd T p s0 t <+: fnd T p s0 (t + d)
  | 0 => List.prefix_refl _
  | d + 1 => by
    unfold fnd
    have : List.range' s0 (t + 1 - p.length) <+: List.range' s0 (t + (d + 1) + 1 - p.length) := by
      refine ⟨List.range' (s0 + (t + 1 - p.length)) (t + (d + 1) + 1 - p.length - (t + 1 - p.length)), ?_⟩
      rw [List.range'_append_1]
      congr 1
      omega
    exact this.filter _
theorem fnd_take {T p : By} {s0 t N k : Nat} (h : t ≤ N) (hk : (fnd T p s0 t).length = k) : (fnd T p s0 N).take k = fnd T p s0 t := by
  have := fnd_prefix (T := T) (p := p) (s0 := s0) (t := t) (N - t)
  rw [show t + (N - t) = N by omega] at this
  rw [← hk]
  exact (List.prefix_iff_eq_take.1 this).symm
theorem fnd_len {T p : By} {s0 t : Nat} (hp : 1 ≤ p.length) : (fnd T p s0 t).length ≤ t := by
  unfold fnd
  refine Nat.le_trans (List.length_filter_le _ _) ?_
  rw [List.length_range']
  omega
/-- All places. -/
def plc (T p : By) : List Nat := fnd T p 0 T.length
theorem fnd_mem {T p : By} {s0 t q : Nat} : q ∈ fnd T p s0 t ↔ (s0 ≤ q ∧ q + p.length ≤ s0 + t ∧ stB T p q = true) ∨ (p.length = 0 ∧ q ∈ fnd T p s0 t) := by
  by_cases h0 : p.length = 0
  · constructor
    · exact fun h => .inr ⟨h0, h⟩
    · rintro (⟨h1, h2, h3⟩ | h)
      · unfold fnd
        rw [List.mem_filter, List.mem_range'_1]
        exact ⟨by omega, h3⟩
      · exact h.2
  · unfold fnd
    rw [List.mem_filter, List.mem_range'_1]
    constructor
    · rintro ⟨h1, h2⟩
      exact .inl ⟨by omega, by omega, h2⟩
    · rintro (⟨h1, h2, h3⟩ | h)
      · exact ⟨by omega, h3⟩
      · omega
/-- The places from s0 on are those of all that are not ahead of s0. -/
theorem fnd_from {T p : By} {s0 : Nat} (hp : 1 ≤ p.length) (hs : s0 ≤ T.length) : fnd T p s0 (T.length - s0) = (plc T p).filter (fun q => decide (s0 ≤ q)) := by
  unfold plc fnd
  rw [List.filter_filter]
  by_cases h : s0 + p.length ≤ T.length + 1
  · have e : List.range' 0 (T.length + 1 - p.length) = List.range' 0 s0 ++ List.range' s0 (T.length - s0 + 1 - p.length) := by
      rw [show (List.range' s0 (T.length - s0 + 1 - p.length)) = List.range' (0 + s0) (T.length - s0 + 1 - p.length) by rw [Nat.zero_add], List.range'_append_1]
      congr 1
      omega
    rw [e, List.filter_append]
    have h1 : (List.range' 0 s0).filter (fun q => decide (s0 ≤ q) && stB T p q) = [] := by
      rw [List.filter_eq_nil_iff]
      intro q hq
      rw [List.mem_range'_1] at hq
      simp
      omega
    rw [h1, List.nil_append]
    refine List.filter_congr fun q hq => ?_
    rw [List.mem_range'_1] at hq
    simp [hq.1]
  · have h1 : (List.range' 0 (T.length + 1 - p.length)).filter (fun q => decide (s0 ≤ q) && stB T p q) = [] := by
      rw [List.filter_eq_nil_iff]
      intro q hq
      rw [List.mem_range'_1] at hq
      simp
      omega
    rw [h1, show T.length - s0 + 1 - p.length = 0 by omega]
    rfl

/-- Bit i: the last i + 1 characters are the first i + 1 of the pattern. -/
def BS (p seen : By) (H : Nat) : Prop := ∀ i, H.testBit i = decide (i < p.length ∧ p.take (i + 1) <:+ seen)
/-- Bit i: the character stands at place i of the pattern, which is below k. -/
def MK (p : By) (k : Nat) (c : UInt8) (M : Nat) : Prop := ∀ i, M.testBit i = decide (i < k ∧ p[i]? = some c)

theorem BS.zero {p : By} : BS p [] 0 := fun i => by
  rw [Nat.zero_testBit]
  symm
  rw [decide_eq_false_iff_not]
  rintro ⟨h1, h2⟩
  have := h2.length_le
  rw [List.length_take, List.length_nil] at this
  omega
theorem BS.lt {p seen : By} {H : Nat} (h : BS p seen H) : H < 2 ^ p.length := Nat.lt_pow_two_of_testBit _ fun i hi => by
  rw [h i]
  simp
  omega
theorem MK.zero {p : By} {c : UInt8} : MK p 0 c 0 := fun i => by simp
theorem MK.lt {p : By} {k : Nat} {c : UInt8} {M : Nat} (h : MK p k c M) : M < 2 ^ k := Nat.lt_pow_two_of_testBit _ fun i hi => by
  rw [h i]
  simp
  omega
theorem MK.same {p : By} {k : Nat} {c : UInt8} {M : Nat} (h : MK p k c M) (hk : p[k]? = some c) : MK p (k + 1) c (M ||| 2 ^ k) := fun i => by
  rw [Nat.testBit_or, h i, Nat.testBit_two_pow]
  by_cases e : k = i
  · subst e
    simp [hk]
  · have : (i < k + 1) ↔ (i < k) := by omega
    simp [e, this]
theorem MK.other {p : By} {k : Nat} {c : UInt8} {M : Nat} (h : MK p k c M) (hk : p[k]? ≠ some c) : MK p (k + 1) c M := fun i => by
  rw [h i]
  by_cases e : k = i
  · subst e
    simp [hk]
  · have : (i < k + 1) ↔ (i < k) := by omega
    simp [this]

theorem suffix_snoc {a s : By} {x y : UInt8} : a ++ [x] <:+ s ++ [y] ↔ a <:+ s ∧ x = y := by
  constructor
  · rintro ⟨t, ht⟩
    rw [← List.append_assoc] at ht
    obtain ⟨h1, h2⟩ := List.append_inj' ht rfl
    exact ⟨⟨t, h1⟩, by simpa using h2⟩
  · rintro ⟨⟨t, ht⟩, rfl⟩
    exact ⟨t, by rw [← ht]; simp⟩

theorem BS.step {p seen : By} {H M : Nat} {c : UInt8} (h : BS p seen H) (hM : MK p p.length c M) (hp : p.length ≤ 64) : BS p (seen ++ [c]) ((H * 2 % 18446744073709551616 ||| 1) &&& M) := fun i => by
  rw [Nat.testBit_and, Nat.testBit_or, hM i, show (18446744073709551616 : Nat) = 2 ^ 64 from rfl, Nat.testBit_mod_two_pow]
  by_cases hi : i < p.length
  · have ht : p.take (i + 1) = p.take i ++ [p[i]] := by rw [List.take_succ_eq_append_getElem hi]
    rw [ht]
    simp only [suffix_snoc, hi, true_and, List.getElem?_eq_getElem hi, Option.some.injEq]
    cases i with
    | zero => simp
    | succ j =>
      have e1 : (H * 2).testBit (j + 1) = H.testBit j := by
        rw [Nat.testBit_succ, Nat.mul_div_cancel _ (by omega)]
      have e2 : (1 : Nat).testBit (j + 1) = false := by rw [Nat.testBit_succ]; simp
      rw [e1, e2, h j]
      have : j < p.length := by omega
      simp [this, show j + 1 < 64 by omega]
  · simp [hi]

/-- The last bit is set just where the whole pattern has gone by. -/
theorem BS.top {p seen : By} {H m : Nat} (h : BS p seen H) (hm : p.length = m + 1) : (H / 2 ^ m = 0 ↔ ¬ p <:+ seen) := by
  have hl := h.lt
  rw [hm, Nat.pow_succ] at hl
  have hb := h m
  rw [show p.take (m + 1) = p by rw [← hm, List.take_length], hm] at hb
  rw [Nat.testBit_eq_decide_div_mod_eq] at hb
  have h2 : H / 2 ^ m < 2 := Nat.div_lt_of_lt_mul (by omega)
  simp only [show m < m + 1 by omega, true_and, decide_eq_decide] at hb
  rw [← hb]
  clear hb hl
  generalize H / 2 ^ m = q at *
  omega

end Go.Proofs.Ytlmgogonghafeab

/-! Parts -/
namespace Go.Proofs.Ytlmgogonghafeab
open Go.RowKit
set_option linter.unusedVariables false

def elc (x : El) : List Value := [.int .u8 x.1, .int .i64 x.2.1, .int .i64 x.2.2]
/-- The cells of a text. -/
def cE (xs : List El) : List Value := xs.flatMap elc

theorem cE_nil : cE [] = [] := rfl
theorem cE_cons (x : El) (xs : List El) : cE (x :: xs) = elc x ++ cE xs := rfl
theorem cE_app (xs ys : List El) : cE (xs ++ ys) = cE xs ++ cE ys := by simp [cE]
theorem cE_one (x : El) : cE [x] = elc x := by simp [cE]
theorem cE_len (xs : List El) : (cE xs).length = xs.length * 3 := by
  induction xs with
  | nil => rfl
  | cons x xs ih => rw [cE_cons, List.length_append, ih]; simp [elc]; omega
theorem cE_take (xs : List El) (k : Nat) (hk : k ≤ xs.length) : (cE xs).take (k * 3) = cE (xs.take k) := by
  have h : cE xs = cE (xs.take k) ++ cE (xs.drop k) := by rw [← cE_app, List.take_append_drop]
  rw [h, List.take_append_of_le_length (by rw [cE_len, List.length_take, Nat.min_eq_left hk]; exact Nat.le_refl _), List.take_of_length_le (by rw [cE_len, List.length_take, Nat.min_eq_left hk]; exact Nat.le_refl _)]
theorem cE_drop (xs : List El) (k : Nat) (hk : k ≤ xs.length) : (cE xs).drop (k * 3) = cE (xs.drop k) := by
  have h : cE xs = cE (xs.take k) ++ cE (xs.drop k) := by rw [← cE_app, List.take_append_drop]
  have hl : (cE (xs.take k)).length = k * 3 := by rw [cE_len, List.length_take, Nat.min_eq_left hk]
  rw [h, ← hl, List.drop_left]
theorem cE_one' (xs : List El) : ∀ v ∈ cE xs, v.oneCell' = true := by
  intro v hv
  simp [cE, elc] at hv
  obtain ⟨a, b, c, _, h⟩ := hv
  rcases h with rfl | rfl | rfl <;> rfl
theorem cE_get (xs : List El) (i : Nat) (hi : i < xs.length) : (cE xs)[i * 3]? = some (.int .u8 xs[i].1) ∧ (cE xs)[i * 3 + 1]? = some (.int .i64 xs[i].2.1) ∧ (cE xs)[i * 3 + 2]? = some (.int .i64 xs[i].2.2) := by
  have h : cE xs = cE (xs.take i) ++ (elc xs[i] ++ cE (xs.drop (i + 1))) := by
    rw [← cE_cons, ← cE_app]
    congr 1
    rw [← List.drop_eq_getElem_cons hi, List.take_append_drop]
  have hl : (cE (xs.take i)).length = i * 3 := by rw [cE_len, List.length_take]; congr 1; omega
  rw [h]
  refine ⟨?_, ?_, ?_⟩
  · rw [List.getElem?_append_right (by omega), hl, Nat.sub_self]; rfl
  · rw [List.getElem?_append_right (by omega), hl, show i * 3 + 1 - i * 3 = 1 by omega]; rfl
  · rw [List.getElem?_append_right (by omega), hl, show i * 3 + 2 - i * 3 = 2 by omega]; rfl

/-- The slice value at a, of n elements and capacity c, holds the text xs in w. -/
def IsE (w : World) (a : Option Addr) (n c : Nat) (xs : List El) : Prop :=
  xs.length = n ∧ n ≤ c ∧ c ≤ 9223372036854775807 ∧
  (0 < n → ∃ b off, a = some ⟨b, off, none⟩ ∧ b < w.heap.size ∧ ∀ j v, (cE xs)[j]? = some v → w.cell? ⟨b, off + j, none⟩ = some v)

theorem IsE.at {w : World} {b off n c : Nat} {xs : List El} (h : IsE w (some ⟨b, off, none⟩) n c xs) (i : Nat) (hi : i < n) (hx : i < xs.length) :
    w.cell? ⟨b, off + i * 3, none⟩ = some (.int .u8 xs[i].1) ∧ w.cell? ⟨b, off + i * 3 + 1, none⟩ = some (.int .i64 xs[i].2.1) ∧ w.cell? ⟨b, off + i * 3 + 2, none⟩ = some (.int .i64 xs[i].2.2) := by
  obtain ⟨h1, h2, h3, h4⟩ := h
  obtain ⟨b', off', e, hlt, hc⟩ := h4 (by omega)
  have e' := Option.some.inj e
  simp at e'
  obtain ⟨rfl, rfl⟩ := e'
  obtain ⟨g0, g1, g2⟩ := cE_get xs i hx
  exact ⟨hc _ _ g0, by rw [Nat.add_assoc]; exact hc _ _ g1, by rw [Nat.add_assoc]; exact hc _ _ g2⟩

theorem IsE.addr {w : World} {a : Option Addr} {n c : Nat} {xs : List El} (h : IsE w a n c xs) (hn : 0 < n) : ∃ b off, a = some ⟨b, off, none⟩ ∧ b < w.heap.size := by
  obtain ⟨b, off, e, hlt, _⟩ := h.2.2.2 hn
  exact ⟨b, off, e, hlt⟩

theorem IsE.fr {S : Nat → Prop} {w w' : World} {a : Option Addr} {n c : Nat} {xs : List El} (h : IsE w a n c xs) (hb : Fr S w w') (hr : 0 < n → ∀ b off, a = some ⟨b, off, none⟩ → ¬ S b) : IsE w' a n c xs := by
  obtain ⟨h1, h2, h3, h4⟩ := h
  refine ⟨h1, h2, h3, fun hn => ?_⟩
  obtain ⟨b, off, e, hlt, hc⟩ := h4 hn
  refine ⟨b, off, e, Nat.lt_of_lt_of_le hlt hb.size, fun j v hj => ?_⟩
  rw [hb.cell (p := ⟨b, off + j, none⟩) hlt (hr hn b off e)]
  exact hc j v hj
theorem IsE.below {w w' : World} {a : Option Addr} {n c : Nat} {xs : List El} (h : IsE w a n c xs) (hb : Below w.heap.size w w') : IsE w' a n c xs :=
  h.fr (S := fun _ => False) (Fr.of_below hb) (fun _ _ _ _ h => h)
theorem isE_nil (w : World) : IsE w none 0 0 [] := ⟨rfl, Nat.le_refl _, by omega, fun h => by omega⟩

theorem IsE.take {w : World} {a : Option Addr} {n c : Nat} {xs : List El} (h : IsE w a n c xs) (m : Nat) (hm : m ≤ n) : IsE w a m c (xs.take m) := by
  obtain ⟨h1, h2, h3, h4⟩ := h
  refine ⟨by simp; omega, by omega, h3, fun hn => ?_⟩
  obtain ⟨b, off, e, hlt, hc⟩ := h4 (by omega)
  refine ⟨b, off, e, hlt, fun j v hj => hc j v ?_⟩
  rw [← cE_take xs m (by omega), List.getElem?_take] at hj
  split at hj
  · exact hj
  · cases hj

/-- Part of a text: from place k on. -/
theorem IsE.drop {w : World} {b off n c : Nat} {xs : List El} (h : IsE w (some ⟨b, off, none⟩) n c xs) (k : Nat) (hk : k ≤ n) : IsE w (some ⟨b, off + k * 3, none⟩) (n - k) (c - k) (xs.drop k) := by
  obtain ⟨h1, h2, h3, h4⟩ := h
  refine ⟨by simp; omega, by omega, by omega, fun hn => ?_⟩
  obtain ⟨b', off', e, hlt, hc⟩ := h4 (by omega)
  have e' := Option.some.inj e
  simp at e'
  obtain ⟨rfl, rfl⟩ := e'
  refine ⟨b, off + k * 3, rfl, hlt, fun j v hj => ?_⟩
  rw [← cE_drop xs k (by omega), List.getElem?_drop] at hj
  rw [Nat.add_assoc]
  exact hc _ _ hj

/-- Block g is a row of cap elements, the first N of them xs. -/
def RowE (w : World) (g N cap : Nat) (xs : List El) : Prop :=
  ∃ cur : List Value, w.heap[g]? = some (.cells cur.toArray 25 (0, 0)) ∧ cur.take (N * 3) = cE xs ∧ xs.length = N ∧ N ≤ cap ∧ cap ≤ 9223372036854775807 ∧ cur.length = cap * 3

theorem RowE.fr {S : Nat → Prop} {w w' : World} {g N cap : Nat} {xs : List El} (h : RowE w g N cap xs) (hF : Fr S w w') (hS : ¬ S g) : RowE w' g N cap xs := by
  obtain ⟨cur, hh, r⟩ := h
  exact ⟨cur, hF.keeps hh hS, r⟩
theorem RowE.lt {w : World} {g N cap : Nat} {xs : List El} (h : RowE w g N cap xs) : g < w.heap.size := by
  obtain ⟨cur, hh, _⟩ := h
  exact block_lt hh
theorem RowE.isE {w : World} {g N cap : Nat} {xs : List El} (h : RowE w g N cap xs) : IsE w (some ⟨g, 0, none⟩) N cap xs := by
  obtain ⟨cur, hh, ht, hl, hn, hm, hs⟩ := h
  refine ⟨hl, hn, hm, fun _ => ⟨g, 0, rfl, block_lt hh, fun j v hj => ?_⟩⟩
  rw [Nat.zero_add, cell_row hh, List.getElem?_toArray]
  rw [← ht, List.getElem?_take] at hj
  split at hj
  · exact hj
  · cases hj

/-- nil, or a row at the block. -/
def SE (w : World) (β : Option Nat) (v : Value) (xs : List El) : Prop :=
  match β with
  | none => v = .slice none 0 0 ∧ xs = []
  | some g => ∃ cap, v = .slice (some ⟨g, 0, none⟩) xs.length cap ∧ RowE w g xs.length cap xs

theorem SE.fr {S : Nat → Prop} {w w' : World} {β : Option Nat} {v : Value} {xs : List El} (h : SE w β v xs) (hF : Fr S w w') (hS : ∀ g, β = some g → ¬ S g) : SE w' β v xs := by
  cases β with
  | none => exact h
  | some g =>
    obtain ⟨cap, hv, hR⟩ := h
    exact ⟨cap, hv, hR.fr hF (hS g rfl)⟩
theorem SE.below {w w' : World} {β : Option Nat} {v : Value} {xs : List El} (h : SE w β v xs) (hb : Below w.heap.size w w') : SE w' β v xs :=
  h.fr (S := fun _ => False) (Fr.of_below hb) (fun _ _ h => h)
theorem SE.lt {w : World} {β : Option Nat} {v : Value} {xs : List El} (h : SE w β v xs) : ∀ g, β = some g → g < w.heap.size := by
  rintro g rfl
  obtain ⟨cap, hv, hR⟩ := h
  exact hR.lt
theorem SE.form {w : World} {β : Option Nat} {v : Value} {xs : List El} (h : SE w β v xs) : ∃ a c, v = .slice a xs.length c ∧ IsE w a xs.length c xs ∧ ∀ b off, a = some ⟨b, off, none⟩ → β = some b := by
  cases β with
  | none =>
    obtain ⟨rfl, rfl⟩ := h
    exact ⟨none, 0, rfl, isE_nil w, fun b off e => by cases e⟩
  | some g =>
    obtain ⟨cap, rfl, hR⟩ := h
    refine ⟨_, cap, rfl, hR.isE, fun b off e => ?_⟩
    have := Option.some.inj e
    simp at this
    rw [this.1]

theorem splice_take {α : Type} (L : List α) (off k : Nat) (cs : List α) (h : k ≤ off) (hL : off ≤ L.length) : (splice L off cs).take k = L.take k := by
  unfold splice
  rw [List.take_append_of_le_length (by rw [List.length_take]; omega), List.take_take, Nat.min_eq_left h]
theorem splice_drop {α : Type} (L : List α) (off : Nat) (cs : List α) (hL : off ≤ L.length) : (splice L off cs).drop off = cs ++ L.drop (off + cs.length) := by
  unfold splice
  have : (L.take off).length = off := by rw [List.length_take]; omega
  have e := List.drop_left (l₁ := L.take off) (l₂ := cs ++ L.drop (off + cs.length))
  rw [this] at e
  exact e

/-- Put in with room: what lies in the row behind the two copies. -/
theorem shift_take (L : List Value) (xs : List El) (x : El) (i n : Nat) (hx : xs.length = n) (hi : i ≤ n) (hL : (n + 1) * 3 ≤ L.length) (ht : L.take (n * 3) = cE xs) :
    (splice (splice L ((i + 1) * 3) (cE (xs.drop i))) (i * 3) (elc x)).take ((n + 1) * 3) = cE (xs.take i ++ x :: xs.drop i) := by
  have hd' : (cE (xs.drop i)).length = (n - i) * 3 := by rw [cE_len, List.length_drop, hx]
  have h1 : (splice L ((i + 1) * 3) (cE (xs.drop i))).length = L.length := length_splice _ _ _ (by rw [hd']; omega)
  have h2 : (splice L ((i + 1) * 3) (cE (xs.drop i))).take (i * 3) = cE (xs.take i) := by
    rw [splice_take _ _ _ _ (by omega) (by omega), ← cE_take xs i (by omega), ← ht, List.take_take, Nat.min_eq_left (by omega)]
  have h3 : (splice L ((i + 1) * 3) (cE (xs.drop i))).drop (i * 3 + (elc x).length) = cE (xs.drop i) ++ L.drop ((i + 1) * 3 + (cE (xs.drop i)).length) := by
    rw [show i * 3 + (elc x).length = (i + 1) * 3 from by simp [elc]; omega]
    exact splice_drop _ _ _ (by omega)
  rw [show splice (splice L ((i + 1) * 3) (cE (xs.drop i))) (i * 3) (elc x) = cE (xs.take i) ++ (elc x ++ (cE (xs.drop i) ++ L.drop ((i + 1) * 3 + (cE (xs.drop i)).length))) from by
    rw [← h2, ← h3]; rfl]
  have e : cE (xs.take i ++ x :: xs.drop i) = cE (xs.take i) ++ (elc x ++ cE (xs.drop i)) := by rw [cE_app, cE_cons]
  have el : (cE (xs.take i ++ x :: xs.drop i)).length = (n + 1) * 3 := by
    rw [cE_len]; simp; omega
  rw [← List.append_assoc (elc x), ← List.append_assoc (cE (xs.take i)), ← e, ← el, List.take_left]

/-- Take out: what lies in the row. -/
theorem unshift_take (L : List Value) (xs : List El) (z : List Value) (i n : Nat) (hx : xs.length = n) (hi : i < n) (hL : n * 3 ≤ L.length) (ht : L.take (n * 3) = cE xs) :
    (splice (splice L (i * 3) (cE (xs.drop (i + 1)))) ((n - 1) * 3) z).take ((n - 1) * 3) = cE (xs.take i ++ xs.drop (i + 1)) := by
  have hd' : (cE (xs.drop (i + 1))).length = (n - (i + 1)) * 3 := by rw [cE_len, List.length_drop, hx]
  have h1 : (splice L (i * 3) (cE (xs.drop (i + 1)))).length = L.length := length_splice _ _ _ (by rw [hd']; omega)
  rw [splice_take _ _ _ _ (by omega) (by omega)]
  have el : (cE (xs.take i ++ xs.drop (i + 1))).length = (n - 1) * 3 := by
    rw [cE_len]; simp; omega
  have h2 : L.take (i * 3) = cE (xs.take i) := by rw [← cE_take xs i (by omega), ← ht, List.take_take, Nat.min_eq_left (by omega)]
  unfold splice
  rw [h2, ← List.append_assoc, ← cE_app, ← el, List.take_left]

section
variable {P : Program}

/-- copy, of elements of any number of cells, into a block that is known whole. -/
theorem run_copy_k (w : World) (dT sT ty elem : TypeId) (size g o dLen dCap : Nat) (a : Addr) (sLen sCap n : Nat) (cur : List Value) (t : TypeId) (cs : List Value)
    (hu : P.underlying dT = some (.slice elem)) (hs : (P.info? elem).map (·.size) = some size)
    (hg : w.heap[g]? = some (.cells cur.toArray t (0, 0))) (hn : n = Nat.min sLen dLen) (hcl : cs.length = n * size)
    (hsrc : ∀ j v, cs[j]? = some v → w.cell? (a.add j) = some v) (hfit : o + cs.length ≤ cur.length) (h1 : ∀ v ∈ cs, v.oneCell' = true) :
    (Builtin.copy_ #[dT, sT] ty #[.slice (some ⟨g, o, none⟩) dLen dCap, .slice (some a) sLen sCap]).run P w = .ok (goInt n) (w.setRow g (splice cur o cs).toArray) := by
  have hl := run_loadCells_list (P := P) w a cs hsrc
  rw [hcl] at hl
  have hst := run_storeCells_at P g o t cs 0 cur.toArray w hg (by simpa using hfit) h1
  cases hq : P.info? elem with
  | none => simp [hq] at hs
  | some i =>
    have hi : i.size = size := by simpa [hq] using hs
    simp [Builtin.copy_, run_underlying hu, Builtin.lenOf, Builtin.firstCells, sizeOf, typeInfo, hq, hi, ← hn, hl, hst, splice]

theorem wpList_copy_k (w : World) {ops : Array Oper} {rest : List Oper} {o : Oper} {a : Act} {Q : Exit → Act → World → Prop} (hgd : o.guard = none) (d s : Operand) (t t' : TypeId)
    (ho : o.op = .call { callee := .builtin .copy, args := #[d, s], argTypes := #[t, t'] }) (v u : Value) (hd' : a.eval d = v) (hs : a.eval s = u) {v' : Value} {w' : World}
    (hr : (Builtin.copy_ #[t, t'] o.type #[v, u]).run P w = .ok v' w') (h : wpList P ops Q rest (a.put o.dst v') w') : wpList P ops Q (o :: rest) a w := by
  refine wpList_plain hgd fun K hK => ?_
  unfold Oper.wp
  simp [execOp, ho, resolve, invoke, builtin, hd', hs, hr, Result.andThen]
  exact hK _ _ h

theorem step_copy_k {ops : Array Oper} {o : Oper} {a : Act} {w : World} {K : Act → World → Prop} {Q : Exit → Act → World → Prop} {E : Prop}
    (hg : o.guard = none) (d x : Operand) (dT sT : TypeId) (hop : o.op = Op.call { callee := Callee.builtin Builtin.copy, args := #[d, x], argTypes := #[dT, sT] })
    (v u : Value) (hd' : a.eval d = v) (hx : a.eval x = u) {v' : Value} {w' : World} (hr : (Builtin.copy_ #[dT, sT] o.type #[v, u]).run P w = .ok v' w') (hK : K (a.put o.dst v') w') :
    if Region.wanted o (yielded ops a.tmps) = true then Oper.wp P o a w K Q else E := by
  have hw : Region.wanted o (yielded ops a.tmps) = true := by simp [Region.wanted, hg]
  rw [if_pos hw]
  unfold Oper.wp
  simp [execOp, hop, resolve, invoke, builtin, hd', hx, hr, Result.andThen]
  exact hK

theorem step_append_k {ops : Array Oper} {o : Oper} {a : Act} {w : World} {K : Act → World → Prop} {Q : Exit → Act → World → Prop} {E : Prop}
    (hg : o.guard = none) (d x : Operand) (dT sT : TypeId) (hop : o.op = Op.call { callee := Callee.builtin Builtin.append, args := #[d, x], argTypes := #[dT, sT] })
    (v u : Value) (hd' : a.eval d = v) (hx : a.eval x = u) {v' : Value} {w' : World} (hr : (Builtin.append_ #[dT, sT] o.type #[v, u]).run P w = .ok v' w') (hK : K (a.put o.dst v') w') :
    if Region.wanted o (yielded ops a.tmps) = true then Oper.wp P o a w K Q else E := by
  have hw : Region.wanted o (yielded ops a.tmps) = true := by simp [Region.wanted, hg]
  rw [if_pos hw]
  unfold Oper.wp
  simp [execOp, hop, resolve, invoke, builtin, hd', hx, hr, Result.andThen]
  exact hK

theorem wpList_append_k (w : World) {ops : Array Oper} {rest : List Oper} {o : Oper} {a : Act} {Q : Exit → Act → World → Prop} (hgd : o.guard = none) (d s : Operand) (t t' : TypeId)
    (ho : o.op = .call { callee := .builtin .append, args := #[d, s], argTypes := #[t, t'] }) (v u : Value) (hd' : a.eval d = v) (hs : a.eval s = u) {v' : Value} {w' : World}
    (hr : (Builtin.append_ #[t, t'] o.type #[v, u]).run P w = .ok v' w') (h : wpList P ops Q rest (a.put o.dst v') w') : wpList P ops Q (o :: rest) a w := by
  refine wpList_plain hgd fun K hK => ?_
  unfold Oper.wp
  simp [execOp, ho, resolve, invoke, builtin, hd', hs, hr, Result.andThen]
  exact hK _ _ h
end

theorem Try.infoE : (Try.prog.info? 25).map (fun i => (i.zero, i.size, i.bytes)) = some (some (.agg #[.int .u8 0, .int .i64 0, .int .i64 0]), 3, 24) := by kernel_rfl

/-- The row that an append leaves: the same, or a new one. -/
def Moved (w : World) (β β' : Option Nat) : Prop := β' = β ∨ ∃ g, β' = some g ∧ w.heap.size ≤ g

/-- The text at β is now ys, at v. -/
def NowE (w w' : World) (β : Option Nat) (v : Value) (ys : List El) : Prop := ∃ β', SE w' β' v ys ∧ Moved w β β' ∧ Fr (fun k => β = some k) w w'

end Go.Proofs.Ytlmgogonghafeab
