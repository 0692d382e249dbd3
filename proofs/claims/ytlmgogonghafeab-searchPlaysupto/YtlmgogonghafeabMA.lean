/-
  Texts put together: Aa Pn Rf Sb Common.
-/
import Derived.Test.YtlmgogonghafeabRows
import Derived.WalkKit
import Derived.WalkSpells
import Derived.WalkLawsBesides
import Derived.Laws.CopyOwn
import Derived.Laws.MakeOwn
import Derived.Deep.DeepAppendWide
import Derived.RangeFuncNested
import Derived.RangeFuncBound
import Derived.RangeFuncCalls
import Derived.RangeFuncLeaves
import Derived.Shelf.Abstract
import Derived.Shelf.RegionOpen
import Derived.OwnWalkIn
import Derived.TacticsInMore
import Derived.LoopNIn
import Derived.LoopIn
import Derived.Sort.CutIn
import Derived.Sort.QuietIn
import Derived.Stop.RegionWithIn
import Derived.Laws.Bits64b
import Derived.Lib.ConvBytes
import Derived.Lib.OthersKept
import Derived.Laws.BytesString
import Derived.ChangeMaps5
import Derived.ProofKit
import Derived.OpenShut
import Derived.ShutString
import Derived.ChangeOld
import Derived.ChangeSame
import Derived.Below
import Derived.Deep.Slices
import Derived.Deep.Strs
import Derived.Lib.SmallJoins
import Derived.SizedLaws
import Derived.DataShut
/-! Aa -/
namespace Go.Proofs.Ytlmgogonghafeab
open Go.RowKit
set_option linter.unusedVariables false

theorem hd {p : Prop} (h : p) : Hid p := h

/-- Every block that was there is as it was, but for the blocks of S. -/
structure Fr (S : Nat → Prop) (w w' : World) : Prop where
  os : w'.os = w.os
  tape : w'.tape = w.tape
  output : w'.output = w.output
  size : w.heap.size ≤ w'.heap.size
  block : ∀ k, k < w.heap.size → ¬ S k → w'.heap[k]? = w.heap[k]?

theorem Fr.refl (S : Nat → Prop) (w : World) : Fr S w w := ⟨rfl, rfl, rfl, Nat.le_refl _, fun _ _ _ => rfl⟩
theorem Fr.trans {S : Nat → Prop} {a b c : World} (h : Fr S a b) (k : Fr S b c) : Fr S a c :=
  ⟨k.os.trans h.os, k.tape.trans h.tape, k.output.trans h.output, Nat.le_trans h.size k.size, fun i hi hr => (k.block i (Nat.lt_of_lt_of_le hi h.size) hr).trans (h.block i hi hr)⟩
theorem Fr.next {S S' : Nat → Prop} {a b c : World} (h : Fr S a b) (k : Fr S' b c) (hS : ∀ i, i < a.heap.size → S' i → S i) : Fr S a c :=
  ⟨k.os.trans h.os, k.tape.trans h.tape, k.output.trans h.output, Nat.le_trans h.size k.size, fun i hi hr => (k.block i (Nat.lt_of_lt_of_le hi h.size) (fun hs => hr (hS i hi hs))).trans (h.block i hi hr)⟩
theorem Fr.mono {S S' : Nat → Prop} {w w' : World} (h : Fr S w w') (hS : ∀ k, k < w.heap.size → S k → S' k) : Fr S' w w' :=
  ⟨h.os, h.tape, h.output, h.size, fun k hk hn => h.block k hk (fun hs => hn (hS k hk hs))⟩
theorem Fr.of_below {S : Nat → Prop} {w w' : World} (h : Below w.heap.size w w') : Fr S w w' := ⟨h.os, h.tape, h.output, h.size, fun k hk _ => h.block k hk⟩
theorem Fr.below {S : Nat → Prop} {B : Nat} {w w' : World} (h : Fr S w w') (hB : B ≤ w.heap.size) (hS : ∀ k, S k → B ≤ k) : Below B w w' :=
  ⟨h.os, h.tape, h.output, h.size, fun k hk => h.block k (by omega) (fun hs => by have := hS k hs; omega)⟩
theorem Fr.drewN (S : Nat → Prop) (w : World) (m : Nat) : Fr S w (w.drewN m) := ⟨rfl, rfl, rfl, Nat.le_refl _, fun _ _ _ => rfl⟩
theorem Fr.drew (S : Nat → Prop) (w : World) : Fr S w w.drew := ⟨rfl, rfl, rfl, Nat.le_refl _, fun _ _ _ => rfl⟩
theorem Fr.setCell {S : Nat → Prop} (w : World) (p : Addr) (u : Value) (hp : S p.block) : Fr S w (w.setCell p u) :=
  ⟨rfl, rfl, rfl, by simp, fun k _ hk => Below.heap_setCell w p u k (fun h => hk (h ▸ hp))⟩
theorem Fr.setRow {S : Nat → Prop} (w : World) (g : Nat) (cs : Array Value) (hp : S g) : Fr S w (w.setRow g cs) :=
  ⟨rfl, rfl, rfl, by simp, fun k _ hk => setRow_other w g k cs (fun h => hk (h ▸ hp))⟩
theorem Fr.alloc (S : Nat → Prop) (w : World) (o : Obj) : Fr S w (w.alloc o) := Fr.of_below ((Below.refl _ _).alloc (Nat.le_refl _) o)
theorem Fr.cell {S : Nat → Prop} {w w' : World} (h : Fr S w w') {p : Addr} (hp : p.block < w.heap.size) (hr : ¬ S p.block) : w'.cell? p = w.cell? p := World.cell?_of_block (w := w) (h.block p.block hp hr)

theorem block_lt {w : World} {r : Nat} {o : Obj} (h : w.heap[r]? = some o) : r < w.heap.size := by
  by_cases hg : r < w.heap.size
  · exact hg
  · rw [Array.getElem?_eq_none (by omega)] at h
    simp at h

theorem Fr.keeps {S : Nat → Prop} {w w' : World} (h : Fr S w w') {r : Nat} {o : Obj} (hr : w.heap[r]? = some o) (hS : ¬ S r) : w'.heap[r]? = some o := (h.block r (block_lt hr) hS).trans hr

theorem cell_row {w : World} {r : Nat} {cur : Array Value} {t : TypeId} (h : w.heap[r]? = some (.cells cur t (0, 0))) (i : Nat) : w.cell? ⟨r, i, none⟩ = cur[i]? := by
  simp [World.cell?, h]
theorem frozen_row {w : World} {r : Nat} {cur : Array Value} {t : TypeId} (h : w.heap[r]? = some (.cells cur t (0, 0))) (i : Nat) : w.frozen? ⟨r, i, none⟩ = false := by
  simp [World.frozen?, h]
theorem set_row {w : World} {r : Nat} {cur : Array Value} {t : TypeId} (h : w.heap[r]? = some (.cells cur t (0, 0))) (i : Nat) (u : Value) : (w.setCell ⟨r, i, none⟩ u).heap[r]? = some (.cells (cur.setIfInBounds i u) t (0, 0)) :=
  heap_setCell_same w r i cur t u h

theorem add_lit (b o j : Nat) : (⟨b, o, none⟩ : Addr).add j = ⟨b, o + j, none⟩ := by
  by_cases h0 : j = 0
  · subst h0; simp [Addr.add]
  · simp [Addr.add, h0]

/-- An element has k cells. -/
def Sz {α : Type} (f : α → List Value) (k : Nat) : Prop := ∀ x, (f x).length = k ∧ ∀ v ∈ f x, v.oneCell' = true

/-- The cells of a list. -/
def cl {α : Type} (f : α → List Value) (xs : List α) : List Value := xs.flatMap f

section
variable {α : Type} {f : α → List Value} {k : Nat}
theorem cl_nil : cl f [] = [] := rfl
theorem cl_one (x : α) : cl f [x] = f x := by simp [cl]
theorem cl_app (xs ys : List α) : cl f (xs ++ ys) = cl f xs ++ cl f ys := by simp [cl]
theorem cl_cons (x : α) (xs : List α) : cl f (x :: xs) = f x ++ cl f xs := by simp [cl]
theorem cl_len (h : Sz f k) (xs : List α) : (cl f xs).length = xs.length * k := by
  induction xs with
  | nil => simp [cl_nil]
  | cons x xs ih => rw [cl_cons, List.length_append, ih, (h x).1, List.length_cons, Nat.add_mul]; omega
theorem cl_cells (h : Sz f k) (xs : List α) : ∀ v ∈ cl f xs, v.oneCell' = true := by
  intro v hv
  obtain ⟨x, -, hx⟩ := List.mem_flatMap.1 hv
  exact (h x).2 v hx
theorem cl_drop (h : Sz f k) (xs : List α) (i : Nat) : (cl f xs).drop (i * k) = cl f (xs.drop i) := by
  induction xs generalizing i with
  | nil => simp [cl_nil]
  | cons x xs ih =>
    cases i with
    | zero => simp
    | succ i =>
      rw [cl_cons, Nat.add_mul, Nat.one_mul, List.drop_succ_cons, ← ih i, List.drop_append]
      rw [List.drop_eq_nil_of_le (by rw [(h x).1]; omega), List.nil_append, (h x).1, Nat.add_sub_cancel]
theorem cl_take (h : Sz f k) (xs : List α) (i : Nat) : (cl f xs).take (i * k) = cl f (xs.take i) := by
  induction xs generalizing i with
  | nil => simp [cl_nil]
  | cons x xs ih =>
    cases i with
    | zero => simp [cl_nil]
    | succ i =>
      rw [cl_cons, Nat.add_mul, Nat.one_mul, List.take_succ_cons, cl_cons, ← ih i, List.take_append]
      rw [List.take_of_length_le (by rw [(h x).1]; omega), (h x).1, Nat.add_sub_cancel]
theorem cl_get (h : Sz f k) (xs : List α) (i j : Nat) (hi : i < xs.length) (hj : j < k) : (cl f xs)[i * k + j]? = (f xs[i])[j]? := by
  have h1 : (cl f xs)[i * k + j]? = ((cl f xs).drop (i * k))[j]? := by rw [List.getElem?_drop]
  rw [h1, cl_drop h, List.drop_eq_getElem_cons hi, cl_cons, List.getElem?_append_left (by rw [(h _).1]; exact hj)]
end

/-- Block g is a row of cap elements of type e, the first N of them xs. -/
def RowF {α : Type} (f : α → List Value) (k : Nat) (w : World) (g N cap : Nat) (e : TypeId) (xs : List α) : Prop :=
  ∃ cur : List Value, w.heap[g]? = some (.cells cur.toArray e (0, 0)) ∧ cur.take (N * k) = cl f xs ∧ xs.length = N ∧ N ≤ cap ∧ cap ≤ 9223372036854775807 ∧ cur.length = cap * k

/-- nil, or a row. -/
def SF {α : Type} (f : α → List Value) (k : Nat) (w : World) (e : TypeId) (β : Option Nat) (v : Value) (xs : List α) : Prop :=
  match β with
  | none => v = .slice none 0 0 ∧ xs = []
  | some g => ∃ cap, v = .slice (some ⟨g, 0, none⟩) xs.length cap ∧ RowF f k w g xs.length cap e xs

section
variable {α : Type} {f : α → List Value} {k : Nat} {w w' : World} {g N cap : Nat} {e : TypeId} {xs : List α} {S : Nat → Prop} {β : Option Nat} {v : Value}
theorem RowF.fr (h : RowF f k w g N cap e xs) (hF : Fr S w w') (hS : ¬ S g) : RowF f k w' g N cap e xs := by
  obtain ⟨cur, hh, r⟩ := h
  exact ⟨cur, hF.keeps hh hS, r⟩
theorem RowF.lt (h : RowF f k w g N cap e xs) : g < w.heap.size := by
  obtain ⟨cur, hh, _⟩ := h
  exact block_lt hh
theorem RowF.cell (h : RowF f k w g N cap e xs) (hz : Sz f k) (i j : Nat) (hi : i < xs.length) (hj : j < k) : w.cell? ⟨g, i * k + j, none⟩ = (f xs[i])[j]? := by
  obtain ⟨cur, hh, ht, hl, _⟩ := h
  have hlt : i * k + j < N * k := by
    have : (i + 1) * k ≤ N * k := Nat.mul_le_mul_right _ (by omega)
    rw [Nat.add_mul] at this
    omega
  rw [cell_row hh, ← cl_get hz xs i j hi hj, ← ht, List.getElem?_take, if_pos hlt]
  simp
theorem RowF.cells (h : RowF f k w g N cap e xs) (hz : Sz f k) (i : Nat) : ∀ j u, (cl f (xs.drop i))[j]? = some u → w.cell? ((⟨g, i * k, none⟩ : Addr).add j) = some u := by
  intro j u hj
  obtain ⟨cur, hh, ht, hl, _⟩ := h
  rw [add_lit, cell_row hh]
  rw [← cl_drop hz, List.getElem?_drop, ← ht] at hj
  have hjl := (List.getElem?_eq_some_iff.1 hj).1
  rw [List.length_take] at hjl
  rw [List.getElem?_take, if_pos (by omega)] at hj
  simpa using hj

theorem SF.fr (h : SF f k w e β v xs) (hF : Fr S w w') (hS : ∀ g, β = some g → ¬ S g) : SF f k w' e β v xs := by
  cases β with
  | none => exact h
  | some g =>
    obtain ⟨cap, hv, hR⟩ := h
    exact ⟨cap, hv, hR.fr hF (hS g rfl)⟩
theorem SF.form (h : SF f k w e β v xs) : ∃ a c, v = .slice a xs.length c ∧ xs.length ≤ c ∧ c ≤ 9223372036854775807 := by
  cases β with
  | none =>
    obtain ⟨rfl, rfl⟩ := h
    exact ⟨none, 0, rfl, by simp, by omega⟩
  | some g =>
    obtain ⟨cap, rfl, cur, -, -, -, h1, h2, -⟩ := h
    exact ⟨_, cap, rfl, h1, h2⟩
theorem SF.lt (h : SF f k w e β v xs) : ∀ g, β = some g → g < w.heap.size := by
  rintro g rfl
  obtain ⟨cap, hv, hR⟩ := h
  exact hR.lt
theorem SF.blk {g : Nat} (h : SF f k w e (some g) v xs) : ∃ cur, w.heap[g]? = some (.cells cur e (0, 0)) := by
  obtain ⟨cap, -, cur, hh, -⟩ := h
  exact ⟨_, hh⟩
end

/-- What an append leaves: the same row, or a new one behind all that was there. -/
def NowF {α : Type} (f : α → List Value) (k : Nat) (w w' : World) (e : TypeId) (β : Option Nat) (v' : Value) (xs : List α) : Prop :=
  ∃ g', SF f k w' e (some g') v' xs ∧ ((β = some g' ∧ Fr (· = g') w w') ∨ (g' = w.heap.size ∧ Fr (fun _ => False) w w'))

theorem run_pushF {α : Type} {f : α → List Value} {k : Nat} (hz : Sz f k) {P : Program} (w : World) (t ty e : TypeId) (i : TypeInfo) (z : Value) (bytes : Nat) (ht : P.underlying t = some (.slice e)) (hi : P.info? e = some i) (hzo : i.zero = some z) (hsz : i.size = k) (hzs : z.cells.size = k) (hby : i.bytes = bytes)
    (β : Option Nat) (v : Value) (xs : List α) (hv : SF f k w e β v xs) (ad : Addr) (m c : Nat) (ys : List α) (hl : ys.length = m) (hnews : ∀ j u, (cl f ys)[j]? = some u → w.cell? (ad.add j) = some u)
    (hm : 0 < m) (h63 : xs.length + m ≤ 9223372036854775807) (hb : ((xs.length + m) + (xs.length + m) / 4 + 192) * bytes ≤ 281474976710656) :
    ∃ v' w', (Builtin.append_ #[t, t] ty #[v, .slice (some ad) m c]).run P w = .ok v' w' ∧ NowF f k w w' e β v' (xs ++ ys) := by
  subst hby
  subst hsz
  have hmx : xs.length + m ≤ maxLen := h63
  have hlm : (cl f ys).length = m * i.size := by rw [cl_len hz, hl]
  have h1 := cl_cells hz ys
  have newrow : ∀ G, xs.length + m ≤ G → G ≤ 9223372036854775807 → RowF f i.size (w.drew.alloc (.cells ((cl f xs).toArray ++ (cl f ys).toArray ++ Builtin.zeroCells z.cells (G - (xs.length + m))) e)) w.heap.size (xs.length + m) G e (xs ++ ys) := by
    intro G hG1 hG2
    refine ⟨((cl f xs).toArray ++ (cl f ys).toArray ++ Builtin.zeroCells z.cells (G - (xs.length + m))).toList, ?_, ?_, by simp [hl], hG1, hG2, ?_⟩
    · rw [show w.heap.size = w.drew.heap.size from rfl, heap_alloc_new]
    · rw [Array.toList_append, Array.toList_append, List.toList_toArray, List.toList_toArray]
      have : (cl f xs ++ cl f ys).length = (xs.length + m) * i.size := by rw [List.length_append, cl_len hz, cl_len hz, hl, Nat.add_mul]
      rw [← this, List.take_left, cl_app]
    · rw [Array.toList_append, Array.toList_append, List.length_append, List.length_append, List.toList_toArray, List.toList_toArray, cl_len hz, cl_len hz, Array.length_toList (xs := Builtin.zeroCells _ _), size_zeroCells, hzs, hl, ← Nat.add_mul, ← Nat.add_mul]
      congr 1
      omega
  have newfr : ∀ o, Fr (fun _ => False) w (w.drew.alloc o) := fun o => (Fr.drew _ w).trans (Fr.alloc _ _ _)
  cases β with
  | none =>
    obtain ⟨rfl, rfl⟩ := hv
    have hr := run_append_nil (P := P) w t ty e i z ht hi hzo ad m c (cl f ys) hlm hnews hm (by simp at h63; omega) (by
      simp only [List.length_nil, Nat.zero_add] at hb
      exact Nat.le_trans (Nat.mul_le_mul_right _ (by omega)) hb)
    have hG1 := grownCap_ge w m 0 e
    have hG2 := grownCap_le_maxLen w m 0 e (by unfold maxLen; simp at h63; omega)
    generalize grownCap w m 0 e = G at hr hG1 hG2
    have hn := newrow G (by simpa using hG1) hG2
    simp only [List.length_nil, Nat.zero_add, List.nil_append, cl_nil] at hn ⊢
    refine ⟨_, _, hr, w.heap.size, ⟨G, by rw [hl], ?_⟩, .inr ⟨rfl, newfr _⟩⟩
    rw [hl]
    simpa using hn
  | some g =>
    obtain ⟨cap, rfl, cur, hh, htk, hvl, hnc, hcm, hcs⟩ := hv
    by_cases hroom : xs.length + m ≤ cap
    · have hfit : xs.length * i.size + (cl f ys).length ≤ cur.length := by
        rw [hlm, ← Nat.add_mul, hcs]
        exact Nat.mul_le_mul_right _ hroom
      have hr := run_append_room (P := P) w t ty e i ht hi g xs.length cap cur.toArray hh ad m c (cl f ys) hlm hnews h1 hroom (by simpa using hfit)
      refine ⟨_, _, hr, g, ⟨cap, by simp [hl], ?_⟩, .inl ⟨rfl, Fr.setRow w g _ rfl⟩⟩
      refine ⟨_, setRow_heap w g cur.toArray _ e _ hh, ?_, rfl, by simp [hl]; omega, hcm, ?_⟩
      · rw [List.toList_toArray, htk]
        have : (cl f xs ++ cl f ys).length = (xs ++ ys).length * i.size := by rw [List.length_append, cl_len hz, cl_len hz, List.length_append, Nat.add_mul]
        rw [← this, List.take_left, cl_app]
      · simp only [List.length_append, List.length_take, List.length_drop]
        omega
    · have holds : ∀ j u, (cl f xs)[j]? = some u → w.cell? ((⟨g, 0, none⟩ : Addr).add j) = some u := by
        have := RowF.cells (f := f) (k := i.size) (w := w) (g := g) (N := xs.length) (cap := cap) (e := e) (xs := xs) ⟨cur, hh, htk, hvl, hnc, hcm, hcs⟩ hz 0
        simpa using this
      have hr := run_append_grow (P := P) w t ty e i z ht hi hzo ⟨g, 0, none⟩ xs.length cap (cl f xs) (by rw [cl_len hz]) holds ad m c (cl f ys) hlm hnews (by omega) (by omega) (growslice_fits_wide (by omega) hb)
      have hG1 := grownCap_ge w (xs.length + m) cap e
      have hG2 := grownCap_le_maxLen w (xs.length + m) cap e hmx
      generalize grownCap w (xs.length + m) cap e = G at hr hG1 hG2
      have hn := newrow G hG1 hG2
      refine ⟨_, _, hr, w.heap.size, ⟨G, by simp [hl], ?_⟩, .inr ⟨rfl, newfr _⟩⟩
      rw [List.length_append, hl]
      exact hn

/-- The elements behind place i, moved onto place j (j at most i): append(s[:j], s[i:]...). -/
theorem row_moved {α : Type} {f : α → List Value} {k : Nat} (hz : Sz f k) {P : Program} (w : World) (t ty e : TypeId) (i : TypeInfo) (ht : P.underlying t = some (.slice e)) (hi : P.info? e = some i) (hsz : i.size = k)
    (g N cap d c : Nat) (xs : List α) (h : RowF f k w g N cap e xs) (hd' : d ≤ N) (A : Addr) (hA : N = d ∨ A = ⟨g, d * k, none⟩) :
    ∃ cur : List Value, (Builtin.append_ #[t, t] ty #[.slice (some ⟨g, 0, none⟩) 0 cap, .slice (some A) (N - d) c]).run P w = .ok (.slice (some ⟨g, 0, none⟩) (N - d) cap) (w.setRow g (splice cur 0 (cl f (xs.drop d))).toArray) ∧
      w.heap[g]? = some (.cells cur.toArray e (0, 0)) ∧ cur.length = cap * k := by
  subst hsz
  have hR := h
  obtain ⟨cur, hh, htk, hl, hnc, hcm, hcs⟩ := h
  refine ⟨cur, ?_, hh, hcs⟩
  have hdl : (xs.drop d).length = N - d := by rw [List.length_drop, hl]
  have hlm : (cl f (xs.drop d)).length = (N - d) * i.size := by rw [cl_len hz, hdl]
  have hsrc : ∀ j u, (cl f (xs.drop d))[j]? = some u → w.cell? (A.add j) = some u := by
    rcases hA with hA | rfl
    · intro j u hj
      rw [show xs.drop d = [] from List.drop_eq_nil_of_le (by omega)] at hj
      simp [cl_nil] at hj
    · exact hR.cells hz d
  have hfit : 0 * i.size + (cl f (xs.drop d)).length ≤ cur.toArray.size := by
    rw [hlm, List.size_toArray, hcs, Nat.zero_mul, Nat.zero_add]
    exact Nat.mul_le_mul_right _ (by omega)
  have hr := run_append_room (P := P) w t ty e i ht hi g 0 cap cur.toArray hh A (N - d) c (cl f (xs.drop d)) hlm hsrc (cl_cells hz _) (by omega) hfit
  simpa [splice] using hr

end Go.Proofs.Ytlmgogonghafeab

/-! Pn -/
namespace Go.Proofs.Ytlmgogonghafeab
open Go.RowKit
set_option linter.unusedVariables false

abbrev El := Int × Int × Int
abbrev By := List UInt8

def stB (T p : By) (q : Nat) : Bool := p.isPrefixOf (T.drop q)
theorem stB_iff {T p : By} {q : Nat} : stB T p q = true ↔ p <+: T.drop q := by unfold stB; exact List.isPrefixOf_iff_prefix

/-- The places from s0 on at which the pattern is seen to stand, t characters having been read. -/
def fnd (T p : By) (s0 t : Nat) : List Nat := (List.range' s0 (t + 1 - p.length)).filter (stB T p)

theorem fnd_zero {T p : By} {s0 : Nat} (hp : 1 ≤ p.length) : fnd T p s0 0 = [] := by
  unfold fnd
  rw [show 0 + 1 - p.length = 0 by omega]
  rfl

theorem suf_iff {T p : By} {s0 t : Nat} (ht : s0 + t < T.length) (hm : p.length ≤ t + 1) : p <:+ (T.drop s0).take (t + 1) ↔ stB T p (s0 + (t + 1 - p.length)) = true := by
  have hl : ((T.drop s0).take (t + 1)).length = t + 1 := by simp; omega
  rw [stB_iff, List.suffix_iff_eq_drop, hl, List.prefix_iff_eq_take, List.drop_take, List.drop_drop, show t + 1 - (t + 1 - p.length) = p.length by omega]

theorem fnd_succ {T p : By} {s0 t : Nat} (ht : s0 + t < T.length) :
    fnd T p s0 (t + 1) = fnd T p s0 t ++ (if p <:+ (T.drop s0).take (t + 1) then [s0 + (t + 1 - p.length)] else []) := by
  by_cases hm : p.length ≤ t + 1
  · unfold fnd
    rw [show t + 1 + 1 - p.length = (t + 1 - p.length) + 1 by omega, List.range'_concat, List.filter_append]
    congr 1
    simp only [Nat.one_mul, List.filter_cons, List.filter_nil]
    by_cases h : p <:+ (T.drop s0).take (t + 1)
    · rw [if_pos h, if_pos ((suf_iff ht hm).1 h)]
    · rw [if_neg h, if_neg (fun e => h ((suf_iff ht hm).2 e))]
  · have hn : ¬ p <:+ (T.drop s0).take (t + 1) := fun h => by
      have := h.length_le
      simp at this
      omega
    rw [if_neg hn, List.append_nil]
    unfold fnd
    rw [show t + 1 + 1 - p.length = 0 by omega, show t + 1 - p.length = 0 by omega]

theorem fnd_prefix {T p : By} {s0 t : Nat} : ∀ d, fnd T p s0 t <+: fnd T p s0 (t + d)
  | 0 => List.prefix_refl _
  | d + 1 => by
    unfold fnd
    have : List.range' s0 (t + 1 - p.length) <+: List.range' s0 (t + (d + 1) + 1 - p.length) := by
      refine ⟨List.range' (s0 + (t + 1 - p.length)) (t + (d + 1) + 1 - p.length - (t + 1 - p.length)), ?_⟩
      rw [List.range'_append_1]
      congr 1
      omega
    exact this.filter _
theorem fnd_take {T p : By} {s0 t N k : Nat} (h : t ≤ N) (hk : (fnd T p s0 t).length = k) : (fnd T p s0 N).take k = fnd T p s0 t := by
  have := fnd_prefix (T := T) (p := p) (s0 := s0) (t := t) (N - t)
  rw [show t + (N - t) = N by omega] at this
  rw [← hk]
  exact (List.prefix_iff_eq_take.1 this).symm
theorem fnd_len {T p : By} {s0 t : Nat} (hp : 1 ≤ p.length) : (fnd T p s0 t).length ≤ t := by
  unfold fnd
  refine Nat.le_trans (List.length_filter_le _ _) ?_
  rw [List.length_range']
  omega
/-- All places. -/
def plc (T p : By) : List Nat := fnd T p 0 T.length
theorem fnd_mem {T p : By} {s0 t q : Nat} : q ∈ fnd T p s0 t ↔ (s0 ≤ q ∧ q + p.length ≤ s0 + t ∧ stB T p q = true) ∨ (p.length = 0 ∧ q ∈ fnd T p s0 t) := by
  by_cases h0 : p.length = 0
  · constructor
    · exact fun h => .inr ⟨h0, h⟩
    · rintro (⟨h1, h2, h3⟩ | h)
      · unfold fnd
        rw [List.mem_filter, List.mem_range'_1]
        exact ⟨by omega, h3⟩
      · exact h.2
  · unfold fnd
    rw [List.mem_filter, List.mem_range'_1]
    constructor
    · rintro ⟨h1, h2⟩
      exact .inl ⟨by omega, by omega, h2⟩
    · rintro (⟨h1, h2, h3⟩ | h)
      · exact ⟨by omega, h3⟩
      · omega
/-- The places from s0 on are those of all that are not ahead of s0. -/
theorem fnd_from {T p : By} {s0 : Nat} (hp : 1 ≤ p.length) (hs : s0 ≤ T.length) : fnd T p s0 (T.length - s0) = (plc T p).filter (fun q => decide (s0 ≤ q)) := by
  unfold plc fnd
  rw [List.filter_filter]
  by_cases h : s0 + p.length ≤ T.length + 1
  · have e : List.range' 0 (T.length + 1 - p.length) = List.range' 0 s0 ++ List.range' s0 (T.length - s0 + 1 - p.length) := by
      rw [show (List.range' s0 (T.length - s0 + 1 - p.length)) = List.range' (0 + s0) (T.length - s0 + 1 - p.length) by rw [Nat.zero_add], List.range'_append_1]
      congr 1
      omega
    rw [e, List.filter_append]
    have h1 : (List.range' 0 s0).filter (fun q => decide (s0 ≤ q) && stB T p q) = [] := by
      rw [List.filter_eq_nil_iff]
      intro q hq
      rw [List.mem_range'_1] at hq
      simp
      omega
    rw [h1, List.nil_append]
    refine List.filter_congr fun q hq => ?_
    rw [List.mem_range'_1] at hq
    simp [hq.1]
  · have h1 : (List.range' 0 (T.length + 1 - p.length)).filter (fun q => decide (s0 ≤ q) && stB T p q) = [] := by
      rw [List.filter_eq_nil_iff]
      intro q hq
      rw [List.mem_range'_1] at hq
      simp
      omega
    rw [h1, show T.length - s0 + 1 - p.length = 0 by omega]
    rfl

/-- Bit i: the last i + 1 characters are the first i + 1 of the pattern. -/
def BS (p seen : By) (H : Nat) : Prop := ∀ i, H.testBit i = decide (i < p.length ∧ p.take (i + 1) <:+ seen)
/-- Bit i: the character stands at place i of the pattern, which is below k. -/
def MK (p : By) (k : Nat) (c : UInt8) (M : Nat) : Prop := ∀ i, M.testBit i = decide (i < k ∧ p[i]? = some c)

theorem BS.zero {p : By} : BS p [] 0 := fun i => by
  rw [Nat.zero_testBit]
  symm
  rw [decide_eq_false_iff_not]
  rintro ⟨h1, h2⟩
  have := h2.length_le
  rw [List.length_take, List.length_nil] at this
  omega
theorem BS.lt {p seen : By} {H : Nat} (h : BS p seen H) : H < 2 ^ p.length := Nat.lt_pow_two_of_testBit _ fun i hi => by
  rw [h i]
  simp
  omega
theorem MK.zero {p : By} {c : UInt8} : MK p 0 c 0 := fun i => by simp
theorem MK.lt {p : By} {k : Nat} {c : UInt8} {M : Nat} (h : MK p k c M) : M < 2 ^ k := Nat.lt_pow_two_of_testBit _ fun i hi => by
  rw [h i]
  simp
  omega
theorem MK.same {p : By} {k : Nat} {c : UInt8} {M : Nat} (h : MK p k c M) (hk : p[k]? = some c) : MK p (k + 1) c (M ||| 2 ^ k) := fun i => by
  rw [Nat.testBit_or, h i, Nat.testBit_two_pow]
  by_cases e : k = i
  · subst e
    simp [hk]
  · have : (i < k + 1) ↔ (i < k) := by omega
    simp [e, this]
theorem MK.other {p : By} {k : Nat} {c : UInt8} {M : Nat} (h : MK p k c M) (hk : p[k]? ≠ some c) : MK p (k + 1) c M := fun i => by
  rw [h i]
  by_cases e : k = i
  · subst e
    simp [hk]
  · have : (i < k + 1) ↔ (i < k) := by omega
    simp [this]

theorem suffix_snoc {a s : By} {x y : UInt8} : a ++ [x] <:+ s ++ [y] ↔ a <:+ s ∧ x = y := by
  constructor
  · rintro ⟨t, ht⟩
    rw [← List.append_assoc] at ht
    obtain ⟨h1, h2⟩ := List.append_inj' ht rfl
    exact ⟨⟨t, h1⟩, by simpa using h2⟩
  · rintro ⟨⟨t, ht⟩, rfl⟩
    exact ⟨t, by rw [← ht]; simp⟩

theorem BS.step {p seen : By} {H M : Nat} {c : UInt8} (h : BS p seen H) (hM : MK p p.length c M) (hp : p.length ≤ 64) : BS p (seen ++ [c]) ((H * 2 % 18446744073709551616 ||| 1) &&& M) := fun i => by
  rw [Nat.testBit_and, Nat.testBit_or, hM i, show (18446744073709551616 : Nat) = 2 ^ 64 from rfl, Nat.testBit_mod_two_pow]
  by_cases hi : i < p.length
  · have ht : p.take (i + 1) = p.take i ++ [p[i]] := by rw [List.take_succ_eq_append_getElem hi]
    rw [ht]
    simp only [suffix_snoc, hi, true_and, List.getElem?_eq_getElem hi, Option.some.injEq]
    cases i with
    | zero => simp
    | succ j =>
      have e1 : (H * 2).testBit (j + 1) = H.testBit j := by
        rw [Nat.testBit_succ, Nat.mul_div_cancel _ (by omega)]
      have e2 : (1 : Nat).testBit (j + 1) = false := by rw [Nat.testBit_succ]; simp
      rw [e1, e2, h j]
      have : j < p.length := by omega
      simp [this, show j + 1 < 64 by omega]
  · simp [hi]

/-- The last bit is set just where the whole pattern has gone by. -/
theorem BS.top {p seen : By} {H m : Nat} (h : BS p seen H) (hm : p.length = m + 1) : (H / 2 ^ m = 0 ↔ ¬ p <:+ seen) := by
  have hl := h.lt
  rw [hm, Nat.pow_succ] at hl
  have hb := h m
  rw [show p.take (m + 1) = p by rw [← hm, List.take_length], hm] at hb
  rw [Nat.testBit_eq_decide_div_mod_eq] at hb
  have h2 : H / 2 ^ m < 2 := Nat.div_lt_of_lt_mul (by omega)
  simp only [show m < m + 1 by omega, true_and, decide_eq_decide] at hb
  rw [← hb]
  clear hb hl
  generalize H / 2 ^ m = q at *
  omega

end Go.Proofs.Ytlmgogonghafeab

/-! Rf -/
namespace Go.Proofs.Ytlmgogonghafeab
open Go.RowKit Go.Shelf
set_option linter.unusedVariables false
attribute [local go_sem] Oper.semAt_some

theorem Fr.putObj (W : World) (l : Nat) (o : Obj) : Fr (fun j => j = l) W (W.putObj l o) := ⟨rfl, rfl, rfl, by simp [World.putObj], fun k hk hn => World.putObj_heap_other hn⟩
/-- The two blocks of a loop: its record, and the one for deferred calls. -/
def LB (l D : Nat) (r : Loop) (W : World) : Prop := W.heap[l]? = some (.loop r) ∧ W.heap[D]? = some (.deferred (some []))

/-- How a round may be left. -/
def outPost (l D : Nat) (r : Loop) (I : World → Prop) (Ix : Code → World → Prop) : Exit → Act → World → Prop
  | .normal, _, W' => LB l D r W' ∧ I W'
  | .ret, _, W' => LB l D r W' ∧ Ix .ret W'
  | .exit id, _, W' => LB l D r W' ∧ Ix (.exit id) W'
  | .goto t, _, W' => LB l D r W' ∧ Ix (.goto t) W'
  | .panic _, _, _ => False
  | .outgrown, _, _ => False

theorem range_as {P : Program} {F : Fence} {n : Nat} {α : Type} {g : Operand} {ps : Array Tmp} {assign body : Code} {Q : Exit → Act → World → Prop} {a : Act} {w : World}
    (hro : F.round = none) (h1 : 1 ≤ n) {gf : Nat} {lb : Array Value} (hg : a.eval g = .func (.func gf) #[] lb) (hFg : F.fn gf) (eg : ∀ args w, (callFunc gf args).run P w = .ok (.enter gf args) w)
    (encs : α → Array Value) (hps : ∀ x, (encs x).size = ps.size) (l D : Nat) (hD : D = w.heap.size) (hl : l = w.heap.size + 1)
    (I0 Ie : World → Prop) (I Y : α → World → Prop) (Ya : α → Act → World → Prop) (Ix : Code → World → Prop)
    (pY : ∀ x a W r r', W.heap[l]? = some (.loop r) → Ya x a W → Ya x a (W.putObj l (.loop r'))) (pI : ∀ x W r r', W.heap[l]? = some (.loop r) → I x W → I x (W.putObj l (.loop r'))) (pIe : ∀ W r r', W.heap[l]? = some (.loop r) → Ie W → Ie (W.putObj l (.loop r'))) (pIx : ∀ c W r r', W.heap[l]? = some (.loop r) → Ix c W → Ix c (W.putObj l (.loop r')))
    (h0 : ∀ r, I0 ((w.alloc (.deferred (some []))).alloc (.loop r)))
    (hseq : ∀ (r : Loop) (W1 : World) (X : World → Prop), LB l D r W1 → I0 W1 →
      (∀ x W, LB l D r W → Y x W → YieldAt F (n - 1 - 1) P l (encs x) W fun e W' => (e = .returned (.bool true) ∧ LB l D r W' ∧ I x W') ∨ (e = .returned (.bool false) ∧ X W')) →
      CallsIn F (n - 1) P gf (#[.func (.yield l) #[] #[]] ++ lb) W1 fun e W' => (∃ v, e = .returned v) ∧ ((LB l D r W' ∧ Ie W') ∨ X W'))
    (hassign : ∀ (x : α) (r : Loop) (W : World), LB l D r W → Y x W → ∀ (K : Act → World → Prop), (∀ a' W', LB l D r W' → Ya x a' W' → K a' W') → assign.wpIn (F.inRound l) (n - 1 - 1) P (Exit.then K (fun _ _ _ => False)) { tmps := (ps.zip (encs x)).foldl (fun t (p, v) => t.setIfInBounds p v) a.tmps, defers := [] } W)
    (hbody : ∀ (x : α) (r : Loop) (a' : Act) (W : World), LB l D r W → Ya x a' W → body.wpIn (F.inRound l) (n - 1 - 1) P (outPost l D r (I x) Ix) a' W)
    (hdone : ∀ W, Ie W → W.heap[D]? = some (.deferred (some [])) → Q .normal { a with defers := { target := .collected D, args := #[] } :: a.defers } W)
    (hstop : ∀ c W, Ix c W → W.heap[D]? = some (.deferred (some [])) → c.wpIn F n P Q { a with defers := { target := .collected D, args := #[] } :: a.defers } W) :
    (Code.rangeFunc g ps assign body).wpIn F n P Q a w := by
  subst hD
  have hlD : w.heap.size ≠ l := by omega
  refine wpIn_rangeFunc fun fn hfn => ?_
  rw [hro]
  obtain ⟨r0, hr0⟩ : ∃ r0 : Loop, r0 = { state := .ready, pending := none, fn, tmps := a.tmps, params := ps, assign, body, defers := w.heap.size } := ⟨_, rfl⟩
  obtain ⟨W1, hW1⟩ : ∃ W1, (w.alloc (.deferred (some []))).alloc (.loop r0) = W1 := ⟨_, rfl⟩
  have hL1 : LB l w.heap.size r0 W1 := by
    rw [← hW1, hl]
    refine ⟨?_, (Below.heap_alloc _ _ _ (by simp)).trans (World.alloc_heap_new w _)⟩
    have := World.alloc_heap_new (w.alloc (.deferred (some []))) (.loop r0)
    rwa [World.size_alloc] at this
  refine ⟨l, [{ target := .collected w.heap.size, args := #[] }], W1, { target := .fn (.func gf) lb, args := #[.func (.yield l) #[] #[]] }, W1, gf, #[.func (.yield l) #[] #[]] ++ lb, W1, ?_, ?_, ?_, ?_, fun _ => h1, ?_⟩
  · rw [← hW1, hr0, hl]; exact run_enterLoop_outer _ _ _ _ _
  · simp only [resolve, hg]
    simp [go_sem]
  · intro f' hf'; simp [Target.leads] at hf'; subst hf'; exact hFg
  · simp [invoke, go_sem, eg]
  · refine (hseq r0 W1 (fun W => ∃ c, LB l w.heap.size { r0 with state := .done, pending := some c } W ∧ Ix c W) hL1 (by rw [← hW1]; exact h0 _) ?_).mono ?_
    · rintro x W ⟨hb1, hb2⟩ hY
      have hlt : l < W.heap.size := block_lt hb1
      have hy := run_yield (P := P) (args := encs x) hb1 (by rw [hr0]; exact hps x)
      rw [hr0] at hy
      refine ⟨fn, _, assign, body, hy, roundIn_of_wpIn hfn (hassign x r0 W ⟨hb1, hb2⟩ hY _ ?_)⟩
      clear hy hb1 hb2 hY hlt
      rintro a2 W2 ⟨hb1, hb2⟩ hY
      have hlt : l < W2.heap.size := block_lt hb1
      refine ⟨_, run_beginRound hb1 (by rw [hr0]), ?_⟩
      have lb2 : LB l w.heap.size { r0 with state := .busy } (W2.putObj l (.loop { r0 with state := .busy })) := ⟨World.putObj_heap_same hlt, (World.putObj_heap_other hlD).trans hb2⟩
      refine wpIn_mono (hbody x _ _ _ lb2 (pY _ _ _ _ _ hb1 hY)) ?_
      have fin : ∀ (jump : Option Code) (W3 : World), LB l w.heap.size { r0 with state := .busy } W3 → (Instr.endRound l jump).run P W3 = .ok (.bool jump.isNone) (W3.putObj l (.loop { r0 with state := if jump.isNone then .ready else .done, pending := jump })) ∧ LB l w.heap.size { r0 with state := if jump.isNone then .ready else .done, pending := jump } (W3.putObj l (.loop { r0 with state := if jump.isNone then .ready else .done, pending := jump })) := fun jump W3 h3 =>
        ⟨by have := run_endRound (P := P) jump h3.1; exact this, World.putObj_heap_same (block_lt h3.1), (World.putObj_heap_other hlD).trans h3.2⟩
      rintro e a3 W3 hp
      cases e with
      | normal =>
        obtain ⟨hr, h4⟩ := fin none W3 hp.1
        refine ⟨_, _, hr, .inl ⟨rfl, ?_, pI _ _ _ _ hp.1.1 hp.2⟩⟩
        have e : ({ r0 with state := if (none : Option Code).isNone then .ready else .done, pending := none } : Loop) = r0 := by rw [hr0]; rfl
        rw [e] at h4 ⊢
        exact h4
      | ret =>
        obtain ⟨hr, h4⟩ := fin (some .ret) W3 hp.1
        exact ⟨_, _, hr, .inr ⟨rfl, .ret, h4, pIx _ _ _ _ hp.1.1 hp.2⟩⟩
      | exit id =>
        obtain ⟨hr, h4⟩ := fin (some (.exit id)) W3 hp.1
        exact ⟨_, _, hr, .inr ⟨rfl, .exit id, h4, pIx _ _ _ _ hp.1.1 hp.2⟩⟩
      | goto t =>
        obtain ⟨hr, h4⟩ := fin (some (.goto t)) W3 hp.1
        exact ⟨_, _, hr, .inr ⟨rfl, .goto t, h4, pIx _ _ _ _ hp.1.1 hp.2⟩⟩
      | panic ch => exact hp.elim
      | outgrown => exact hp.elim
    · rintro e W2 ⟨⟨v, rfl⟩, (⟨h2, hi⟩ | ⟨c, h2, hi⟩)⟩
      · have he := run_endLoop (P := P) h2.1 (by rw [hr0]; simp)
        have hp : r0.pending = none := by rw [hr0]
        rw [hp] at he
        exact ⟨none, _, he, hdone _ (pIe _ _ _ h2.1 hi) ((World.putObj_heap_other hlD).trans h2.2)⟩
      · have he := run_endLoop (P := P) h2.1 (by simp)
        exact ⟨some c, _, he, hstop c _ (pIx _ _ _ _ h2.1 hi) ((World.putObj_heap_other hlD).trans h2.2)⟩

theorem wpListIn_append_k {F : Fence} {n : Nat} {P : Program} (w : World) {ops : Array Oper} {rest : List Oper} {o : Oper} {a : Act} {Q : Exit → Act → World → Prop} (hgd : o.guard = none) (d s : Operand) (t t' : TypeId)
    (ho : o.op = .call { callee := .builtin .append, args := #[d, s], argTypes := #[t, t'] }) (v u : Value) (hd' : a.eval d = v) (hs : a.eval s = u) {v' : Value} {w' : World}
    (hr : (Builtin.append_ #[t, t'] o.type #[v, u]).run P w = .ok v' w') (h : wpListIn F n P ops Q rest (a.put o.dst v') w') : wpListIn F n P ops Q (o :: rest) a w := by
  refine wpListIn_plain hgd fun K hK => ?_
  unfold Oper.wpIn
  refine ⟨by simp [Oper.about, ho, resolve, Target.leads, Sem.run_pure], ?_⟩
  rw [Oper.semAt_plain F _ _ (by rw [ho]; intro c hc'; cases hc')]
  simp [execOp, ho, resolve, invoke, builtin, hd', hs, hr, Result.andThen]
  exact hK _ _ h
theorem retM {F : Fence} {n : Nat} {P : Program} {fn : Func} {R : Ending → World → Prop} {a : Act} {w : World} {v : Value} (hr : (results fn a.tmps).run P w = .ok v w) (hd' : a.defers = []) (hR : R (.returned v) w) : bodyPostM F n P fn R .ret a w := by
  show LeavesInM F n P fn a.tmps R a.defers .returning w
  rw [hd']
  exact ⟨v, hr, hR⟩

end Go.Proofs.Ytlmgogonghafeab

/-! Sb -/
namespace Go.Proofs.Ytlmgogonghafeab
open Go.RowKit Go.Shelf
set_option linter.unusedVariables false

def ub (b : UInt8) : Value := .int .u8 ((b.toNat : Nat) : Int)
/-- A piece: where it lies, its room, its bytes. -/
structure Pc where
  b : Nat
  off : Nat
  cap : Nat
  bs : By
def Pc.val (q : Pc) : Value := .slice (some ⟨q.b, q.off, none⟩) q.bs.length q.cap
def txP (ps : List Pc) : By := ps.flatMap (·.bs)
theorem txP_nil : txP [] = [] := rfl
theorem txP_app (a b : List Pc) : txP (a ++ b) = txP a ++ txP b := by simp [txP]
theorem txP_one (q : Pc) : txP [q] = q.bs := by simp [txP]
theorem txP_succ {ps : List Pc} {k : Nat} (hk : k < ps.length) : txP (ps.take (k + 1)) = txP (ps.take k) ++ ps[k].bs := by
  rw [List.take_succ_eq_append_getElem hk, txP_app, txP_one]
theorem txP_split {ps : List Pc} {k : Nat} (hk : k < ps.length) : txP ps = txP (ps.take k) ++ (ps[k].bs ++ txP (ps.drop (k + 1))) := by
  rw [← txP_one ps[k], ← txP_app, ← txP_app]
  congr 1
  rw [List.singleton_append, ← List.drop_eq_getElem_cons hk, List.take_append_drop]

def OkPc (w : World) (q : Pc) : Prop := q.b < w.heap.size ∧ q.bs.length ≤ q.cap ∧ q.cap ≤ 9223372036854775807 ∧ ∀ j (h : j < q.bs.length), w.cell? ⟨q.b, q.off + j, none⟩ = some (ub q.bs[j])
/-- The slice value at a, of n pieces and capacity c, holds the pieces ps in w. -/
structure IsP (w : World) (a : Option Addr) (n c : Nat) (ps : List Pc) : Prop where
  len : ps.length = n
  le : n ≤ c
  cap : c ≤ 9223372036854775807
  row : 0 < n → ∃ g off, a = some ⟨g, off, none⟩ ∧ g < w.heap.size ∧ ∀ i (h : i < ps.length), w.cell? ⟨g, off + i, none⟩ = some ps[i].val
  all : ∀ q ∈ ps, OkPc w q
theorem OkPc.below {w w' : World} {q : Pc} (h : OkPc w q) (hb : Below w.heap.size w w') : OkPc w' q := by
  obtain ⟨h1, h2, h3, h4⟩ := h
  exact ⟨Nat.lt_of_lt_of_le h1 hb.size, h2, h3, fun j hj => by rw [hb.cell (p := ⟨q.b, q.off + j, none⟩) h1]; exact h4 j hj⟩
theorem IsP.below {w w' : World} {a : Option Addr} {n c : Nat} {ps : List Pc} (h : IsP w a n c ps) (hb : Below w.heap.size w w') : IsP w' a n c ps := by
  refine ⟨h.len, h.le, h.cap, fun hn => ?_, fun q hq => (h.all q hq).below hb⟩
  obtain ⟨g, off, e, hg, hc⟩ := h.row hn
  exact ⟨g, off, e, Nat.lt_of_lt_of_le hg hb.size, fun i hi => by rw [hb.cell (p := ⟨g, off + i, none⟩) hg]; exact hc i hi⟩

/-- The cells of the marks. -/
def mkc (M : Nat → Nat) : Array Value := ((List.range 256).map fun c => Value.int .u64 ((M c : Nat) : Int)).toArray
theorem mkc_get (M : Nat → Nat) (c : Nat) (hc : c < 256) : (mkc M)[c]? = some (.int .u64 ((M c : Nat) : Int)) := by
  unfold mkc
  rw [List.getElem?_toArray, List.getElem?_map, List.getElem?_range hc]
  rfl
theorem mkc_set (M : Nat → Nat) (c x : Nat) (hc : c < 256) : (mkc M).setIfInBounds c (.int .u64 ((x : Nat) : Int)) = mkc (fun k => if k = c then x else M k) := by
  apply Array.ext_getElem?
  intro k
  rw [Array.getElem?_setIfInBounds]
  have hs : (mkc M).size = 256 := by simp [mkc]
  by_cases hk : k < 256
  · rw [mkc_get (fun k => if k = c then x else M k) k hk]
    by_cases e : c = k
    · subst e
      rw [if_pos rfl, if_pos (by omega), if_pos rfl]
    · rw [if_neg e, mkc_get _ k hk, if_neg (Ne.symm e)]
  · have e : c ≠ k := by omega
    rw [if_neg e, Array.getElem?_eq_none (by omega), Array.getElem?_eq_none (by simp [mkc]; omega)]

def ei (x : Int) : List Value := [.int .i64 x]
theorem szI : Sz ei 1 := fun x => ⟨rfl, fun v hv => by simp [ei] at hv; subst hv; rfl⟩
theorem Try.infoI : (Try.prog.info? 3).map (fun i => (i.zero, i.size, i.bytes)) = some (some (.int .i64 0), 1, 8) := by kernel_rfl
theorem push_int (w : World) (β : Option Nat) (v : Value) (xs : List Int) (hv : SF ei 1 w 3 β v xs) (b : Nat) (x : Int) (hb : w.heap[b]? = some (.cells #[.int .i64 x] 3 (0, 0))) (hn : xs.length ≤ 10000000000000) :
    ∃ v' w', (∀ ty, (Builtin.append_ #[36, 36] ty #[v, .slice (some ⟨b, 0, none⟩) 1 1]).run Try.prog w = .ok v' w') ∧ NowF ei 1 w w' 3 β v' (xs ++ [x]) := by
  obtain ⟨i0, hi0, hz0, hz1, hz2⟩ := info_parts Try.infoI
  obtain ⟨v', w', hr, hN⟩ := run_pushF szI (P := Try.prog) w 36 0 3 i0 _ 8 Try.underlying36 hi0 hz0 hz1 rfl hz2 β v xs hv ⟨b, 0, none⟩ 1 1 [x] rfl (fun j u hj => by
    rw [cl_one] at hj
    rw [add_lit, cell_row hb, Nat.zero_add, List.getElem?_toArray]
    exact hj) (by omega) (by omega) (by omega)
  exact ⟨v', w', fun ty => hr, hN⟩

def nI (l : List Nat) : List Int := l.map (fun q => ((q : Nat) : Int))
/-- What stands in memory between two characters. -/
structure PlS (w : World) (B : Nat) (most last : Int) (M : Nat → Nat) (a : Option Addr) (n c : Nat) (pos : Int) (H : Nat) (v : Value) (fs : List Nat) (W : World) : Prop where
  mb : W.heap[B]? = some (.cells #[.int .i64 most] 3 (0, 0))
  mrk : W.heap[B + 1]? = some (.cells (mkc M) 102 (0, 0))
  fb : W.heap[B + 3]? = some (.cells #[v] 36 (0, 0))
  hb : W.heap[B + 4]? = some (.cells #[.int .u64 ((H : Nat) : Int)] 101 (0, 0))
  lb : W.heap[B + 5]? = some (.cells #[.int .i64 last] 3 (0, 0))
  bp : W.heap[B + 6]? = some (.cells #[.slice a n c] 57 (0, 0))
  bq : W.heap[B + 7]? = some (.cells #[.int .i64 pos] 3 (0, 0))
  row : ∃ β, SF ei 1 W 3 β v (nI fs) ∧ ∀ g, β = some g → B + 10 ≤ g
  bel : Below B w W
section
variable {w W W' : World} {B : Nat} {most last pos : Int} {M : Nat → Nat} {a : Option Addr} {n c H : Nat} {v : Value} {fs : List Nat}
theorem PlS.fr {S : Nat → Prop} (h : PlS w B most last M a n c pos H v fs W) (hF : Fr S W W') (hS : ∀ k, S k → B + 8 ≤ k) (hrow : ∀ β, SF ei 1 W 3 β v (nI fs) → ∀ g, β = some g → ¬ S g) : PlS w B most last M a n c pos H v fs W' := by
  have k : ∀ j, j < B + 8 → ¬ S j := fun j hj hs => by have := hS j hs; omega
  obtain ⟨β, h1, h2⟩ := h.row
  refine ⟨hF.keeps h.mb (k _ (by omega)), hF.keeps h.mrk (k _ (by omega)), hF.keeps h.fb (k _ (by omega)), hF.keeps h.hb (k _ (by omega)), hF.keeps h.lb (k _ (by omega)), hF.keeps h.bp (k _ (by omega)), hF.keeps h.bq (k _ (by omega)), ⟨β, h1.fr hF (hrow β h1), h2⟩, h.bel.trans (hF.below (Nat.le_of_lt (block_lt h.mb)) ?_)⟩
  intro j hs
  have := hS j hs
  omega
theorem PlS.below (h : PlS w B most last M a n c pos H v fs W) (hb : Below W.heap.size W W') : PlS w B most last M a n c pos H v fs W' :=
  h.fr (S := fun _ => False) (Fr.of_below hb) (fun _ h => h.elim) (fun _ _ _ _ h => h)
/-- A block that is no row of cells changes. -/
theorem PlS.put {l : Nat} {o o' : Obj} (h : PlS w B most last M a n c pos H v fs W) (hl : W.heap[l]? = some o') (ho : ∀ cs t f, o' ≠ .cells cs t f) (hlB : B + 8 ≤ l) : PlS w B most last M a n c pos H v fs (W.putObj l o) :=
  h.fr (Fr.putObj W l o) (fun k hk => by rw [hk]; exact hlB) (fun β hβ g hg hs => by
    subst hg
    obtain ⟨cur, hc⟩ := hβ.blk
    rw [hs, hl] at hc
    exact ho _ _ _ (Option.some.inj hc))
/-- Another number of held bits. -/
theorem PlS.held (h : PlS w B most last M a n c pos H v fs W) (H' : Nat) : PlS w B most last M a n c pos H' v fs (W.setCell ⟨B + 4, 0, none⟩ (.int .u64 ((H' : Nat) : Int))) := by
  have hF : Fr (fun j => j = B + 4) W (W.setCell ⟨B + 4, 0, none⟩ (.int .u64 ((H' : Nat) : Int))) := Fr.setCell W _ _ rfl
  obtain ⟨β, h1, h2⟩ := h.row
  refine ⟨hF.keeps h.mb (by omega), hF.keeps h.mrk (by omega), hF.keeps h.fb (by omega), ?_, hF.keeps h.lb (by omega), hF.keeps h.bp (by omega), hF.keeps h.bq (by omega), ⟨β, h1.fr hF (fun g hg e => by have := h2 g hg; omega), h2⟩, h.bel.trans (hF.below (Nat.le_of_lt (block_lt h.mb)) (fun k e => by omega))⟩
  have := set_row h.hb 0 (.int .u64 ((H' : Nat) : Int))
  simpa using this
/-- One place more. -/
theorem PlS.push (h : PlS w B most last M a n c pos H v fs W) (hsz : B + 10 ≤ W.heap.size) (q : Nat) (hn : fs.length ≤ 10000000000) :
    ∃ a' c' w', (∀ ty, (Builtin.append_ #[36, 36] ty #[v, .slice (some ⟨W.heap.size, 0, none⟩) 1 1]).run Try.prog (W.alloc (.cells #[.int .i64 ((q : Nat) : Int)] 3)) = .ok (.slice a' (fs.length + 1) c') w') ∧ w'.heap[B + 3]? = some (.cells #[v] 36 (0, 0)) ∧
      PlS w B most last M a n c pos H (.slice a' (fs.length + 1) c') (fs ++ [q]) (w'.setCell ⟨B + 3, 0, none⟩ (.slice a' (fs.length + 1) c')) ∧ Fr (fun j => B ≤ j ∧ ∃ cs t f, W.heap[j]? = some (.cells cs t f)) W (w'.setCell ⟨B + 3, 0, none⟩ (.slice a' (fs.length + 1) c')) := by
  obtain ⟨β, h1, h2⟩ := h.row
  have b1 : Below W.heap.size W (W.alloc (.cells #[.int .i64 ((q : Nat) : Int)] 3)) := (Below.refl _ _).alloc (Nat.le_refl _) _
  have r1 := h1.fr (Fr.of_below (S := fun _ => False) b1) (fun _ _ h => h)
  obtain ⟨v', w', hr, g', hS', hN⟩ := push_int _ β v (nI fs) r1 W.heap.size q (heap_alloc_new W _) (by simp [nI]; omega)
  obtain ⟨a', c', hv', -⟩ := hS'.form
  have el : (nI fs ++ [(q : Int)]).length = fs.length + 1 := by simp [nI]
  rw [el] at hv'
  subst hv'
  have hsz1 : (W.alloc (.cells #[.int .i64 ((q : Nat) : Int)] 3)).heap.size = W.heap.size + 1 := by simp
  have hF1 : Fr (fun j => β = some j) W w' := by
    have hA : Fr (fun j => β = some j) W (W.alloc (.cells #[.int .i64 ((q : Nat) : Int)] 3)) := Fr.alloc _ _ _
    rcases hN with ⟨e1, hf⟩ | ⟨e1, hf⟩
    · exact hA.trans (hf.mono (fun k _ hk => by rw [e1, hk]))
    · exact hA.trans (hf.mono (fun k _ hk => hk.elim))
  have hg' : B + 10 ≤ g' := by
    rcases hN with ⟨e1, -⟩ | ⟨e1, -⟩
    · exact h2 g' e1
    · rw [hsz1] at e1; omega
  have k1 : ∀ j, j < B + 10 → ¬ (β = some j) := fun j hj e => by have := h2 j e; omega
  have hF2 : Fr (fun j => j = B + 3) w' (w'.setCell ⟨B + 3, 0, none⟩ (.slice a' (fs.length + 1) c')) := Fr.setCell w' _ _ rfl
  have m3 := hF1.keeps h.fb (k1 _ (by omega))
  refine ⟨a', c', w', hr, m3, ⟨hF2.keeps (hF1.keeps h.mb (k1 _ (by omega))) (by omega), hF2.keeps (hF1.keeps h.mrk (k1 _ (by omega))) (by omega), ?_, hF2.keeps (hF1.keeps h.hb (k1 _ (by omega))) (by omega), hF2.keeps (hF1.keeps h.lb (k1 _ (by omega))) (by omega), hF2.keeps (hF1.keeps h.bp (k1 _ (by omega))) (by omega), hF2.keeps (hF1.keeps h.bq (k1 _ (by omega))) (by omega), ⟨some g', ?_, fun g hg => by cases hg; exact hg'⟩, (h.bel.trans (hF1.below (Nat.le_of_lt (block_lt h.mb)) (fun k e => by have := h2 k e; omega))).trans (hF2.below (by have := block_lt h.mb; have := hF1.size; omega) (fun k e => by omega))⟩, ?_⟩
  · have := set_row m3 0 (.slice a' (fs.length + 1) c')
    simpa using this
  · have e2 : nI fs ++ [(q : Int)] = nI (fs ++ [q]) := by simp [nI]
    rw [e2] at hS'
    exact hS'.fr hF2 (fun g hg e => by cases hg; omega)
  · have hF1' : Fr (fun j => B ≤ j ∧ ∃ cs t f, W.heap[j]? = some (.cells cs t f)) W w' := hF1.mono (fun k _ hk => by
      refine ⟨by have := h2 k hk; omega, ?_⟩
      subst hk
      obtain ⟨cur, hc⟩ := h1.blk
      exact ⟨_, _, _, hc⟩)
    exact hF1'.next hF2 (fun i _ e => by subst e; exact ⟨by omega, _, _, _, h.fb⟩)
end
end Go.Proofs.Ytlmgogonghafeab

/-! Common -/
namespace Go.Proofs.Ytlmgogonghafeab
open Go.ChangeShapes Go.WideShapes Go.ChangeAt Go.RowKit Go.Deep Go.Joins
set_option linter.unusedVariables false

theorem own : ownKnob Try.prog.godebug = none := by kernel_rfl
theorem laidOut : laidOutB Try.prog = true := by kernel_rfl

theorem cell_lt {w : World} {a : Addr} {v : Value} (h : w.cell? a = some v) : a.block < w.heap.size := by
  by_cases hb : a.block < w.heap.size
  · exact hb
  · unfold World.cell? at h
    rw [Array.getElem?_eq_none (by omega)] at h
    simp at h

/-- The reach, of all that a datum holds. -/
def Fits {H : Type} (t : TypeId) (d : DataW H) : Prop := ∀ k ∈ d.weights Try.prog t, k ≤ 140737488351232

theorem fits_of {H : Type} {ts : List TypeId} {ds : List (DataW H)} (h : (DataW.weightsEach Try.prog ts ds).all (· ≤ reachBytes) = true) {j : Nat} {t : TypeId} {d : DataW H} (ht : ts[j]? = some t) (hd' : ds[j]? = some d) : Fits t d := by
  intro k hk
  have := List.all_eq_true.1 h k (DataW.weights_mem_each ht hd' k hk)
  exact of_decide_eq_true this

/-- A slice of elements of k cells each, opened. -/
def OpS {α : Type} (f : α → List Value) (Pr : α → Prop) (W : World) (a : Option Addr) (n c : Nat) (xs : List α) : Prop :=
  xs.length = n ∧ n ≤ c ∧ c ≤ 9223372036854775807 ∧ (∀ x ∈ xs, Pr x) ∧ (0 < n → ∃ b off, a = some ⟨b, off, none⟩ ∧ b < W.heap.size ∧ ∀ j v, (cl f xs)[j]? = some v → W.cell? ⟨b, off + j, none⟩ = some v)

set_option maxRecDepth 100000 in
theorem opens {α : Type} {f : α → List Value} {k : Nat} (hz : Sz f k) (hk : 0 < k) {t e : TypeId} {bytes : Nat} (ht : Try.prog.underlying t = some (.slice e)) (hce : Try.prog.cellsOf e = k) (hby : Try.prog.bytesOf e = bytes) (Pr : α → Prop) (x0 : α)
    {H : Type} {enc : TypeId × Value → H} {W : World} (he : ∀ (fuel : Nat) (cs : List Value) (y : DataW H × List MemPlace), DataW.trod enc Try.prog W 0 (fun _ => true) true fuel e cs = some y → ∃ q : α, cs = f q ∧ Pr q) {fuel : Nat} {v : Value} {d : DataW H} {p : List MemPlace}
    (hf : DataW.trod enc Try.prog W 0 (fun _ => true) true fuel t [v] = some (d, p)) (hs : Fits t d) : ∃ a n c xs, v = .slice a n c ∧ OpS f Pr W a n c xs ∧ n * bytes ≤ 140737488351232 := by
  rcases open_slice ht hf with ⟨hcs, _⟩ | ⟨x, l, cc, m, kk, D, Pl, hcs, _, hl, hm, hmm, hd', hx⟩
  · simp at hcs
    exact ⟨none, 0, 0, [], hcs, ⟨rfl, Nat.le_refl _, by omega, by simp, fun h => by omega⟩, by omega⟩
  · simp at hcs
    have hmc : m = cc := by simpa using hmm
    subst hmc
    have hd2 : d = _ := (Prod.mk.inj hd').1
    have hsz : l * bytes ≤ 140737488351232 := by
      have := hs ((((List.range l).map D).length + ((List.range (m - l)).map fun i => D (l + i)).length) * Try.prog.bytesOf e) (by rw [hd2]; simp [DataW.weights, ht])
      rw [hby] at this
      simp at this
      exact Nat.le_trans (Nat.mul_le_mul_right _ (by omega)) this
    have each : ∀ i, i < l → ∃ q : α, Pr q ∧ ∀ r (hr : r < k), W.cell? (x.add (i * k + r)) = (f q)[r]? := by
      intro i hi
      obtain ⟨cs', h1, h2⟩ := hx i (by omega)
      rw [hce] at h1
      obtain ⟨_, hlen, hcell⟩ := World.cells?_some h1
      obtain ⟨q, hq, hp⟩ := he _ _ _ h2
      refine ⟨q, hp, fun r hr => ?_⟩
      have := hcell r (by omega)
      rw [add_add] at this
      rw [this]
      subst hq
      rfl
    have each2 : ∀ i, ∃ q : α, i < l → Pr q ∧ ∀ r (hr : r < k), W.cell? (x.add (i * k + r)) = (f q)[r]? := by
      intro i
      by_cases hi : i < l
      · obtain ⟨q, hq⟩ := each i hi
        exact ⟨q, fun _ => hq⟩
      · exact ⟨x0, fun h => absurd h hi⟩
    obtain ⟨Q, hQ⟩ := Classical.axiomOfChoice each2
    refine ⟨some x, l, m, (List.range l).map Q, hcs, ⟨by simp, hl, by simpa [maxLen] using hm, ?_, fun h0 => ?_⟩, hsz⟩
    · intro y hy
      obtain ⟨i, hi, rfl⟩ := List.mem_map.1 hy
      exact (hQ i (List.mem_range.1 hi)).1
    · obtain ⟨b, off, spot⟩ := x
      have c0 := (hQ 0 h0).2 0 hk
      have hf0 : ((f (Q 0))[0]?).isSome := by
        rw [List.getElem?_eq_getElem (by rw [(hz (Q 0)).1]; exact hk)]
        rfl
      obtain ⟨v0, hv0⟩ := Option.isSome_iff_exists.1 hf0
      rw [hv0] at c0
      have hspot : spot = none := by
        have := World.cell?_spot c0
        simpa [Addr.add] using this
      subst hspot
      refine ⟨b, off, rfl, ?_, fun j u hj => ?_⟩
      · have := cell_lt c0
        rwa [add_plain] at this
      · have hjl := (List.getElem?_eq_some_iff.1 hj).1
        rw [cl_len hz] at hjl
        simp at hjl
        have hjk : j / k < l := Nat.div_lt_of_lt_mul (by rw [Nat.mul_comm]; exact hjl)
        have e : j / k * k + j % k = j := Nat.div_add_mod' j k
        have hg := cl_get hz ((List.range l).map Q) (j / k) (j % k) (by simpa using hjk) (Nat.mod_lt _ hk)
        rw [e, hj] at hg
        have hc := (hQ (j / k) hjk).2 (j % k) (Nat.mod_lt _ hk)
        rw [e, add_plain] at hc
        rw [hc, hg]
        simp

theorem cellsI' : Try.prog.cellsOf 3 = 1 := by kernel_rfl
theorem cellsS' : Try.prog.cellsOf 9 = 1 := by kernel_rfl
theorem cellsU' : Try.prog.cellsOf 5 = 1 := by kernel_rfl
theorem cellsB' : Try.prog.cellsOf 4 = 1 := by kernel_rfl
theorem wf_u8_range {n : Int} (h : (Lit.int .u8 n).wf = true) : 0 ≤ n ∧ n ≤ 255 := (Lit.wf_int_iff .u8 n).1 h
theorem wf_i64_range {n : Int} (h : (Lit.int .i64 n).wf = true) : -9223372036854775808 ≤ n ∧ n ≤ 9223372036854775807 := (Lit.wf_int_iff .i64 n).1 h

end Go.Proofs.Ytlmgogonghafeab
