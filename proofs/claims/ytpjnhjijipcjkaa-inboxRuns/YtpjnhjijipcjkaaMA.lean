/-
  Texts put together: Aa Ab Ac Ad Ae Af Ag Ah.
-/
import Derived.Test.YtpjnhjijipcjkaaRows
import Derived.WalkKit
import Derived.WalkSpells
import Derived.WalkLawsBesides
import Derived.Laws.CopyOwn
import Derived.Laws.MakeOwn
import Derived.Deep.DeepAppendWide
import Derived.Deep.RegionHeld3
import Derived.Deep.DeepCutAuto
/-! Aa -/
namespace Go.Proofs.Ytpjnhjijipcjkaa
open Go.RowKit
set_option linter.unusedVariables false

theorem hd {p : Prop} (h : p) : Hid p := h

/-- Every block that was there is as it was, but for the blocks of S. -/
structure Fr (S : Nat → Prop) (w w' : World) : Prop where
  os : w'.os = w.os
  tape : w'.tape = w.tape
  output : w'.output = w.output
  size : w.heap.size ≤ w'.heap.size
  block : ∀ k, k < w.heap.size → ¬ S k → w'.heap[k]? = w.heap[k]?

theorem Fr.refl (S : Nat → Prop) (w : World) : Fr S w w := ⟨rfl, rfl, rfl, Nat.le_refl _, fun _ _ _ => rfl⟩
theorem Fr.trans {S : Nat → Prop} {a b c : World} (h : Fr S a b) (k : Fr S b c) : Fr S a c :=
  ⟨k.os.trans h.os, k.tape.trans h.tape, k.output.trans h.output, Nat.le_trans h.size k.size, fun i hi hr => (k.block i (Nat.lt_of_lt_of_le hi h.size) hr).trans (h.block i hi hr)⟩
theorem Fr.next {S S' : Nat → Prop} {a b c : World} (h : Fr S a b) (k : Fr S' b c) (hS : ∀ i, i < a.heap.size → S' i → S i) : Fr S a c :=
  ⟨k.os.trans h.os, k.tape.trans h.tape, k.output.trans h.output, Nat.le_trans h.size k.size, fun i hi hr => (k.block i (Nat.lt_of_lt_of_le hi h.size) (fun hs => hr (hS i hi hs))).trans (h.block i hi hr)⟩
theorem Fr.mono {S S' : Nat → Prop} {w w' : World} (h : Fr S w w') (hS : ∀ k, k < w.heap.size → S k → S' k) : Fr S' w w' :=
  ⟨h.os, h.tape, h.output, h.size, fun k hk hn => h.block k hk (fun hs => hn (hS k hk hs))⟩
theorem Fr.of_below {S : Nat → Prop} {w w' : World} (h : Below w.heap.size w w') : Fr S w w' := ⟨h.os, h.tape, h.output, h.size, fun k hk _ => h.block k hk⟩
theorem Fr.below {S : Nat → Prop} {B : Nat} {w w' : World} (h : Fr S w w') (hB : B ≤ w.heap.size) (hS : ∀ k, S k → B ≤ k) : Below B w w' :=
  ⟨h.os, h.tape, h.output, h.size, fun k hk => h.block k (by omega) (fun hs => by have := hS k hs; omega)⟩
theorem Fr.drewN (S : Nat → Prop) (w : World) (m : Nat) : Fr S w (w.drewN m) := ⟨rfl, rfl, rfl, Nat.le_refl _, fun _ _ _ => rfl⟩
theorem Fr.drew (S : Nat → Prop) (w : World) : Fr S w w.drew := ⟨rfl, rfl, rfl, Nat.le_refl _, fun _ _ _ => rfl⟩
theorem Fr.setCell {S : Nat → Prop} (w : World) (p : Addr) (u : Value) (hp : S p.block) : Fr S w (w.setCell p u) :=
  ⟨rfl, rfl, rfl, by simp, fun k _ hk => Below.heap_setCell w p u k (fun h => hk (h ▸ hp))⟩
theorem Fr.setRow {S : Nat → Prop} (w : World) (g : Nat) (cs : Array Value) (hp : S g) : Fr S w (w.setRow g cs) :=
  ⟨rfl, rfl, rfl, by simp, fun k _ hk => setRow_other w g k cs (fun h => hk (h ▸ hp))⟩
theorem Fr.alloc (S : Nat → Prop) (w : World) (o : Obj) : Fr S w (w.alloc o) := Fr.of_below ((Below.refl _ _).alloc (Nat.le_refl _) o)
theorem Fr.cell {S : Nat → Prop} {w w' : World} (h : Fr S w w') {p : Addr} (hp : p.block < w.heap.size) (hr : ¬ S p.block) : w'.cell? p = w.cell? p := World.cell?_of_block (w := w) (h.block p.block hp hr)

theorem block_lt {w : World} {r : Nat} {o : Obj} (h : w.heap[r]? = some o) : r < w.heap.size := by
  by_cases hg : r < w.heap.size
  · exact hg
  · rw [Array.getElem?_eq_none (by omega)] at h
    simp at h

theorem Fr.keeps {S : Nat → Prop} {w w' : World} (h : Fr S w w') {r : Nat} {o : Obj} (hr : w.heap[r]? = some o) (hS : ¬ S r) : w'.heap[r]? = some o := (h.block r (block_lt hr) hS).trans hr

theorem cell_row {w : World} {r : Nat} {cur : Array Value} {t : TypeId} (h : w.heap[r]? = some (.cells cur t (0, 0))) (i : Nat) : w.cell? ⟨r, i, none⟩ = cur[i]? := by
  simp [World.cell?, h]
theorem frozen_row {w : World} {r : Nat} {cur : Array Value} {t : TypeId} (h : w.heap[r]? = some (.cells cur t (0, 0))) (i : Nat) : w.frozen? ⟨r, i, none⟩ = false := by
  simp [World.frozen?, h]
theorem set_row {w : World} {r : Nat} {cur : Array Value} {t : TypeId} (h : w.heap[r]? = some (.cells cur t (0, 0))) (i : Nat) (u : Value) : (w.setCell ⟨r, i, none⟩ u).heap[r]? = some (.cells (cur.setIfInBounds i u) t (0, 0)) :=
  heap_setCell_same w r i cur t u h

theorem add_lit (b o j : Nat) : (⟨b, o, none⟩ : Addr).add j = ⟨b, o + j, none⟩ := by
  by_cases h0 : j = 0
  · subst h0; simp [Addr.add]
  · simp [Addr.add, h0]

/-- An element has k cells. -/
def Sz {α : Type} (f : α → List Value) (k : Nat) : Prop := ∀ x, (f x).length = k ∧ ∀ v ∈ f x, v.oneCell' = true

/-- The cells of a list. -/
def cl {α : Type} (f : α → List Value) (xs : List α) : List Value := xs.flatMap f

section
variable {α : Type} {f : α → List Value} {k : Nat}
theorem cl_nil : cl f [] = [] := rfl
theorem cl_one (x : α) : cl f [x] = f x := by simp [cl]
theorem cl_app (xs ys : List α) : cl f (xs ++ ys) = cl f xs ++ cl f ys := by simp [cl]
theorem cl_cons (x : α) (xs : List α) : cl f (x :: xs) = f x ++ cl f xs := by simp [cl]
theorem cl_len (h : Sz f k) (xs : List α) : (cl f xs).length = xs.length * k := by
  induction xs with
  | nil => simp [cl_nil]
  | cons x xs ih => rw [cl_cons, List.length_append, ih, (h x).1, List.length_cons, Nat.add_mul]; omega
theorem cl_cells (h : Sz f k) (xs : List α) : ∀ v ∈ cl f xs, v.oneCell' = true := by
  intro v hv
  obtain ⟨x, -, hx⟩ := List.mem_flatMap.1 hv
  exact (h x).2 v hx
theorem cl_drop (h : Sz f k) (xs : List α) (i : Nat) : (cl f xs).drop (i * k) = cl f (xs.drop i) := by
  induction xs generalizing i with
  | nil => simp [cl_nil]
  | cons x xs ih =>
    cases i with
    | zero => simp
    | succ i =>
      rw [cl_cons, Nat.add_mul, Nat.one_mul, List.drop_succ_cons, ← ih i, List.drop_append]
      rw [List.drop_eq_nil_of_le (by rw [(h x).1]; omega), List.nil_append, (h x).1, Nat.add_sub_cancel]
theorem cl_take (h : Sz f k) (xs : List α) (i : Nat) : (cl f xs).take (i * k) = cl f (xs.take i) := by
  induction xs generalizing i with
  | nil => simp [cl_nil]
  | cons x xs ih =>
    cases i with
    | zero => simp [cl_nil]
    | succ i =>
      rw [cl_cons, Nat.add_mul, Nat.one_mul, List.take_succ_cons, cl_cons, ← ih i, List.take_append]
      rw [List.take_of_length_le (by rw [(h x).1]; omega), (h x).1, Nat.add_sub_cancel]
theorem cl_get (h : Sz f k) (xs : List α) (i j : Nat) (hi : i < xs.length) (hj : j < k) : (cl f xs)[i * k + j]? = (f xs[i])[j]? := by
  have h1 : (cl f xs)[i * k + j]? = ((cl f xs).drop (i * k))[j]? := by rw [List.getElem?_drop]
  rw [h1, cl_drop h, List.drop_eq_getElem_cons hi, cl_cons, List.getElem?_append_left (by rw [(h _).1]; exact hj)]
end

/-- Block g is a row of cap elements of type e, the first N of them xs. -/
def RowF {α : Type} (f : α → List Value) (k : Nat) (w : World) (g N cap : Nat) (e : TypeId) (xs : List α) : Prop :=
  ∃ cur : List Value, w.heap[g]? = some (.cells cur.toArray e (0, 0)) ∧ cur.take (N * k) = cl f xs ∧ xs.length = N ∧ N ≤ cap ∧ cap ≤ 9223372036854775807 ∧ cur.length = cap * k

/-- nil, or a row. -/
def SF {α : Type} (f : α → List Value) (k : Nat) (w : World) (e : TypeId) (β : Option Nat) (v : Value) (xs : List α) : Prop :=
  match β with
  | none => v = .slice none 0 0 ∧ xs = []
  | some g => ∃ cap, v = .slice (some ⟨g, 0, none⟩) xs.length cap ∧ RowF f k w g xs.length cap e xs

section
variable {α : Type} {f : α → List Value} {k : Nat} {w w' : World} {g N cap : Nat} {e : TypeId} {xs : List α} {S : Nat → Prop} {β : Option Nat} {v : Value}
theorem RowF.fr (h : RowF f k w g N cap e xs) (hF : Fr S w w') (hS : ¬ S g) : RowF f k w' g N cap e xs := by
  obtain ⟨cur, hh, r⟩ := h
  exact ⟨cur, hF.keeps hh hS, r⟩
theorem RowF.lt (h : RowF f k w g N cap e xs) : g < w.heap.size := by
  obtain ⟨cur, hh, _⟩ := h
  exact block_lt hh
theorem RowF.cell (h : RowF f k w g N cap e xs) (hz : Sz f k) (i j : Nat) (hi : i < xs.length) (hj : j < k) : w.cell? ⟨g, i * k + j, none⟩ = (f xs[i])[j]? := by
  obtain ⟨cur, hh, ht, hl, _⟩ := h
  have hlt : i * k + j < N * k := by
    have : (i + 1) * k ≤ N * k := Nat.mul_le_mul_right _ (by omega)
    rw [Nat.add_mul] at this
    omega
  rw [cell_row hh, ← cl_get hz xs i j hi hj, ← ht, List.getElem?_take, if_pos hlt]
  simp
theorem RowF.cells (h : RowF f k w g N cap e xs) (hz : Sz f k) (i : Nat) : ∀ j u, (cl f (xs.drop i))[j]? = some u → w.cell? ((⟨g, i * k, none⟩ : Addr).add j) = some u := by
  intro j u hj
  obtain ⟨cur, hh, ht, hl, _⟩ := h
  rw [add_lit, cell_row hh]
  rw [← cl_drop hz, List.getElem?_drop, ← ht] at hj
  have hjl := (List.getElem?_eq_some_iff.1 hj).1
  rw [List.length_take] at hjl
  rw [List.getElem?_take, if_pos (by omega)] at hj
  simpa using hj

theorem SF.fr (h : SF f k w e β v xs) (hF : Fr S w w') (hS : ∀ g, β = some g → ¬ S g) : SF f k w' e β v xs := by
  cases β with
  | none => exact h
  | some g =>
    obtain ⟨cap, hv, hR⟩ := h
    exact ⟨cap, hv, hR.fr hF (hS g rfl)⟩
theorem SF.form (h : SF f k w e β v xs) : ∃ a c, v = .slice a xs.length c ∧ xs.length ≤ c ∧ c ≤ 9223372036854775807 := by
  cases β with
  | none =>
    obtain ⟨rfl, rfl⟩ := h
    exact ⟨none, 0, rfl, by simp, by omega⟩
  | some g =>
    obtain ⟨cap, rfl, cur, -, -, -, h1, h2, -⟩ := h
    exact ⟨_, cap, rfl, h1, h2⟩
theorem SF.lt (h : SF f k w e β v xs) : ∀ g, β = some g → g < w.heap.size := by
  rintro g rfl
  obtain ⟨cap, hv, hR⟩ := h
  exact hR.lt
theorem SF.blk {g : Nat} (h : SF f k w e (some g) v xs) : ∃ cur, w.heap[g]? = some (.cells cur e (0, 0)) := by
  obtain ⟨cap, -, cur, hh, -⟩ := h
  exact ⟨_, hh⟩
end

/-- What an append leaves: the same row, or a new one behind all that was there. -/
def NowF {α : Type} (f : α → List Value) (k : Nat) (w w' : World) (e : TypeId) (β : Option Nat) (v' : Value) (xs : List α) : Prop :=
  ∃ g', SF f k w' e (some g') v' xs ∧ ((β = some g' ∧ Fr (· = g') w w') ∨ (g' = w.heap.size ∧ Fr (fun _ => False) w w'))

theorem run_pushF {α : Type} {f : α → List Value} {k : Nat} (hz : Sz f k) {P : Program} (w : World) (t ty e : TypeId) (i : TypeInfo) (z : Value) (bytes : Nat) (ht : P.underlying t = some (.slice e)) (hi : P.info? e = some i) (hzo : i.zero = some z) (hsz : i.size = k) (hzs : z.cells.size = k) (hby : i.bytes = bytes)
    (β : Option Nat) (v : Value) (xs : List α) (hv : SF f k w e β v xs) (ad : Addr) (m c : Nat) (ys : List α) (hl : ys.length = m) (hnews : ∀ j u, (cl f ys)[j]? = some u → w.cell? (ad.add j) = some u)
    (hm : 0 < m) (h63 : xs.length + m ≤ 9223372036854775807) (hb : ((xs.length + m) + (xs.length + m) / 4 + 192) * bytes ≤ 281474976710656) :
    ∃ v' w', (Builtin.append_ #[t, t] ty #[v, .slice (some ad) m c]).run P w = .ok v' w' ∧ NowF f k w w' e β v' (xs ++ ys) := by
  subst hby
  subst hsz
  have hmx : xs.length + m ≤ maxLen := h63
  have hlm : (cl f ys).length = m * i.size := by rw [cl_len hz, hl]
  have h1 := cl_cells hz ys
  have newrow : ∀ G, xs.length + m ≤ G → G ≤ 9223372036854775807 → RowF f i.size (w.drew.alloc (.cells ((cl f xs).toArray ++ (cl f ys).toArray ++ Builtin.zeroCells z.cells (G - (xs.length + m))) e)) w.heap.size (xs.length + m) G e (xs ++ ys) := by
    intro G hG1 hG2
    refine ⟨((cl f xs).toArray ++ (cl f ys).toArray ++ Builtin.zeroCells z.cells (G - (xs.length + m))).toList, ?_, ?_, by simp [hl], hG1, hG2, ?_⟩
    · rw [show w.heap.size = w.drew.heap.size from rfl, heap_alloc_new]
    · rw [Array.toList_append, Array.toList_append, List.toList_toArray, List.toList_toArray]
      have : (cl f xs ++ cl f ys).length = (xs.length + m) * i.size := by rw [List.length_append, cl_len hz, cl_len hz, hl, Nat.add_mul]
      rw [← this, List.take_left, cl_app]
    · rw [Array.toList_append, Array.toList_append, List.length_append, List.length_append, List.toList_toArray, List.toList_toArray, cl_len hz, cl_len hz, Array.length_toList (xs := Builtin.zeroCells _ _), size_zeroCells, hzs, hl, ← Nat.add_mul, ← Nat.add_mul]
      congr 1
      omega
  have newfr : ∀ o, Fr (fun _ => False) w (w.drew.alloc o) := fun o => (Fr.drew _ w).trans (Fr.alloc _ _ _)
  cases β with
  | none =>
    obtain ⟨rfl, rfl⟩ := hv
    have hr := run_append_nil (P := P) w t ty e i z ht hi hzo ad m c (cl f ys) hlm hnews hm (by simp at h63; omega) (by
      simp only [List.length_nil, Nat.zero_add] at hb
      exact Nat.le_trans (Nat.mul_le_mul_right _ (by omega)) hb)
    have hG1 := grownCap_ge w m 0 e
    have hG2 := grownCap_le_maxLen w m 0 e (by unfold maxLen; simp at h63; omega)
    generalize grownCap w m 0 e = G at hr hG1 hG2
    have hn := newrow G (by simpa using hG1) hG2
    simp only [List.length_nil, Nat.zero_add, List.nil_append, cl_nil] at hn ⊢
    refine ⟨_, _, hr, w.heap.size, ⟨G, by rw [hl], ?_⟩, .inr ⟨rfl, newfr _⟩⟩
    rw [hl]
    simpa using hn
  | some g =>
    obtain ⟨cap, rfl, cur, hh, htk, hvl, hnc, hcm, hcs⟩ := hv
    by_cases hroom : xs.length + m ≤ cap
    · have hfit : xs.length * i.size + (cl f ys).length ≤ cur.length := by
        rw [hlm, ← Nat.add_mul, hcs]
        exact Nat.mul_le_mul_right _ hroom
      have hr := run_append_room (P := P) w t ty e i ht hi g xs.length cap cur.toArray hh ad m c (cl f ys) hlm hnews h1 hroom (by simpa using hfit)
      refine ⟨_, _, hr, g, ⟨cap, by simp [hl], ?_⟩, .inl ⟨rfl, Fr.setRow w g _ rfl⟩⟩
      refine ⟨_, setRow_heap w g cur.toArray _ e _ hh, ?_, rfl, by simp [hl]; omega, hcm, ?_⟩
      · rw [List.toList_toArray, htk]
        have : (cl f xs ++ cl f ys).length = (xs ++ ys).length * i.size := by rw [List.length_append, cl_len hz, cl_len hz, List.length_append, Nat.add_mul]
        rw [← this, List.take_left, cl_app]
      · simp only [List.length_append, List.length_take, List.length_drop]
        omega
    · have holds : ∀ j u, (cl f xs)[j]? = some u → w.cell? ((⟨g, 0, none⟩ : Addr).add j) = some u := by
        have := RowF.cells (f := f) (k := i.size) (w := w) (g := g) (N := xs.length) (cap := cap) (e := e) (xs := xs) ⟨cur, hh, htk, hvl, hnc, hcm, hcs⟩ hz 0
        simpa using this
      have hr := run_append_grow (P := P) w t ty e i z ht hi hzo ⟨g, 0, none⟩ xs.length cap (cl f xs) (by rw [cl_len hz]) holds ad m c (cl f ys) hlm hnews (by omega) (by omega) (growslice_fits_wide (by omega) hb)
      have hG1 := grownCap_ge w (xs.length + m) cap e
      have hG2 := grownCap_le_maxLen w (xs.length + m) cap e hmx
      generalize grownCap w (xs.length + m) cap e = G at hr hG1 hG2
      have hn := newrow G hG1 hG2
      refine ⟨_, _, hr, w.heap.size, ⟨G, by simp [hl], ?_⟩, .inr ⟨rfl, newfr _⟩⟩
      rw [List.length_append, hl]
      exact hn

/-- The elements behind place i, moved onto place j (j at most i): append(s[:j], s[i:]...). -/
theorem row_moved {α : Type} {f : α → List Value} {k : Nat} (hz : Sz f k) {P : Program} (w : World) (t ty e : TypeId) (i : TypeInfo) (ht : P.underlying t = some (.slice e)) (hi : P.info? e = some i) (hsz : i.size = k)
    (g N cap d c : Nat) (xs : List α) (h : RowF f k w g N cap e xs) (hd' : d ≤ N) (A : Addr) (hA : N = d ∨ A = ⟨g, d * k, none⟩) :
    ∃ cur : List Value, (Builtin.append_ #[t, t] ty #[.slice (some ⟨g, 0, none⟩) 0 cap, .slice (some A) (N - d) c]).run P w = .ok (.slice (some ⟨g, 0, none⟩) (N - d) cap) (w.setRow g (splice cur 0 (cl f (xs.drop d))).toArray) ∧
      w.heap[g]? = some (.cells cur.toArray e (0, 0)) ∧ cur.length = cap * k := by
  subst hsz
  have hR := h
  obtain ⟨cur, hh, htk, hl, hnc, hcm, hcs⟩ := h
  refine ⟨cur, ?_, hh, hcs⟩
  have hdl : (xs.drop d).length = N - d := by rw [List.length_drop, hl]
  have hlm : (cl f (xs.drop d)).length = (N - d) * i.size := by rw [cl_len hz, hdl]
  have hsrc : ∀ j u, (cl f (xs.drop d))[j]? = some u → w.cell? (A.add j) = some u := by
    rcases hA with hA | rfl
    · intro j u hj
      rw [show xs.drop d = [] from List.drop_eq_nil_of_le (by omega)] at hj
      simp [cl_nil] at hj
    · exact hR.cells hz d
  have hfit : 0 * i.size + (cl f (xs.drop d)).length ≤ cur.toArray.size := by
    rw [hlm, List.size_toArray, hcs, Nat.zero_mul, Nat.zero_add]
    exact Nat.mul_le_mul_right _ (by omega)
  have hr := run_append_room (P := P) w t ty e i ht hi g 0 cap cur.toArray hh A (N - d) c (cl f (xs.drop d)) hlm hsrc (cl_cells hz _) (by omega) hfit
  simpa [splice] using hr

end Go.Proofs.Ytpjnhjijipcjkaa

/-! Ab -/
namespace Go.Proofs.Ytpjnhjijipcjkaa
open Go.RowKit
set_option linter.unusedVariables false

/-- An outbox, without memory. -/
structure St where
  W : Nat
  a : Nat
  s : Nat
  L : List Int

structure St.ok (p : St) : Prop where
  w1 : 1 ≤ p.W
  w2 : p.W ≤ 4096
  le : p.a ≤ p.s
  sl : p.s ≤ p.a + p.L.length
  few : p.a + p.L.length ≤ 4096

def St.last (p : St) : Nat := p.a + p.L.length
def pushE (p : St) : Int := if 4096 ≤ p.last then 81 else 0
def pushN (p : St) : Int := if 4096 ≤ p.last then 0 else p.last + 1
def pushS (p : St) (x : Int) : St := if 4096 ≤ p.last then p else { p with L := p.L ++ [x] }
def ackE (p : St) (n : Int) : Int := if n < 0 ∨ (p.s : Int) < n then 82 else 0
def ackS (p : St) (n : Int) : St := if (p.a : Int) < n ∧ n ≤ p.s then { p with a := n.toNat, L := p.L.drop (n.toNat - p.a) } else p
def dueN (p : St) : Nat := min p.W p.L.length
def dueS (p : St) : St := { p with s := max p.s (p.a + dueN p) }
def resetS (p : St) : St := ⟨p.W, 0, 0, []⟩
/-- Things with their numbers, from a + 1 on. -/
def items : Nat → List Int → List (Int × Int)
  | _, [] => []
  | a, x :: xs => ((a : Int) + 1, x) :: items (a + 1) xs
def dueL (p : St) : List (Int × Int) := items p.a (p.L.take (dueN p))
def leftL (p : St) : List (Int × Int) := items p.a p.L

theorem items_len (a : Nat) (L : List Int) : (items a L).length = L.length := by
  induction L generalizing a with
  | nil => rfl
  | cons x xs ih => simp [items, ih]
theorem items_get (a : Nat) (L : List Int) (i : Nat) (h : i < L.length) : (items a L)[i]? = some ((a : Int) + 1 + i, L[i]) := by
  induction L generalizing a i with
  | nil => simp at h
  | cons x xs ih =>
    cases i with
    | zero => simp [items]
    | succ i =>
      simp only [items, List.getElem?_cons_succ, List.getElem_cons_succ]
      rw [ih (a + 1) i (by simpa using h)]
      congr 2
      omega
theorem items_snoc (a : Nat) (L : List Int) (x : Int) : items a (L ++ [x]) = items a L ++ [((a : Int) + 1 + L.length, x)] := by
  induction L generalizing a with
  | nil => simp [items]
  | cons y ys ih =>
    simp only [List.cons_append, items, ih (a + 1), List.length_cons]
    congr 3
    simp
    omega
theorem items_take (a : Nat) (L : List Int) (n : Nat) : (items a L).take n = items a (L.take n) := by
  induction L generalizing a n with
  | nil => simp [items]
  | cons y ys ih =>
    cases n with
    | zero => simp [items]
    | succ n => simp [items, ih]

theorem pushS_ok {p : St} (h : p.ok) (x : Int) : (pushS p x).ok := by
  unfold pushS
  split
  · exact h
  · next hl =>
    have := h.w1; have := h.w2; have := h.le; have := h.sl; have := h.few
    unfold St.last at hl
    exact ⟨h.w1, h.w2, h.le, by simp; omega, by simp; omega⟩
theorem ackS_ok {p : St} (h : p.ok) (n : Int) : (ackS p n).ok := by
  unfold ackS
  split
  · next hl =>
    have := h.w1; have := h.w2; have := h.le; have := h.sl; have := h.few
    obtain ⟨h1, h2⟩ := hl
    exact ⟨h.w1, h.w2, by simp; omega, by simp; omega, by simp; omega⟩
  · exact h
theorem dueS_ok {p : St} (h : p.ok) : (dueS p).ok := by
  have := h.w1; have := h.w2; have := h.le; have := h.sl; have := h.few
  exact ⟨h.w1, h.w2, by simp [dueS]; omega, by simp [dueS, dueN]; omega, by simp [dueS]; omega⟩
theorem resetS_ok {p : St} (h : p.ok) : (resetS p).ok := ⟨h.w1, h.w2, Nat.le_refl _, by simp [resetS], by simp [resetS]⟩
theorem ackS_last {p : St} (h : p.ok) (n : Int) : (ackS p n).last = p.last := by
  unfold ackS
  split
  · next hl =>
    have := h.le; have := h.sl
    obtain ⟨h1, h2⟩ := hl
    simp [St.last]
    omega
  · rfl

def ei (x : Int) : List Value := [.int .i64 x]
def it (p : Int × Int) : List Value := [.int .i64 p.1, .int .i64 p.2]
theorem sz_ei : Sz ei 1 := fun x => ⟨rfl, fun v hv => by simp [ei] at hv; subst hv; rfl⟩
theorem sz_it : Sz it 2 := fun x => ⟨rfl, fun v hv => by simp [it] at hv; rcases hv with rfl | rfl <;> rfl⟩

/-- The outbox at block x, its row at block β. -/
structure BK (w : World) (x : Nat) (p : St) (v : Value) (β : Option Nat) : Prop where
  box : w.heap[x]? = some (.cells #[.int .i64 p.W, .int .i64 p.a, .int .i64 p.s, v] 79 (0, 0))
  row : SF ei 1 w 3 β v p.L
  ok : p.ok

/-- The outbox at block x; its blocks are among S. -/
def BoxAt (w : World) (x : Nat) (p : St) (S : Nat → Prop) : Prop := ∃ v β, BK w x p v β ∧ S x ∧ (∀ g, β = some g → S g) ∧ ∀ k, S k → k < w.heap.size

theorem BK.fr {S : Nat → Prop} {w w' : World} {x : Nat} {p : St} {v : Value} {β : Option Nat} (h : BK w x p v β) (hF : Fr S w w') (hx : ¬ S x) (hS : ∀ g, β = some g → ¬ S g) : BK w' x p v β :=
  ⟨hF.keeps h.box hx, h.row.fr hF hS, h.ok⟩
theorem BK.below {w w' : World} {x : Nat} {p : St} {v : Value} {β : Option Nat} (h : BK w x p v β) (hb : Below w.heap.size w w') : BK w' x p v β :=
  h.fr (S := fun _ => False) (Fr.of_below hb) (fun h => h) (fun _ _ h => h)
theorem BoxAt.fr {S T : Nat → Prop} {w w' : World} {x : Nat} {p : St} (h : BoxAt w x p S) (hF : Fr T w w') (hS : ∀ k, S k → ¬ T k) : BoxAt w' x p S := by
  obtain ⟨v, β, h, h1, h2, h3⟩ := h
  exact ⟨v, β, h.fr hF (hS x h1) (fun g hg => hS g (h2 g hg)), h1, h2, fun k hk => Nat.lt_of_lt_of_le (h3 k hk) hF.size⟩
theorem BoxAt.below {S : Nat → Prop} {w w' : World} {x : Nat} {p : St} (h : BoxAt w x p S) (hb : Below w.heap.size w w') : BoxAt w' x p S :=
  h.fr (T := fun _ => False) (Fr.of_below hb) (fun _ _ h => h)
theorem BoxAt.ok {S : Nat → Prop} {w : World} {x : Nat} {p : St} (h : BoxAt w x p S) : p.ok := by
  obtain ⟨v, β, h, -⟩ := h
  exact h.ok
theorem BoxAt.old {S : Nat → Prop} {w : World} {x : Nat} {p : St} (h : BoxAt w x p S) : ∀ k, S k → k < w.heap.size := by
  obtain ⟨v, β, h, -, -, h3⟩ := h
  exact h3

/-- What a call leaves of an outbox. -/
def Now (w w' : World) (x : Nat) (p : St) (S : Nat → Prop) : Prop := ∃ S', BoxAt w' x p S' ∧ (∀ k, S' k → S k ∨ w.heap.size ≤ k) ∧ Fr S w w'

theorem last_bk (x : Nat) (p : St) (v : Value) (β : Option Nat) (w : World) (h : BK w x p v β) :
    Calls Try.prog 34 #[.pointer (some ⟨x, 0, none⟩)] w fun e w' => e = .returned (.int .i64 p.last) ∧ Below w.heap.size w w' := by
  obtain ⟨a, c, rfl, -⟩ := h.row.form
  have c1 := cell_row h.box 1
  have c3 := cell_row h.box 3
  have hf := h.ok.few
  have hs := h.ok.le
  simp at c1 c3
  obtain ⟨n, hn⟩ : ∃ n, p.L.length = n := ⟨_, rfl⟩
  obtain ⟨m, hm⟩ : ∃ m, p.a = m := ⟨_, rfl⟩
  have hl : (p.last : Int) = (m : Int) + n := by unfold St.last; omega
  rw [hl]
  rw [hn] at c3 hf
  rw [hm] at c1 hf
  clear h hn hm hl hs
  go_enter Try.func34, Try.ntmps34
  go_wp2_with fail
  go_region
  go_wp2
  go_ret
  exact ⟨rfl, by repeat (first | exact Below.refl _ _ | refine Below.drew ?_ | refine below_drewN ?_ _)⟩

theorem acked_bk (x : Nat) (p : St) (v : Value) (β : Option Nat) (w : World) (h : BK w x p v β) :
    Calls Try.prog 20 #[.pointer (some ⟨x, 0, none⟩)] w fun e w' => e = .returned (.int .i64 p.a) ∧ w' = w := by
  have c1 := cell_row h.box 1
  simp at c1
  clear h
  go_enter Try.func20, Try.ntmps20
  go_wp2
  go_ret
  exact ⟨rfl, rfl⟩

theorem new_bad (W : Int) (w : World) (h : W < 1 ∨ 4096 < W) : Calls Try.prog 10 #[.int .i64 W] w fun e w' => e = .returned (.tuple #[.pointer none, .int .i64 80]) ∧ w' = w := by
  by_cases h1 : W < 1
  · go_enter Try.func10, Try.ntmps10
    go_wp2
    refine bodyPost_ret (v := .tuple #[.pointer none, .int .i64 80]) (by simp [results, Try.results10, go_sem]) rfl ?_
    exact ⟨rfl, rfl⟩
  · have h2 : 4096 < W := by omega
    go_enter Try.func10, Try.ntmps10
    go_wp2
    refine bodyPost_ret (v := .tuple #[.pointer none, .int .i64 80]) (by simp [results, Try.results10, go_sem]) rfl ?_
    exact ⟨rfl, rfl⟩

theorem new_good (W : Nat) (w : World) (hW1 : 1 ≤ W) (hW2 : W ≤ 4096) : Calls Try.prog 10 #[.int .i64 W] w fun e w' => ∃ x, e = .returned (.tuple #[.pointer (some ⟨x, 0, none⟩), .int .i64 0]) ∧ ∃ S, BoxAt w' x ⟨W, 0, 0, []⟩ S ∧ (∀ k, S k → w.heap.size ≤ k) ∧ Below w.heap.size w w' := by
  have h1 : ¬ (W : Int) < 1 := by omega
  have h2 : ¬ (4096 : Int) < W := by omega
  go_enter Try.func10, Try.ntmps10
  go_wp2
  refine bodyPost_ret (v := .tuple #[.pointer (some ⟨w.heap.size, 0, none⟩), .int .i64 0]) (by simp [results, Try.results10, go_sem]) rfl ?_
  refine ⟨_, rfl, fun k => k = w.heap.size, ⟨.slice none 0 0, none, ⟨heap_alloc_new w _, ⟨rfl, rfl⟩, ⟨hW1, hW2, Nat.le_refl _, by simp, by simp⟩⟩, rfl, by simp, ?_⟩, ?_, ?_⟩
  · rintro k rfl; simp
  · rintro k rfl; omega
  · exact (Below.refl _ _).alloc (Nat.le_refl _) _

end Go.Proofs.Ytpjnhjijipcjkaa

/-! Ac -/
namespace Go.Proofs.Ytpjnhjijipcjkaa
open Go.RowKit
set_option linter.unusedVariables false

theorem Try.infoI : (Try.prog.info? 3).map (fun i => (i.zero, i.size, i.bytes)) = some (some (.int .i64 0), 1, 8) := by kernel_rfl
theorem Try.infoT : (Try.prog.info? 36).map (fun i => (i.zero, i.size, i.bytes)) = some (some (.agg #[.int .i64 0, .int .i64 0]), 2, 16) := by kernel_rfl

theorem wpList_append_k {P : Program} (w : World) {ops : Array Oper} {rest : List Oper} {o : Oper} {a : Act} {Q : Exit → Act → World → Prop} (hgd : o.guard = none) (d s : Operand) (t t' : TypeId)
    (ho : o.op = .call { callee := .builtin .append, args := #[d, s], argTypes := #[t, t'] }) (v u : Value) (hd' : a.eval d = v) (hs : a.eval s = u) {v' : Value} {w' : World}
    (hr : (Builtin.append_ #[t, t'] o.type #[v, u]).run P w = .ok v' w') (h : wpList P ops Q rest (a.put o.dst v') w') : wpList P ops Q (o :: rest) a w := by
  refine wpList_plain hgd fun K hK => ?_
  unfold Oper.wp
  simp [execOp, ho, resolve, invoke, builtin, hd', hs, hr, Result.andThen]
  exact hK _ _ h
theorem wpList_clear_k {P : Program} (w : World) {ops : Array Oper} {rest : List Oper} {o : Oper} {a : Act} {Q : Exit → Act → World → Prop} (hgd : o.guard = none) (d : Operand) (t : TypeId)
    (ho : o.op = .call { callee := .builtin .clear, args := #[d], argTypes := #[t] }) (v : Value) (hd' : a.eval d = v) {v' : Value} {w' : World}
    (hr : (Builtin.clear_ #[t] o.type #[v]).run P w = .ok v' w') (h : wpList P ops Q rest (a.put o.dst v') w') : wpList P ops Q (o :: rest) a w := by
  refine wpList_plain hgd fun K hK => ?_
  unfold Oper.wp
  simp [execOp, ho, resolve, invoke, builtin, hd', hr, Result.andThen]
  exact hK _ _ h
theorem step_append_k {P : Program} {ops : Array Oper} {o : Oper} {a : Act} {w : World} {K : Act → World → Prop} {Q : Exit → Act → World → Prop} {E : Prop}
    (hg : o.guard = none) (d x : Operand) (dT sT : TypeId) (hop : o.op = Op.call { callee := Callee.builtin Builtin.append, args := #[d, x], argTypes := #[dT, sT] })
    (v u : Value) (hd' : a.eval d = v) (hx : a.eval x = u) {v' : Value} {w' : World} (hr : (Builtin.append_ #[dT, sT] o.type #[v, u]).run P w = .ok v' w') (hK : K (a.put o.dst v') w') :
    if Region.wanted o (yielded ops a.tmps) = true then Oper.wp P o a w K Q else E := by
  have hw : Region.wanted o (yielded ops a.tmps) = true := by simp [Region.wanted, hg]
  rw [if_pos hw]
  unfold Oper.wp
  simp [execOp, hop, resolve, invoke, builtin, hd', hx, hr, Result.andThen]
  exact hK

/-- append of one int. -/
theorem push_int (w : World) (β : Option Nat) (v : Value) (xs : List Int) (hv : SF ei 1 w 3 β v xs) (b : Nat) (x : Int) (hb : w.heap[b]? = some (.cells #[.int .i64 x] 3 (0, 0))) (hn : xs.length ≤ 100000) :
    ∃ v' w', (∀ ty, (Builtin.append_ #[22, 22] ty #[v, .slice (some ⟨b, 0, none⟩) 1 1]).run Try.prog w = .ok v' w') ∧ NowF ei 1 w w' 3 β v' (xs ++ [x]) := by
  obtain ⟨i0, hi0, hz0, hz1, hz2⟩ := info_parts Try.infoI
  obtain ⟨v', w', hr, hN⟩ := run_pushF sz_ei (P := Try.prog) w 22 0 3 i0 _ 8 Try.underlying22 hi0 hz0 hz1 rfl hz2 β v xs hv ⟨b, 0, none⟩ 1 1 [x] rfl (fun j u hj => by
    rw [cl_one] at hj
    cases j with
    | zero => rw [add_lit, cell_row hb]; simpa [ei] using hj
    | succ j => simp [ei] at hj) (by omega) (by omega) (by omega)
  exact ⟨v', w', fun ty => hr, hN⟩

/-- append of one item. -/
theorem push_item (w : World) (β : Option Nat) (v : Value) (xs : List (Int × Int)) (hv : SF it 2 w 36 β v xs) (b : Nat) (n x : Int) (hb : w.heap[b]? = some (.cells #[.int .i64 n, .int .i64 x] 36 (0, 0))) (hn : xs.length ≤ 100000) :
    ∃ v' w', (∀ ty, (Builtin.append_ #[33, 33] ty #[v, .slice (some ⟨b, 0, none⟩) 1 1]).run Try.prog w = .ok v' w') ∧ NowF it 2 w w' 36 β v' (xs ++ [(n, x)]) := by
  obtain ⟨i0, hi0, hz0, hz1, hz2⟩ := info_parts Try.infoT
  obtain ⟨v', w', hr, hN⟩ := run_pushF sz_it (P := Try.prog) w 33 0 36 i0 _ 16 Try.underlying33 hi0 hz0 hz1 rfl hz2 β v xs hv ⟨b, 0, none⟩ 1 1 [(n, x)] rfl (fun j u hj => by
    rw [cl_one] at hj
    rcases j with _ | _ | j
    · rw [add_lit, cell_row hb]; simpa [it] using hj
    · rw [add_lit, cell_row hb]; simpa [it] using hj
    · simp [it] at hj) (by omega) (by omega) (by omega)
  exact ⟨v', w', fun ty => hr, hN⟩

/-- What an append leaves besides: every block of the world before, but its row. -/
theorem NowF.out {α : Type} {f : α → List Value} {k : Nat} {w w' : World} {e : TypeId} {β : Option Nat} {v' : Value} {xs : List α} (h : NowF f k w w' e β v' xs) :
    ∃ g', SF f k w' e (some g') v' xs ∧ (β = some g' ∨ g' = w.heap.size) ∧ Fr (fun j => β = some j) w w' := by
  obtain ⟨g', h1, h2 | h2⟩ := h
  · exact ⟨g', h1, .inl h2.1, h2.2.mono (fun k _ hk => by rw [hk]; exact h2.1)⟩
  · exact ⟨g', h1, .inr h2.1, h2.2.mono (fun k _ hk => hk.elim)⟩

theorem BK.x_ne {w : World} {x : Nat} {p : St} {v : Value} {β : Option Nat} (h : BK w x p v β) : β ≠ some x := by
  rintro rfl
  obtain ⟨cur, h1⟩ := h.row.blk
  have := h.box
  rw [h1] at this
  simp at this

/-- The things changed to L, the row with them. -/
theorem now_left {w u w' : World} {x : Nat} {p : St} {v v' : Value} {β : Option Nat} {S : Nat → Prop} {L : List Int} (h : BK u x p v β) (hB : Below w.heap.size w u) (hSx : S x) (hSβ : ∀ g, β = some g → S g) (hS : ∀ k, S k → k < w.heap.size)
    (hN : NowF ei 1 u w' 3 β v' L) (hok : St.ok { p with L := L }) : Now w (w'.setCell ⟨x, 3, none⟩ v') x { p with L := L } S := by
  obtain ⟨g', h1, h2, h3⟩ := hN.out
  have hxu : x < u.heap.size := block_lt h.box
  have hxg : g' ≠ x := by
    rintro rfl
    rcases h2 with h2 | h2
    · exact h.x_ne h2
    · omega
  have hx : w'.heap[x]? = some (.cells #[.int .i64 p.W, .int .i64 p.a, .int .i64 p.s, v] 79 (0, 0)) := h3.keeps h.box (fun hb => h.x_ne hb)
  have hF : Fr (· = x) w' (w'.setCell ⟨x, 3, none⟩ v') := Fr.setCell _ _ _ rfl
  have hsz := h3.size
  have hsz2 := hB.size
  have hsz3 := hF.size
  refine ⟨fun k => k = x ∨ k = g', ⟨v', some g', ⟨?_, h1.fr hF (fun g hg => by injection hg with hg; omega), hok⟩, .inl rfl, fun g hg => by injection hg with hg; exact .inr hg.symm, ?_⟩, ?_, ?_⟩
  · have := set_row hx 3 v'
    simpa using this
  · rintro k (rfl | rfl)
    · omega
    · have := h1.lt _ rfl; omega
  · rintro k (rfl | rfl)
    · exact .inl hSx
    · rcases h2 with h2 | h2
      · exact .inl (hSβ _ h2)
      · exact .inr (by omega)
  · exact (Fr.of_below hB).next ((h3.mono (S' := S) (fun k _ hk => hSβ k hk)).next hF (fun k _ hk => by rw [hk]; exact hSx)) (fun k _ hk => hk)

set_option maxRecDepth 100000 in
set_option maxHeartbeats 2000000 in
theorem push_any (x : Nat) (p : St) (y : Int) (S : Nat → Prop) (w : World) (h : BoxAt w x p S) :
    Calls Try.prog 12 #[.pointer (some ⟨x, 0, none⟩), .int .i64 y] w fun e w' => e = .returned (.tuple #[.int .i64 (pushN p), .int .i64 (pushE p)]) ∧ Now w w' x (pushS p y) S := by
  obtain ⟨v, β, hK, hSx, hSβ, hS⟩ := h
  have HK := hd hK
  have HX := hd (And.intro hSx (And.intro hSβ hS))
  have hok := hK.ok
  have hf := hok.few
  obtain ⟨m, hm⟩ : ∃ m, p.last = m := ⟨_, rfl⟩
  have hm2 : m ≤ 4096 := by rw [← hm]; exact hf
  have HM := hd hm
  have HO := hd hok
  clear hK hSx hSβ hS hok hf
  by_cases hl : 4096 ≤ m
  · have hl' : (4096 : Int) ≤ (m : Int) := by omega
    go_enter Try.func12, Try.ntmps12
    go_wp2_with fail
    refine (last_bk x p v β w HK.out).mono ?_
    rintro e w1 ⟨rfl, hb⟩
    have HB := hd hb
    clear hb
    rw [hm]
    clear hm
    go_wp2
    refine bodyPost_ret (v := .tuple #[.int .i64 0, .int .i64 81]) (by simp [results, Try.results12, go_sem]) rfl ?_
    have hl2 : 4096 ≤ p.last := by rw [HM.out]; exact hl
    refine ⟨by rw [pushN, pushE, if_pos hl2, if_pos hl2], ?_⟩
    rw [pushS, if_pos hl2]
    exact ⟨S, ⟨v, β, HK.out.below HB.out, HX.out.1, HX.out.2.1, fun k hk => Nat.lt_of_lt_of_le (HX.out.2.2 k hk) HB.out.size⟩, fun k hk => .inl hk, Fr.of_below HB.out⟩
  · have hl' : ¬ (4096 : Int) ≤ (m : Int) := by omega
    go_enter Try.func12, Try.ntmps12
    go_wp2_with fail
    refine (last_bk x p v β w HK.out).mono ?_
    rintro e w1 ⟨rfl, hb⟩
    have HB := hd hb
    have K1 := HK.out.below hb
    have c3 := cell_row K1.box 3
    simp at c3
    have hll : p.L.length ≤ 4096 := by have := HO.out.few; omega
    obtain ⟨v', w', hr, hN⟩ := push_int (w1.alloc (.cells #[.int .i64 y] 3)) β v p.L (SF.fr (S := fun _ => False) K1.row (Fr.alloc _ _ _) (fun _ _ h => h)) w1.heap.size y (heap_alloc_new w1 _) (by omega)
    obtain ⟨a', n', c', rfl⟩ : ∃ a' n' c', v' = .slice a' n' c' := by
      obtain ⟨g', h1, -⟩ := hN
      obtain ⟨a', c', h, -⟩ := h1.form
      exact ⟨a', _, c', h⟩
    have K2 := K1.below ((Below.refl _ _).alloc (Nat.le_refl _) (.cells #[.int .i64 y] 3))
    have hl2 : ¬ 4096 ≤ p.last := by rw [HM.out]; exact hl
    have hx3 : w'.heap[x]? = some (.cells #[.int .i64 p.W, .int .i64 p.a, .int .i64 p.s, v] 79 (0, 0)) := by
      obtain ⟨g', -, -, h3⟩ := hN.out
      exact h3.keeps K2.box (fun hb => K2.x_ne hb)
    have d3 := cell_row hx3 3
    simp at d3
    have f3 := frozen_row hx3 3
    have Z := now_left (S := S) K2 (hb.trans ((Below.refl _ _).alloc hb.size _)) HX.out.1 HX.out.2.1 HX.out.2.2 hN (by
      have := pushS_ok HO.out y
      rwa [pushS, if_neg hl2] at this)
    have Z' := Z
    obtain ⟨S', ⟨v2, β2, K3, -⟩, -⟩ := Z'
    have HZ := hd Z
    have HK3 := hd K3
    clear Z K3 K2 hx3 hN K1 hb hll
    rw [hm]
    clear hm
    go_wp2_with (at_builtin; refine wpList_append_k _ rfl _ _ 22 22 rfl _ _ rfl rfl (hr _) ?_)
    refine (last_bk x _ v2 β2 _ HK3.out).mono ?_
    rintro e w3 ⟨rfl, hb3⟩
    have HB3 := hd hb3
    clear hb3
    go_wp2
    refine bodyPost_ret (v := .tuple #[.int .i64 (m + 1), .int .i64 0]) (by simp [results, Try.results12, go_sem]; have := HM.out; simp [St.last] at this ⊢; omega) rfl ?_
    refine ⟨by rw [pushN, pushE, if_neg hl2, if_neg hl2, HM.out], ?_⟩
    rw [pushS, if_neg hl2]
    obtain ⟨S', h1, h2, h3⟩ := HZ.out
    exact ⟨S', h1.below HB3.out, h2, h3.trans (Fr.of_below HB3.out)⟩

end Go.Proofs.Ytpjnhjijipcjkaa

/-! Ad -/
namespace Go.Proofs.Ytpjnhjijipcjkaa
open Go.RowKit
set_option linter.unusedVariables false

theorem wpList_make_k {P : Program} (w : World) {ops : Array Oper} {rest : List Oper} {o : Oper} {a : Act} {Q : Exit → Act → World → Prop}
    (hg : o.guard = none) (l c : Operand) (t : TypeId) (hop : o.op = Op.makeSlice t l c)
    (e : TypeId) (i : TypeInfo) (z : Value) (h1 : P.underlying t = some (.slice e)) (h2 : P.info? e = some i) (h3 : i.zero = some z)
    (kl kc : IntKind) (L C : Int) (n m : Nat) (hl : a.eval l = .int kl L) (hc : a.eval c = .int kc C) (hL : L = (n : Int)) (hC : C = (m : Int)) (hnm : n ≤ m) (b2 : i.bytes * m ≤ 281474976710656) (b3 : m ≤ 9223372036854775807)
    (hK : ∀ (w' : World) (cur : List Value), Hid (w'.heap[w.heap.size]? = some (.cells cur.toArray e (0, 0))) → Hid (cur = (madeCells z.cells (m * i.size)).toList) → Hid (Below w.heap.size w w') → wpList P ops Q rest (a.put o.dst (.slice (some ⟨w.heap.size, 0, none⟩) n m)) w') :
    wpList P ops Q (o :: rest) a w := by
  refine wpList_plain hg fun K hK' => ?_
  subst hL
  subst hC
  have hrun := run_make (P := P) w t e i z h1 h2 h3 kl kc n m (by omega) (by omega) (by rw [← Int.natCast_mul]; exact Int.ofNat_le.2 b2) (by omega)
  simp only [Int.toNat_natCast] at hrun
  unfold Oper.wp
  simp [execOp, hop, hl, hc, hrun, Result.andThen]
  refine hK' _ _ (hK _ _ ?_ (rfl : _ = _) ((Below.refl _ _).alloc (Nat.le_refl _) _))
  show (w.alloc _).heap[w.heap.size]? = _
  rw [heap_alloc_new]

theorem row_empty {α : Type} {f : α → List Value} {k : Nat} {w : World} {g cap : Nat} {e : TypeId} {z : Array Value} {cur : List Value} (hg : w.heap[g]? = some (.cells cur.toArray e (0, 0))) (hc : cur = (madeCells z (cap * k)).toList) (hm : cap ≤ 9223372036854775807) : RowF f k w g 0 cap e [] := by
  refine ⟨cur, hg, by simp [cl_nil], rfl, Nat.zero_le _, hm, ?_⟩
  rw [hc, Array.length_toList, size_madeCells]

/-- A list of items that the call has made, from block base on. -/
def IL (w : World) (base : Nat) (v : Value) (xs : List (Int × Int)) : Prop := ∃ g, SF it 2 w 36 (some g) v xs ∧ base ≤ g

theorem IL.form {w : World} {base : Nat} {v : Value} {xs : List (Int × Int)} (h : IL w base v xs) : ∃ g c, v = .slice (some ⟨g, 0, none⟩) xs.length c ∧ RowF it 2 w g xs.length c 36 xs ∧ base ≤ g ∧ c ≤ 9223372036854775807 ∧ xs.length ≤ c := by
  obtain ⟨g, ⟨c, rfl, hR⟩, hb⟩ := h
  have hR' := hR
  obtain ⟨cur, -, -, -, h1, h2, -⟩ := hR'
  exact ⟨g, c, rfl, hR, hb, h2, h1⟩
theorem IL.fr {S : Nat → Prop} {w w' : World} {base : Nat} {v : Value} {xs : List (Int × Int)} (h : IL w base v xs) (hF : Fr S w w') (hS : ∀ k, S k → k < base) : IL w' base v xs := by
  obtain ⟨g, h, hb⟩ := h
  exact ⟨g, h.fr hF (fun k hk hs => by injection hk with hk; have := hS k hs; omega), hb⟩
theorem IL.below {w w' : World} {base : Nat} {v : Value} {xs : List (Int × Int)} (h : IL w base v xs) (hb : Below w.heap.size w w') : IL w' base v xs :=
  h.fr (S := fun _ => False) (Fr.of_below hb) (fun _ h => h.elim)
theorem IL.mono {w : World} {b b' : Nat} {v : Value} {xs : List (Int × Int)} (h : IL w b v xs) (hb : b' ≤ b) : IL w b' v xs := by
  obtain ⟨g, h, h2⟩ := h
  exact ⟨g, h, by omega⟩
theorem IL.lt {w : World} {base : Nat} {v : Value} {xs : List (Int × Int)} (h : IL w base v xs) : base < w.heap.size := by
  obtain ⟨g, h, h2⟩ := h
  have := h.lt _ rfl
  omega

theorem IL.grow {w0 u : World} {base : Nat} {v : Value} {xs : List (Int × Int)} {n y : Int} (h : IL u base v xs) (hb : Below base w0 u) (hlt : base ≤ w0.heap.size) (hn : xs.length ≤ 100000) :
    ∃ v' w', (∀ ty, (Builtin.append_ #[33, 33] ty #[v, .slice (some ⟨u.heap.size, 0, none⟩) 1 1]).run Try.prog (u.alloc (.cells #[.int .i64 n, .int .i64 y] 36)) = .ok v' w') ∧ IL w' base v' (xs ++ [(n, y)]) ∧ Below base w0 w' := by
  obtain ⟨g, hS, hg⟩ := h
  obtain ⟨v', w', hr, hN⟩ := push_item (u.alloc (.cells #[.int .i64 n, .int .i64 y] 36)) (some g) v xs (SF.fr (S := fun _ => False) hS (Fr.alloc _ _ _) (fun _ _ h => h)) u.heap.size n y (heap_alloc_new u _) hn
  obtain ⟨g', h1, h2, h3⟩ := hN.out
  have hs := hb.size
  have B2 : Below base w0 (u.alloc (.cells #[.int .i64 n, .int .i64 y] 36)) := hb.alloc (by omega) _
  refine ⟨v', w', hr, ⟨g', h1, ?_⟩, B2.trans (h3.below (by simp; omega) (fun k hk => by injection hk with hk; omega))⟩
  rcases h2 with h2 | h2
  · injection h2 with h2; omega
  · rw [h2]; simp; omega

set_option maxRecDepth 100000 in
set_option maxHeartbeats 4000000 in
theorem first_bk (x : Nat) (p : St) (v : Value) (β : Option Nat) (n : Nat) (w : World) (h : BK w x p v β) (hn : n ≤ p.L.length) :
    Calls Try.prog 35 #[.pointer (some ⟨x, 0, none⟩), .int .i64 n] w fun e w' => ∃ u, e = .returned u ∧ IL w' w.heap.size u (items p.a (p.L.take n)) ∧ Below w.heap.size w w' := by
  obtain ⟨i0, hi0, hz0, hz1, hz2⟩ := info_parts Try.infoT
  obtain ⟨m, hm⟩ : ∃ m, p.L.length = m := ⟨_, rfl⟩
  obtain ⟨q, hq⟩ : ∃ q, p.a = q := ⟨_, rfl⟩
  have hf := h.ok.few
  rw [hm, hq] at hf
  obtain ⟨a, c, hv, hc1, hc2⟩ := h.row.form
  subst hv
  rw [hm] at h hc1 hn
  have HK := hd h
  have HM := hd hm
  have HQ := hd hq
  have c3 := cell_row h.box 3
  simp at c3
  have hn4 : n ≤ 4096 := by omega
  clear h hm
  rw [hq]
  clear hq
  have hnn : m = 0 ∨ ∃ g, a = some ⟨g, 0, none⟩ := by
    have := HK.out.row
    cases β with
    | none =>
      obtain ⟨h1, h2⟩ := this
      rw [h2] at HM
      exact .inl HM.out.symm
    | some g =>
      obtain ⟨cap, h1, -⟩ := this
      injection h1 with h1
      exact .inr ⟨g, h1⟩
  go_enter Try.func35, Try.ntmps35
  go_wp2_with (first | (at_make; refine wpList_make_k _ rfl _ _ 33 rfl 36 i0 _ Try.underlying33 hi0 hz0 _ _ _ _ 0 n rfl rfl (by go_num) (by go_num) (by omega) (by rw [hz2]; omega) (by omega) ?_; intro w3 cur hg3 hcur hb3; have k3 : w3.cell? ⟨x, 3, none⟩ = some (.slice a m c) := (hb3.out.cell (p := ⟨x, 3, none⟩) (block_lt HK.out.box)).trans c3; have HR := hd (row_empty (f := it) hg3.out (by have := hcur.out; rw [hz1] at this; exact this) (by omega)); have HB := hd hb3.out; clear hg3 hcur hb3 c3) | fail)
  have S0 : Hid (IL w3 w.heap.size (.slice (some ⟨w.heap.size, 0, none⟩) 0 n) (items q (p.L.take 0)) ∧ Below w.heap.size w w3) :=
    ⟨⟨w.heap.size, ⟨n, by simp [items], by simpa [items] using HR.out⟩, Nat.le_refl _⟩, HB.out⟩
  clear HR HB k3
  go_loopw [5, 17] (fun u i wr => ∃ j : Nat, j ≤ n ∧ i = .int .i64 j ∧ Hid (IL wr w.heap.size u (items q (p.L.take j)) ∧ Below w.heap.size w wr)) (fun _ i _ => n - (intOf i).toNat)
  case atStart => exact ⟨0, Nat.zero_le _, rfl, S0⟩
  case round =>
    obtain ⟨j, hj, rfl, hr⟩ := hrel
    clear S0
    by_cases hlt : j < n
    · have K1 := HK.out.below hr.out.2
      have jL : j < p.L.length := by have := HM.out; omega
      obtain ⟨g, rfl⟩ : ∃ g, a = some ⟨g, 0, none⟩ := by
        rcases hnn with h | h
        · omega
        · exact h
      have hca : wr.cell? ⟨g, j, none⟩ = some (.int .i64 p.L[j]) := by
        have hr := K1.row
        cases β with
        | none =>
          obtain ⟨h1, -⟩ := hr
          simp at h1
        | some g' =>
          obtain ⟨cap, h1, hR⟩ := hr
          injection h1 with h1 h2 h3
          injection h1 with h1
          injection h1 with h1
          subst h1
          have := hR.cell sz_ei j 0 jL (by omega)
          simpa [ei] using this
      have x1 := cell_row K1.box 1
      simp at x1
      rw [HQ.out] at x1
      have hl : (items q (p.L.take j)).length = j := by rw [items_len]; simp; omega
      have ext : items q (p.L.take (j + 1)) = items q (p.L.take j) ++ [((q : Int) + 1 + j, p.L[j])] := by
        rw [List.take_succ_eq_append_getElem jL, items_snoc]
        simp
        omega
      obtain ⟨v', w', hap, h1, h2⟩ := IL.grow (n := (q : Int) + 1 + j) (y := p.L[j]) hr.out.1 hr.out.2 (Nat.le_refl _) (by omega)
      rw [← ext] at h1
      have Z := hd (And.intro h1 h2)
      have i2 : (j : Int) < (n : Int) := by omega
      clear h1 h2 ext hl K1 hr
      generalize p.L[j] = y at hca hap
      go_wp2_with (at_builtin; refine wpList_append_k _ rfl _ _ 33 33 rfl _ _ rfl rfl (hap _) ?_)
      exact ⟨⟨j + 1, by omega, by go_num, Z⟩, by simp [intOf]; omega⟩
    · obtain rfl : j = n := by omega
      go_wp2
      go_ret
      exact ⟨_, rfl, hr.out⟩

end Go.Proofs.Ytpjnhjijipcjkaa

/-! Ae -/
namespace Go.Proofs.Ytpjnhjijipcjkaa
open Go.RowKit
set_option linter.unusedVariables false

theorem now_sent {w u : World} {x : Nat} {p : St} {v : Value} {β : Option Nat} {S : Nat → Prop} {s : Nat} (h : BK u x p v β) (hB : Below w.heap.size w u) (hSx : S x) (hSβ : ∀ g, β = some g → S g) (hS : ∀ k, S k → k < w.heap.size)
    (hok : St.ok { p with s := s }) : BK (u.setCell ⟨x, 2, none⟩ (.int .i64 s)) x { p with s := s } v β ∧ Fr S w (u.setCell ⟨x, 2, none⟩ (.int .i64 s)) := by
  have hF : Fr (· = x) u (u.setCell ⟨x, 2, none⟩ (.int .i64 s)) := Fr.setCell _ _ _ rfl
  refine ⟨⟨?_, h.row.fr hF (fun g hg he => h.x_ne (by rw [hg, he])), hok⟩, (Fr.of_below hB).next hF (fun k _ hk => by rw [hk]; exact hSx)⟩
  have := set_row h.box 2 (.int .i64 s)
  simpa using this

set_option maxRecDepth 100000 in
set_option maxHeartbeats 4000000 in
theorem due_any (x : Nat) (p : St) (S : Nat → Prop) (w : World) (h : BoxAt w x p S) :
    Calls Try.prog 13 #[.pointer (some ⟨x, 0, none⟩)] w fun e w' => ∃ u, e = .returned u ∧ IL w' w.heap.size u (dueL p) ∧ BoxAt w' x (dueS p) S ∧ Fr S w w' := by
  obtain ⟨v, β, hK, hSx, hSβ, hS⟩ := h
  obtain ⟨a, c, rfl, -⟩ := hK.row.form
  have c0 := cell_row hK.box 0
  have c1 := cell_row hK.box 1
  have c2 := cell_row hK.box 2
  have c3 := cell_row hK.box 3
  have f2 := frozen_row hK.box 2
  simp at c0 c1 c2 c3
  have HK := hd hK
  have HX := hd (And.intro hSx (And.intro hSβ hS))
  have hok := hK.ok
  obtain ⟨W, hW⟩ : ∃ n, p.W = n := ⟨_, rfl⟩
  obtain ⟨n, hn⟩ : ∃ n, p.L.length = n := ⟨_, rfl⟩
  obtain ⟨q, hq⟩ : ∃ n, p.a = n := ⟨_, rfl⟩
  obtain ⟨s, hs⟩ : ∃ n, p.s = n := ⟨_, rfl⟩
  have b1 := hok.w2
  have b2 := hok.few
  have b3 := hok.le
  have b4 := hok.sl
  rw [hW] at c0 b1
  rw [hn] at c3 b2 b4
  rw [hq] at c1 b2 b3 b4
  rw [hs] at c2 b3 b4
  have HP := hd (And.intro hW (And.intro hn (And.intro hq hs)))
  obtain ⟨k, hk⟩ : ∃ n, dueN p = n := ⟨_, rfl⟩
  obtain ⟨t, ht⟩ : ∃ n, (dueS p).s = n := ⟨_, rfl⟩
  have e1 : ((n : Int) < W ∧ k = n) ∨ (¬ (n : Int) < W ∧ k = W) := by
    have : k = min W n := by rw [← hk, dueN, hW, hn]
    omega
  have e2 : ((s : Int) < (q : Int) + k ∧ (t : Int) = (q : Int) + k) ∨ (¬ (s : Int) < (q : Int) + k ∧ (t : Int) = s) := by
    have e : (dueS p).s = max s (q + k) := by simp [dueS, hk, hs, hq]
    omega
  have hk4 : k ≤ n := by rw [← hk, dueN, hn]; omega
  have Z : Hid (∀ u, Below w.heap.size (w.setCell ⟨x, 2, none⟩ (.int .i64 t)) u → BK u x (dueS p) (.slice a p.L.length c) β ∧ Fr S w u) := by
    intro u hu
    have := now_sent (s := t) (S := S) hK (Below.refl _ _) hSx hSβ hS (by rw [← ht]; exact dueS_ok hok)
    rw [show ({ p with s := t } : St) = dueS p by rw [← ht]; rfl] at this
    have hu' : Below (w.setCell ⟨x, 2, none⟩ (.int .i64 t)).heap.size (w.setCell ⟨x, 2, none⟩ (.int .i64 t)) u := by simpa using hu
    exact ⟨this.1.below hu', this.2.trans (Fr.of_below hu')⟩
  have HT := hd (And.intro hk ht)
  clear hK hSx hSβ hS hok hW hn hq hs hk ht
  have R : Hid (∀ wc, BK wc x (dueS p) (.slice a p.L.length c) β → Calls Try.prog 35 #[.pointer (some ⟨x, 0, none⟩), .int .i64 k] wc fun e w' => ∃ u, e = .returned u ∧ IL w' wc.heap.size u (dueL p) ∧ Below wc.heap.size wc w') := by
    intro wc hc
    have := first_bk x (dueS p) _ β k wc hc (by have := HP.out.2.1; simp [dueS]; omega)
    rw [← HT.out.1] at this ⊢
    exact this
  have F : Hid (∀ wc w' u, BK wc x (dueS p) (.slice a p.L.length c) β → Fr S w wc → IL w' wc.heap.size u (dueL p) → Below wc.heap.size wc w' → IL w' w.heap.size u (dueL p) ∧ BoxAt w' x (dueS p) S ∧ Fr S w w') := by
    intro wc w' u h1 h2 h3 h4
    exact ⟨h3.mono h2.size, ⟨_, β, h1.below h4, HX.out.1, HX.out.2.1, fun k hk => Nat.lt_of_lt_of_le (HX.out.2.2 k hk) (Nat.le_trans h2.size h4.size)⟩, h2.trans (Fr.of_below h4)⟩
  have hw : IntKind.i64.wrap ((q : Int) + k) = (q : Int) + k := by rw [IntKind.wrap_i64]; omega
  clear HK HX HP HT b1 b3
  rcases e1 with ⟨e1, rfl⟩ | ⟨e1, rfl⟩ <;> rcases e2 with ⟨e2, e3⟩ | ⟨e2, e3⟩
  all_goals
    rw [e3] at Z
    clear e3
    go_enter Try.func13, Try.ntmps13
    go_wp2_with fail
    go_region
    go_upto_region 2 with fail
    go_cut [3] (fun x3 wx => x3 = .int .i64 k ∧ Hid (BK wx x (dueS p) (.slice a p.L.length c) β ∧ Fr S w wx))
    case first =>
      go_region_law fail
      all_goals
        go_wp2_with fail
        go_meet
        refine ⟨rfl, Z.out _ ?_⟩
        repeat (first | exact Below.refl _ _ | refine Below.drew ?_ | refine below_drewN ?_ _)
    case rest =>
      obtain ⟨rfl, HC⟩ := hcut
      clear Z
      go_wp2_with fail
      refine (R.out _ HC.out.1).mono ?_
      rintro e w' ⟨u, rfl, h1, h2⟩
      have Y := hd (F.out _ _ _ HC.out.1 HC.out.2 h1 h2)
      clear h1 h2
      go_wp2
      go_ret
      exact ⟨_, rfl, Y.out⟩

end Go.Proofs.Ytpjnhjijipcjkaa

/-! Af -/
namespace Go.Proofs.Ytpjnhjijipcjkaa
open Go.RowKit Go.Lib
set_option linter.unusedVariables false

theorem zeros_one {z : Array Value} (h : ∀ v ∈ z, v.oneCell' = true) (d : Nat) : ∀ v ∈ (Builtin.zeroCells z d).toList, v.oneCell' = true := by
  intro v hv
  simp [Builtin.zeroCells] at hv
  obtain ⟨l, hl, rfl⟩ := hv
  have h0 : 0 < z.size := by
    rcases Nat.eq_zero_or_pos z.size with h0 | h0
    · rw [h0] at hl; omega
    · exact h0
  have hm := Nat.mod_lt l h0
  rw [getElem!_pos z _ hm]
  exact h _ (Array.getElem_mem hm)

theorem run_clear {P : Program} (w : World) (t ty e : TypeId) (i : TypeInfo) (z : Value) (ht : P.underlying t = some (.slice e)) (hi : P.info? e = some i) (hz : i.zero = some z) (hzs : z.cells.size = i.size) (h1 : ∀ v ∈ z.cells, v.oneCell' = true)
    (g o d cap : Nat) (cur : List Value) (hg : w.heap[g]? = some (.cells cur.toArray e (0, 0))) (h0 : 0 < d) (hfit : o + d * i.size ≤ cur.length) :
    (Builtin.clear_ #[t] ty #[.slice (some ⟨g, o, none⟩) d cap]).run P w = .ok (.tuple #[]) (w.setRow g (splice cur o (Builtin.zeroCells z.cells d).toList).toArray) := by
  have hl : (Builtin.zeroCells z.cells d).toList.length = d * i.size := by rw [Array.length_toList, size_zeroCells, hzs]
  have hst := run_storeCells_at P g o e (Builtin.zeroCells z.cells d).toList 0 cur.toArray w hg (by rw [hl]; simpa using hfit) (zeros_one h1 d)
  simp only [Nat.add_zero] at hst
  obtain ⟨d, rfl⟩ : ∃ m, d = m + 1 := ⟨d - 1, by omega⟩
  simp [Builtin.clear_, run_underlying ht, zeroValue, typeInfo, hi, hz, hst, splice]

theorem take_splice {L Z : List Value} {m o : Nat} (h : m ≤ o) (ho : o ≤ L.length) : (splice L o Z).take m = L.take m := by
  unfold splice
  rw [List.take_append_of_le_length (by simp; omega), List.take_take, Nat.min_eq_left h]

/-- What append and clear make of a row whose first d elements go. -/
theorem row_cut {α : Type} {f : α → List Value} {k : Nat} (hz : Sz f k) {P : Program} (w : World) (t e : TypeId) (i : TypeInfo) (z : Value) (ht : P.underlying t = some (.slice e)) (hi : P.info? e = some i) (hzo : i.zero = some z) (hsz : i.size = k) (hzs : z.cells.size = k) (h1 : ∀ v ∈ z.cells, v.oneCell' = true)
    (g N cap d : Nat) (xs : List α) (h : RowF f k w g N cap e xs) (h0 : 0 < d) (hdN : d ≤ N) : ∃ w1 w2,
      (∀ ty A c, (N = d ∨ A = ⟨g, d * k, none⟩) → (Builtin.append_ #[t, t] ty #[.slice (some ⟨g, 0, none⟩) 0 cap, .slice (some A) (N - d) c]).run P w = .ok (.slice (some ⟨g, 0, none⟩) (N - d) cap) w1) ∧
      (∀ ty c, (Builtin.clear_ #[t] ty #[.slice (some ⟨g, (N - d) * k, none⟩) d c]).run P w1 = .ok (.tuple #[]) w2) ∧
      RowF f k w2 g (N - d) cap e (xs.drop d) ∧ Fr (· = g) w w2 := by
  have hR := h
  obtain ⟨cur, hh, htk, hl, hnc, hcm, hcs⟩ := h
  subst hsz
  have hdl : (xs.drop d).length = N - d := by rw [List.length_drop, hl]
  have hlm : (cl f (xs.drop d)).length = (N - d) * i.size := by rw [cl_len hz, hdl]
  have hle : (N - d) * i.size ≤ cap * i.size := Nat.mul_le_mul_right _ (by omega)
  have hle2 : (N - d) * i.size + d * i.size ≤ cap * i.size := by rw [← Nat.add_mul]; exact Nat.mul_le_mul_right _ (by omega)
  obtain ⟨c1, hc1⟩ : ∃ c1, c1 = splice cur 0 (cl f (xs.drop d)) := ⟨_, rfl⟩
  have hl1 : c1.length = cap * i.size := by rw [hc1, length_splice _ _ _ (by rw [hlm]; omega), hcs]
  have hg1 : (w.setRow g c1.toArray).heap[g]? = some (.cells c1.toArray e (0, 0)) := setRow_heap w g _ _ e _ hh
  obtain ⟨c2, hc2⟩ : ∃ c2, c2 = splice c1 ((N - d) * i.size) (Builtin.zeroCells z.cells d).toList := ⟨_, rfl⟩
  have hzl : (Builtin.zeroCells z.cells d).toList.length = d * i.size := by rw [Array.length_toList, size_zeroCells, hzs]
  refine ⟨w.setRow g c1.toArray, (w.setRow g c1.toArray).setRow g c2.toArray, ?_, ?_, ⟨c2, setRow_heap _ g _ _ e _ hg1, ?_, hdl, by omega, hcm, ?_⟩, Fr.trans (S := (· = g)) (Fr.setRow _ _ _ rfl) (Fr.setRow _ _ _ rfl)⟩
  · intro ty A c hA
    obtain ⟨cur', h3, h4, -⟩ := row_moved hz w t ty e i ht hi rfl g N cap d c xs hR hdN A hA
    rw [hh] at h4
    have : cur' = cur := by
      injection h4 with h4
      injection h4 with h4
      simpa using h4.symm
    rw [h3, this, hc1]
  · intro ty c
    rw [hc2]
    exact run_clear _ t ty e i z ht hi hzo hzs h1 g _ d c c1 hg1 h0 (by omega)
  · rw [hc2, take_splice (Nat.le_refl _) (by omega), hc1]
    unfold splice
    rw [List.take_zero, List.nil_append, ← hlm, List.take_left]
  · rw [hc2, length_splice _ _ _ (by omega), hl1]

set_option maxHeartbeats 4000000 in
set_option maxRecDepth 100000 in
theorem delete_row (g N c d : Nat) (xs : List Int) (w : World) (h0 : 0 < d) (hdN : d ≤ N) (hN : N ≤ 4096) (hc63 : c ≤ 9223372036854775807) (hNc : N ≤ c) (h : Hid (RowF ei 1 w g N c 3 xs)) :
    Calls Try.prog 39 #[.slice (some ⟨g, 0, none⟩) N c, .int .i64 0, .int .i64 d] w fun e w' => e = .returned (.slice (some ⟨g, 0, none⟩) (N - d) c) ∧ RowF ei 1 w' g (N - d) c 3 (xs.drop d) ∧ Fr (· = g) w w' := by
  obtain ⟨i0, hi0, hz0, hz1, hz2⟩ := info_parts Try.infoI
  obtain ⟨w1, w2, hap, hcr, hR, hF⟩ := row_cut sz_ei (P := Try.prog) w.drew 22 3 i0 _ Try.underlying22 hi0 hz0 hz1 rfl (fun v hv => by simp [Value.cells] at hv; subst hv; rfl) g N c d xs (h.out.fr (S := fun _ => False) (Fr.drew _ w) (fun h => h)) h0 hdN
  have R := hd (And.intro hR ((Fr.drew _ w).trans hF))
  simp only [Nat.mul_one] at hap hcr
  clear hR hF hi0 hz0 hz1 hz2
  have hb1 : (0 : Int) ≤ (d : Int) := by omega
  have hb2 : (d : Int) ≤ (N : Int) := by omega
  have hb3 : ¬ ((0 : Int) = (d : Int)) := by omega
  have hb4 : d ≤ c := by omega
  have hb5 : ¬ (c = N - d) := by omega
  have hb6 : N - (N - d) = d := by omega
  have hb7 : N - d ≤ N := by omega
  go_enter Try.func39, Try.ntmps39
  go_wp2_with fail
  by_cases hcd : c = d
  · subst hcd
    obtain rfl : N = c := by omega
    have hap0 : ∀ ty, (Builtin.append_ #[22, 22] ty #[.slice (some ⟨g, 0, none⟩) 0 N, .slice (some ⟨g, 0, none⟩) 0 0]).run Try.prog w.drew = .ok (.slice (some ⟨g, 0, none⟩) 0 N) w1 := fun ty => by
      have := hap ty ⟨g, 0, none⟩ 0 (.inl rfl)
      rwa [Nat.sub_self] at this
    rw [Nat.sub_self] at R hcr
    have hn0 : ¬ N = 0 := by omega
    clear hap hb5 hb6 hb7
    go_region_law (refine step_append_k rfl (.tmp 22) (.tmp 25) 22 22 rfl (.slice (some ⟨g, 0, none⟩) 0 N) (.slice (some ⟨g, 0, none⟩) 0 0) (by simp [Act.eval, Act.put]) (by simp [Act.eval, Act.put]) (hap0 _) ?_)
    go_wp2_with (at_builtin; refine wpList_clear_k _ rfl _ 22 rfl _ rfl (hcr _ _) ?_)
    go_ret
    rw [Nat.sub_self]
    exact ⟨rfl, R.out⟩
  · go_region_law (refine step_append_k rfl (.tmp 22) (.tmp 25) 22 22 rfl (.slice (some ⟨g, 0, none⟩) 0 c) (.slice (some ⟨g, d, none⟩) (N - d) (c - d)) (by simp [Act.eval, Act.put]) (by simp [Act.eval, Act.put]) (hap _ ⟨g, d, none⟩ _ (.inr rfl)) ?_)
    go_wp2_with (at_builtin; refine wpList_clear_k _ rfl _ 22 rfl _ rfl (hcr _ _) ?_)
    go_ret
    exact ⟨rfl, R.out⟩

end Go.Proofs.Ytpjnhjijipcjkaa

/-! Ag -/
namespace Go.Proofs.Ytpjnhjijipcjkaa
open Go.RowKit Go.Lib
set_option linter.unusedVariables false

theorem BoxAt.now {w w' : World} {x : Nat} {p : St} {S : Nat → Prop} (h : BoxAt w x p S) (hb : Below w.heap.size w w') : Now w w' x p S := ⟨S, h.below hb, fun k hk => .inl hk, Fr.of_below hb⟩

set_option maxRecDepth 100000 in
set_option maxHeartbeats 4000000 in
theorem ack_far (x g c d q s n W : Nat) (L : List Int) (S : Nat → Prop) (w : World) (hK : BK w x ⟨W, q, s, L⟩ (.slice (some ⟨g, 0, none⟩) L.length c) (some g)) (hSx : S x) (hSg : S g) (hS : ∀ k, S k → k < w.heap.size)
    (hn : q < n) (hs : n ≤ s) : Calls Try.prog 19 #[.pointer (some ⟨x, 0, none⟩), .int .i64 n] w fun e w' => e = .returned (.int .i64 0) ∧ Now w w' x ⟨W, n, s, L.drop (n - q)⟩ S := by
  have hok := hK.ok
  have b2 := hok.few
  have b3 := hok.le
  have b4 := hok.sl
  simp only at b2 b3 b4
  have c1 := cell_row hK.box 1
  have c2 := cell_row hK.box 2
  have c3 := cell_row hK.box 3
  have f1 := frozen_row hK.box 1
  have f3 := frozen_row hK.box 3
  simp at c1 c2 c3
  have hgx : g ≠ x := fun h => hK.x_ne (by rw [h])
  obtain ⟨m, hm⟩ : ∃ m, L.length = m := ⟨_, rfl⟩
  have hR : RowF ei 1 w g L.length c 3 L := by
    obtain ⟨cap, h1, h2⟩ := hK.row
    injection h1 with h1 h3 h4
    subst h4
    exact h2
  have hmc : m ≤ c ∧ c ≤ 9223372036854775807 := by
    obtain ⟨cur, -, -, -, h1, h2, -⟩ := hR
    exact ⟨by omega, h2⟩
  have PT : Hid (∀ U, Fr (fun _ => False) w U → Calls Try.prog 39 #[.slice (some ⟨g, 0, none⟩) m c, .int .i64 0, .int .i64 ((n : Int) - q)] U fun e w' => e = .returned (.slice (some ⟨g, 0, none⟩) (m - (n - q)) c) ∧ RowF ei 1 w' g (m - (n - q)) c 3 (L.drop (n - q)) ∧ Fr (· = g) w w') := by
    intro U hU
    rw [show ((n : Int) - q) = ((n - q : Nat) : Int) by omega]
    refine (delete_row g m c (n - q) L U (by omega) (by omega) (by omega) hmc.2 hmc.1 (hd (by rw [← hm]; exact hR.fr hU (fun h => h)))).mono ?_
    rintro e w' ⟨rfl, h1, h2⟩
    exact ⟨rfl, h1, (hU.mono (fun _ _ h => h.elim)).trans h2⟩
  have ZZ : Hid (∀ w3, RowF ei 1 w3 g (m - (n - q)) c 3 (L.drop (n - q)) → Fr (· = g) w w3 → w3.heap[x]? = some (.cells #[.int .i64 W, .int .i64 q, .int .i64 s, .slice (some ⟨g, 0, none⟩) m c] 79 (0, 0)) ∧
      ∀ u, Below w3.heap.size ((w3.setCell ⟨x, 3, none⟩ (.slice (some ⟨g, 0, none⟩) (m - (n - q)) c)).setCell ⟨x, 1, none⟩ (.int .i64 n)) u → Now w u x ⟨W, n, s, L.drop (n - q)⟩ S) := by
    intro w3 h1 h2
    have hbx := h2.keeps hK.box (fun h => hgx h.symm)
    simp only at hbx
    rw [hm] at hbx
    refine ⟨hbx, fun u hu => ?_⟩
    have h3 := set_row (set_row hbx 3 (.slice (some ⟨g, 0, none⟩) (m - (n - q)) c)) 1 (.int .i64 n)
    have F2 : Fr (· = x) w3 ((w3.setCell ⟨x, 3, none⟩ (.slice (some ⟨g, 0, none⟩) (m - (n - q)) c)).setCell ⟨x, 1, none⟩ (.int .i64 n)) := Fr.trans (S := (· = x)) (Fr.setCell _ _ _ rfl) (Fr.setCell _ _ _ rfl)
    have hsz := F2.size
    have hsz2 := h2.size
    have hR3 := h1.fr F2 hgx
    have K3 : BK ((w3.setCell ⟨x, 3, none⟩ (.slice (some ⟨g, 0, none⟩) (m - (n - q)) c)).setCell ⟨x, 1, none⟩ (.int .i64 n)) x ⟨W, n, s, L.drop (n - q)⟩ (.slice (some ⟨g, 0, none⟩) (m - (n - q)) c) (some g) := by
      refine ⟨by simpa using h3, ⟨c, ?_, ?_⟩, ⟨hok.w1, hok.w2, hs, ?_, ?_⟩⟩
      · simp [hm]
      · simpa [hm] using hR3
      · simp [hm]; omega
      · simp [hm]; omega
    have B3 : BoxAt ((w3.setCell ⟨x, 3, none⟩ (.slice (some ⟨g, 0, none⟩) (m - (n - q)) c)).setCell ⟨x, 1, none⟩ (.int .i64 n)) x ⟨W, n, s, L.drop (n - q)⟩ (fun k => k = x ∨ k = g) := by
      refine ⟨_, some g, K3, .inl rfl, fun k hk => by injection hk with hk; exact .inr hk.symm, ?_⟩
      rintro k (rfl | rfl)
      · exact block_lt h3
      · exact hR3.lt
    have F3 : Fr S w ((w3.setCell ⟨x, 3, none⟩ (.slice (some ⟨g, 0, none⟩) (m - (n - q)) c)).setCell ⟨x, 1, none⟩ (.int .i64 n)) := (h2.mono (fun k _ hk => by rw [hk]; exact hSg)).next F2 (fun k _ hk => by rw [hk]; exact hSx)
    have hu3 : Below ((w3.setCell ⟨x, 3, none⟩ (.slice (some ⟨g, 0, none⟩) (m - (n - q)) c)).setCell ⟨x, 1, none⟩ (.int .i64 n)).heap.size ((w3.setCell ⟨x, 3, none⟩ (.slice (some ⟨g, 0, none⟩) (m - (n - q)) c)).setCell ⟨x, 1, none⟩ (.int .i64 n)) u := by
      simpa using hu
    refine ⟨_, B3.below hu3, ?_, F3.trans (Fr.of_below hu3)⟩
    rintro k (rfl | rfl)
    · exact .inl hSx
    · exact .inl hSg
  have i1 : ¬ (n : Int) < 0 := by omega
  have i2 : ¬ (s : Int) < (n : Int) := by omega
  have i3 : (q : Int) < (n : Int) := by omega
  have hw : IntKind.i64.wrap ((n : Int) - q) = (n : Int) - q := by rw [IntKind.wrap_i64]; omega
  rw [hm] at c3
  clear hK hSx hSg hS hok hR hmc hm
  go_enter Try.func19, Try.ntmps19
  go_wp2_with fail
  go_region_law (first | (go_simp; go_at_call 39; refine (PT.out _ (by repeat (first | exact Fr.refl _ _ | refine Fr.trans ?_ (Fr.drew _ _) | refine Fr.trans ?_ (Fr.drewN _ _ _)))).mono ?_; rintro ex w3 ⟨rfl, h1, h2⟩; have Z1 := ZZ.out _ h1 h2; have k3 := cell_row Z1.1 3; have k1 := cell_row Z1.1 1; simp at k3 k1; have j1 := frozen_row Z1.1 1; have j3 := frozen_row Z1.1 3; have Z2 := hd Z1.2; clear h1 h2 Z1))
  all_goals
    go_wp2
    go_ret
    refine ⟨rfl, Z2.out _ ?_⟩
    repeat (first | exact Below.refl _ _ | refine Below.drew ?_ | refine below_drewN ?_ _)

theorem ack_any (x : Nat) (p : St) (n : Int) (S : Nat → Prop) (w : World) (h : BoxAt w x p S) :
    Calls Try.prog 19 #[.pointer (some ⟨x, 0, none⟩), .int .i64 n] w fun e w' => e = .returned (.int .i64 (ackE p n)) ∧ Now w w' x (ackS p n) S := by
  have H := hd h
  obtain ⟨v, β, hK, hSx, hSβ, hS⟩ := h
  have c1 := cell_row hK.box 1
  have c2 := cell_row hK.box 2
  simp at c1 c2
  have hok := hK.ok
  by_cases h1 : n < 0
  · have e1 : Hid (ackE p n = 82 ∧ ackS p n = p) := ⟨by rw [ackE, if_pos (.inl h1)], by rw [ackS, if_neg (by omega)]⟩
    clear hK hSx hSβ hS hok
    go_enter Try.func19, Try.ntmps19
    go_wp2
    go_ret
    rw [e1.out.1, e1.out.2]
    exact ⟨rfl, H.out.now (Below.refl _ _)⟩
  by_cases h2 : (p.s : Int) < n
  · have e1 : Hid (ackE p n = 82 ∧ ackS p n = p) := ⟨by rw [ackE, if_pos (.inr h2)], by rw [ackS, if_neg (by omega)]⟩
    clear hK hSx hSβ hS hok
    go_enter Try.func19, Try.ntmps19
    go_wp2
    go_ret
    rw [e1.out.1, e1.out.2]
    exact ⟨rfl, H.out.now (Below.refl _ _)⟩
  have e0 : ackE p n = 0 := by rw [ackE, if_neg (by omega)]
  rw [e0]
  by_cases h3 : (p.a : Int) < n
  · obtain ⟨m, rfl⟩ : ∃ m : Nat, n = m := ⟨n.toNat, by omega⟩
    rw [ackS, if_pos (by omega), Int.toNat_natCast]
    have := hok.sl
    have := hok.few
    obtain ⟨g, rfl⟩ : ∃ g, β = some g := by
      cases β with
      | none =>
        have hl : p.L.length = 0 := by rw [hK.row.2]; rfl
        omega
      | some g => exact ⟨g, rfl⟩
    obtain ⟨c, rfl, -⟩ := hK.row
    exact ack_far x g c 0 p.a p.s m p.W p.L S w hK hSx (hSβ g rfl) hS (by omega) (by omega)
  · have e1 : Hid (ackS p n = p) := by show _ = _; rw [ackS, if_neg (by omega)]
    clear hK hSx hSβ hS hok e0
    go_enter Try.func19, Try.ntmps19
    go_wp2
    go_ret
    rw [e1.out]
    exact ⟨rfl, H.out.now (Below.refl _ _)⟩

end Go.Proofs.Ytpjnhjijipcjkaa

/-! Ah -/
namespace Go.Proofs.Ytpjnhjijipcjkaa
open Go.RowKit
set_option linter.unusedVariables false

/-- A list of ints that came in. -/
def IsI (w : World) (a : Option Addr) (n c : Nat) (X : Nat → Int) : Prop :=
  n ≤ c ∧ c ≤ 9223372036854775807 ∧ (0 < n → ∃ b off, a = some ⟨b, off, none⟩ ∧ b < w.heap.size ∧ ∀ i, i < n → w.cell? ⟨b, off + i, none⟩ = some (.int .i64 (X i)))
theorem IsI.below {w w' : World} {B : Nat} {a : Option Addr} {n c : Nat} {X : Nat → Int} (h : IsI w a n c X) (hb : Below B w w') (hB : w.heap.size ≤ B) : IsI w' a n c X := by
  obtain ⟨h2, h3, h4⟩ := h
  refine ⟨h2, h3, fun hn => ?_⟩
  obtain ⟨b, off, e, hlt, hc⟩ := h4 hn
  refine ⟨b, off, e, Nat.lt_of_lt_of_le hlt hb.size, fun i hi => ?_⟩
  rw [hb.cell (p := ⟨b, off + i, none⟩) (Nat.lt_of_lt_of_le hlt hB)]
  exact hc i hi

/-- The call, begun at w0, has made an outbox at block x; all that was there is as it was; the blocks of K are not the outbox. -/
structure BX (w0 w : World) (x : Nat) (p : St) (K : Nat → Prop) : Prop where
  at_ : ∃ S, BoxAt w x p S ∧ ∀ k, S k → w0.heap.size ≤ k ∧ ¬ K k
  base : Below w0.heap.size w0 w
  old : ∀ k, K k → k < w.heap.size

/-- The blocks of K are as they were. -/
def KP (K : Nat → Prop) (w w' : World) : Prop := ∀ k, K k → w'.heap[k]? = w.heap[k]?
theorem KP.refl (K : Nat → Prop) (w : World) : KP K w w := fun _ _ => rfl
theorem KP.trans {K : Nat → Prop} {a b c : World} (h : KP K a b) (h2 : KP K b c) : KP K a c := fun k hk => (h2 k hk).trans (h k hk)

def NoK : Nat → Prop := fun _ => False

theorem BX.ok {w0 w : World} {x : Nat} {p : St} {K : Nat → Prop} (h : BX w0 w x p K) : p.ok := by
  obtain ⟨S, h1, h2⟩ := h.at_
  exact h1.ok
theorem BX.adds {w0 w w' : World} {x : Nat} {p : St} {K K' : Nat → Prop} (h : BX w0 w x p K) (hb : Below w.heap.size w w') (h1 : ∀ k, K' k → K k ∨ w.heap.size ≤ k) (h2 : ∀ k, K' k → k < w'.heap.size) : BX w0 w' x p K' := by
  obtain ⟨S, h3, h4⟩ := h.at_
  refine ⟨⟨S, h3.below hb, fun k hk => ⟨(h4 k hk).1, fun hn => ?_⟩⟩, h.base.trans (hb.mono h.base.size), h2⟩
  rcases h1 k hn with h5 | h5
  · exact (h4 k hk).2 h5
  · have := h3.old k hk; omega
theorem BX.below {w0 w w' : World} {x : Nat} {p : St} {K : Nat → Prop} (h : BX w0 w x p K) (hb : Below w.heap.size w w') : BX w0 w' x p K := h.adds hb (fun k hk => .inl hk) (fun k hk => Nat.lt_of_lt_of_le (h.old k hk) hb.size)
theorem BX.less {w0 w : World} {x : Nat} {p : St} {K K' : Nat → Prop} (h : BX w0 w x p K) (h1 : ∀ k, K' k → K k) : BX w0 w x p K' := h.adds (Below.refl _ _) (fun k hk => .inl (h1 k hk)) (fun k hk => h.old k (h1 k hk))
theorem BX.free {w0 w : World} {x : Nat} {p : St} {K : Nat → Prop} (h : BX w0 w x p K) : BX w0 w x p NoK := h.less (fun k hk => hk.elim)
theorem BX.kp {w0 w w' : World} {x : Nat} {p : St} {K : Nat → Prop} (h : BX w0 w x p K) (hb : Below w.heap.size w w') : KP K w w' := fun k hk => hb.block k (h.old k hk)
theorem BX.now {w0 w w' : World} {x : Nat} {p p' : St} {K S : Nat → Prop} (h : BX w0 w x p K) (h2 : ∀ k, S k → w0.heap.size ≤ k ∧ ¬ K k) (hN : Now w w' x p' S) : BX w0 w' x p' K ∧ KP K w w' := by
  obtain ⟨S', h3, h4, h5⟩ := hN
  have hs := h.base.size
  refine ⟨⟨⟨S', h3, fun k hk => ?_⟩, h.base.trans (h5.below hs (fun k hk => (h2 k hk).1)), fun k hk => Nat.lt_of_lt_of_le (h.old k hk) h5.size⟩, fun k hk => h5.block k (h.old k hk) (fun hs => (h2 k hs).2 hk)⟩
  rcases h4 k hk with h6 | h6
  · exact h2 k h6
  · exact ⟨by omega, fun hn => by have := h.old k hn; omega⟩

theorem bx_new (W : Nat) (w : World) (h1 : 1 ≤ W) (h2 : W ≤ 4096) : Calls Try.prog 10 #[.int .i64 W] w fun e w' => ∃ x, e = .returned (.tuple #[.pointer (some ⟨x, 0, none⟩), .int .i64 0]) ∧ BX w w' x ⟨W, 0, 0, []⟩ NoK := by
  refine (new_good W w h1 h2).mono ?_
  rintro e w' ⟨x, rfl, S, h1, h2, h3⟩
  exact ⟨x, rfl, ⟨S, h1, fun k hk => ⟨h2 k hk, fun h => h⟩⟩, h3, fun k hk => hk.elim⟩
section
variable {w0 w : World} {x : Nat} {p : St} {K : Nat → Prop}
theorem bx_push (h : BX w0 w x p K) (y : Int) : Calls Try.prog 12 #[.pointer (some ⟨x, 0, none⟩), .int .i64 y] w fun e w' => e = .returned (.tuple #[.int .i64 (pushN p), .int .i64 (pushE p)]) ∧ BX w0 w' x (pushS p y) K ∧ KP K w w' := by
  obtain ⟨S, h1, h2⟩ := h.at_
  refine (push_any x p y S w h1).mono ?_
  rintro e w' ⟨rfl, h3⟩
  exact ⟨rfl, h.now h2 h3⟩
theorem bx_ack (h : BX w0 w x p K) (n : Int) : Calls Try.prog 19 #[.pointer (some ⟨x, 0, none⟩), .int .i64 n] w fun e w' => e = .returned (.int .i64 (ackE p n)) ∧ BX w0 w' x (ackS p n) K ∧ KP K w w' := by
  obtain ⟨S, h1, h2⟩ := h.at_
  refine (ack_any x p n S w h1).mono ?_
  rintro e w' ⟨rfl, h3⟩
  exact ⟨rfl, h.now h2 h3⟩
theorem bx_due (h : BX w0 w x p K) : Calls Try.prog 13 #[.pointer (some ⟨x, 0, none⟩)] w fun e w' => ∃ u, e = .returned u ∧ IL w' w.heap.size u (dueL p) ∧ BX w0 w' x (dueS p) (fun k => K k ∨ (w.heap.size ≤ k ∧ k < w'.heap.size)) ∧ KP K w w' := by
  obtain ⟨S, h1, h2⟩ := h.at_
  refine (due_any x p S w h1).mono ?_
  rintro e w' ⟨u, rfl, h3, h4, h5⟩
  obtain ⟨h6, h7⟩ := h.now h2 ⟨S, h4, fun k hk => .inl hk, h5⟩
  refine ⟨u, rfl, h3, ⟨⟨S, h4, fun k hk => ⟨(h2 k hk).1, ?_⟩⟩, h6.base, ?_⟩, h7⟩
  · rintro (h8 | h8)
    · exact (h2 k hk).2 h8
    · have := h1.old k hk; omega
  · rintro k (h8 | h8)
    · exact h6.old k h8
    · exact h8.2
theorem bx_last (h : BX w0 w x p K) : Calls Try.prog 34 #[.pointer (some ⟨x, 0, none⟩)] w fun e w' => e = .returned (.int .i64 p.last) ∧ BX w0 w' x p K ∧ KP K w w' := by
  obtain ⟨S, ⟨v, β, h1, h3⟩, h2⟩ := h.at_
  refine (last_bk x p v β w h1).mono ?_
  rintro e w' ⟨rfl, h4⟩
  exact ⟨rfl, h.below h4, h.kp h4⟩
theorem bx_acked (h : BX w0 w x p K) : Calls Try.prog 20 #[.pointer (some ⟨x, 0, none⟩)] w fun e w' => e = .returned (.int .i64 p.a) ∧ w' = w := by
  obtain ⟨S, ⟨v, β, h1, h3⟩, h2⟩ := h.at_
  exact acked_bk x p v β w h1
end

theorem Now.after {w w1 w' : World} {x : Nat} {p : St} {S : Nat → Prop} (h : Now w1 w' x p S) (hb : Below w.heap.size w w1) : Now w w' x p S := by
  obtain ⟨S', h1, h2, h3⟩ := h
  have := hb.size
  exact ⟨S', h1, fun k hk => (h2 k hk).imp id (fun h => by omega), (Fr.of_below hb).trans h3⟩

end Go.Proofs.Ytpjnhjijipcjkaa
