/-
  What a walk is told of a list of bytes, and small laws of it.
-/
import Derived.Test.YtnglcnilckolkaaRows
import Derived.WalkKit
import Derived.WalkSpells
import Derived.WalkLawsBesides
import Derived.Laws.CopyOwn
import Derived.Laws.MakeOwn
import Derived.Deep.DeepAppendWide
import Derived.Maps.OwnSet
namespace Go.Proofs.Ytnglcnilckolkaa
open Go.RowKit
set_option linter.unusedVariables false

theorem hd {p : Prop} (h : p) : Hid p := h

def ints (xs : List Int) : List Value := xs.map (Value.int .u8)

/-- The slice value at a, of n elements and capacity c, holds the bytes xs in w. -/
def IsB (w : World) (a : Option Addr) (n c : Nat) (xs : List Int) : Prop :=
  xs.length = n ∧ n ≤ c ∧ c ≤ 9223372036854775807 ∧
  (0 < n → ∃ b off, a = some ⟨b, off, none⟩ ∧ b < w.heap.size ∧ ∀ i, i < n → w.cell? ⟨b, off + i, none⟩ = some (.int .u8 (xs.getD i 0)))

/-- The slice value is a row that the call has made, from block base on, and holds the bytes xs. -/
def OwnB (w : World) (base : Nat) (v : Value) (n : Nat) (xs : List Int) : Prop := w.ownsRow base 5 1 v n (ints xs)

theorem IsB.below {w w' : World} {a : Option Addr} {n c : Nat} {xs : List Int} (h : IsB w a n c xs) (hb : Below w.heap.size w w') : IsB w' a n c xs := by
  obtain ⟨h1, h2, h3, h4⟩ := h
  refine ⟨h1, h2, h3, fun hn => ?_⟩
  obtain ⟨b, off, e, hlt, hc⟩ := h4 hn
  refine ⟨b, off, e, Nat.lt_of_lt_of_le hlt hb.size, fun i hi => ?_⟩
  rw [hb.cell (p := ⟨b, off + i, none⟩) hlt]
  exact hc i hi

theorem IsB.take {w : World} {a : Option Addr} {n c : Nat} {xs : List Int} (h : IsB w a n c xs) (m : Nat) (hm : m ≤ n) : IsB w a m c (xs.take m) := by
  obtain ⟨h1, h2, h3, h4⟩ := h
  refine ⟨by simp; omega, by omega, h3, fun hn => ?_⟩
  obtain ⟨b, off, e, hlt, hc⟩ := h4 (by omega)
  refine ⟨b, off, e, hlt, fun i hi => ?_⟩
  rw [hc i (by omega)]
  simp [hi]

theorem OwnB.isB {w : World} {base : Nat} {v : Value} {n : Nat} {xs : List Int} (h : OwnB w base v n xs) : ∃ a c, v = .slice a n c ∧ IsB w a n c xs := by
  have hl := h.1
  simp [ints] at hl
  rcases h.2 with ⟨rfl, rfl⟩ | ⟨g, cap, cur, rfl, hbg, hh, hnc, hcm, hcs, htk⟩
  · exact ⟨none, 0, rfl, by omega, Nat.le_refl _, by omega, fun h => by omega⟩
  · refine ⟨_, cap, rfl, hl, hnc, hcm, fun hn => ⟨g, 0, rfl, ?_, fun i hi => ?_⟩⟩
    · by_cases hg : g < w.heap.size
      · exact hg
      · rw [Array.getElem?_eq_none (by omega)] at hh
        simp at hh
    · have := World.ownsRow.cellAt (g := g) (cap := cap) h i (by omega)
      rw [Nat.zero_add, this]
      simp [ints, List.getElem?_map]
      rw [List.getElem?_eq_getElem (by omega)]
      simp

theorem OwnB.below {w w' : World} {B base : Nat} {v : Value} {n : Nat} {xs : List Int} (h : OwnB w base v n xs) (hb : Below B w w') (hB : w.heap.size ≤ B) : OwnB w' base v n xs := by
  refine ⟨h.1, ?_⟩
  rcases h.2 with h0 | ⟨g, cap, cur, e, hbg, hh, r⟩
  · exact .inl h0
  · refine .inr ⟨g, cap, cur, e, hbg, ?_, r⟩
    have hg : g < w.heap.size := by
      by_cases hg : g < w.heap.size
      · exact hg
      · rw [Array.getElem?_eq_none (by omega)] at hh
        simp at hh
    rw [hb.block g (by omega)]
    exact hh

theorem OwnB.mono {w : World} {base base' : Nat} {v : Value} {n : Nat} {xs : List Int} (h : OwnB w base v n xs) (hb : base' ≤ base) : OwnB w base' v n xs := by
  refine ⟨h.1, ?_⟩
  rcases h.2 with h0 | ⟨g, cap, cur, e, hbg, r⟩
  · exact .inl h0
  · exact .inr ⟨g, cap, cur, e, by omega, r⟩

theorem fill_step (xs : List Int) (n k : Nat) (hl : xs.length = n) (hk : k < n) :
    (ints (xs.take k ++ List.replicate (n - k) 0)).set k (.int .u8 (xs.getD k 0)) = ints (xs.take (k + 1) ++ List.replicate (n - (k + 1)) 0) := by
  have e : List.replicate (n - k) (0 : Int) = 0 :: List.replicate (n - (k + 1)) 0 := by
    rw [show n - k = (n - (k + 1)) + 1 from by omega, List.replicate_succ]
  have t : xs.take (k + 1) = xs.take k ++ [xs.getD k 0] := by
    rw [List.take_succ_eq_append_getElem (by omega)]
    simp [List.getD, List.getElem?_eq_getElem (show k < xs.length by omega)]
  rw [e, t]
  simp only [ints, List.map_append, List.map_cons, List.append_assoc, List.cons_append, List.nil_append]
  rw [List.set_append_right _ _ (by simp; omega)]
  simp [Nat.min_eq_left (show k ≤ xs.length by omega)]

theorem app_step {w wr w' : World} {B : Nat} {v v' : Value} {m : Nat} {ys : List Int} {x : Int} {o : Obj} (O : OwnB wr B v m ys) (hb : Below B w wr) (hB : B ≤ w.heap.size)
    (hown : w'.ownsRow B 5 1 v' (m + 1) (ints ys ++ [.int .u8 x])) (hg : (wr.alloc o).grownBy w' v.ownBlock) : OwnB w' B v' (m + 1) (ys ++ [x]) ∧ Below B w w' := by
  refine ⟨?_, ?_⟩
  · have e : ints (ys ++ [x]) = ints ys ++ [.int .u8 x] := by simp [ints]
    unfold OwnB
    rw [e]
    exact hown
  · have hs : B ≤ wr.heap.size := Nat.le_trans hB hb.size
    exact (hb.alloc hs o).grown hg (by simp; omega) (fun k hk => (World.ownsRow.lt O k hk).1)

theorem one_of (x : Int) : ∀ u ∈ [Value.int .u8 x], u.oneCell' = true := by
  intro u hu
  simp at hu
  subst hu
  rfl

theorem Try.info5 : (Try.prog.info? 5).map (fun i => (i.zero, i.size, i.bytes)) = some (some (.int .u8 0), 1, 1) := by kernel_rfl

/-- Every block that was there is as it was, but for the blocks of S. -/
structure Fr (S : Nat → Prop) (w w' : World) : Prop where
  os : w'.os = w.os
  tape : w'.tape = w.tape
  output : w'.output = w.output
  size : w.heap.size ≤ w'.heap.size
  block : ∀ k, k < w.heap.size → ¬ S k → w'.heap[k]? = w.heap[k]?

theorem Fr.refl (S : Nat → Prop) (w : World) : Fr S w w := ⟨rfl, rfl, rfl, Nat.le_refl _, fun _ _ _ => rfl⟩
theorem Fr.trans {S : Nat → Prop} {a b c : World} (h : Fr S a b) (k : Fr S b c) : Fr S a c :=
  ⟨k.os.trans h.os, k.tape.trans h.tape, k.output.trans h.output, Nat.le_trans h.size k.size, fun i hi hr => (k.block i (Nat.lt_of_lt_of_le hi h.size) hr).trans (h.block i hi hr)⟩
theorem Fr.next {S S' : Nat → Prop} {a b c : World} (h : Fr S a b) (k : Fr S' b c) (hS : ∀ i, i < a.heap.size → S' i → S i) : Fr S a c :=
  ⟨k.os.trans h.os, k.tape.trans h.tape, k.output.trans h.output, Nat.le_trans h.size k.size, fun i hi hr => (k.block i (Nat.lt_of_lt_of_le hi h.size) (fun hs => hr (hS i hi hs))).trans (h.block i hi hr)⟩
theorem Fr.mono {S S' : Nat → Prop} {w w' : World} (h : Fr S w w') (hS : ∀ k, k < w.heap.size → S k → S' k) : Fr S' w w' :=
  ⟨h.os, h.tape, h.output, h.size, fun k hk hn => h.block k hk (fun hs => hn (hS k hk hs))⟩
theorem Fr.of_below {S : Nat → Prop} {w w' : World} (h : Below w.heap.size w w') : Fr S w w' := ⟨h.os, h.tape, h.output, h.size, fun k hk _ => h.block k hk⟩
theorem Fr.below {S : Nat → Prop} {B : Nat} {w w' : World} (h : Fr S w w') (hB : B ≤ w.heap.size) (hS : ∀ k, S k → B ≤ k) : Below B w w' :=
  ⟨h.os, h.tape, h.output, h.size, fun k hk => h.block k (by omega) (fun hs => by have := hS k hs; omega)⟩
theorem Fr.drewN (S : Nat → Prop) (w : World) (m : Nat) : Fr S w (w.drewN m) := ⟨rfl, rfl, rfl, Nat.le_refl _, fun _ _ _ => rfl⟩
theorem Fr.drew (S : Nat → Prop) (w : World) : Fr S w w.drew := ⟨rfl, rfl, rfl, Nat.le_refl _, fun _ _ _ => rfl⟩
theorem Fr.setCell {S : Nat → Prop} (w : World) (p : Addr) (u : Value) (hp : S p.block) : Fr S w (w.setCell p u) :=
  ⟨rfl, rfl, rfl, by simp, fun k _ hk => Below.heap_setCell w p u k (fun h => hk (h ▸ hp))⟩
theorem Fr.setRow {S : Nat → Prop} (w : World) (g : Nat) (cs : Array Value) (hp : S g) : Fr S w (w.setRow g cs) :=
  ⟨rfl, rfl, rfl, by simp, fun k _ hk => setRow_other w g k cs (fun h => hk (h ▸ hp))⟩
theorem Fr.alloc (S : Nat → Prop) (w : World) (o : Obj) : Fr S w (w.alloc o) := Fr.of_below ((Below.refl _ _).alloc (Nat.le_refl _) o)
theorem Fr.cell {S : Nat → Prop} {w w' : World} (h : Fr S w w') {p : Addr} (hp : p.block < w.heap.size) (hr : ¬ S p.block) : w'.cell? p = w.cell? p := World.cell?_of_block (w := w) (h.block p.block hp hr)

theorem block_lt {w : World} {r : Nat} {o : Obj} (h : w.heap[r]? = some o) : r < w.heap.size := by
  by_cases hg : r < w.heap.size
  · exact hg
  · rw [Array.getElem?_eq_none (by omega)] at h
    simp at h

theorem Fr.keeps {S : Nat → Prop} {w w' : World} (h : Fr S w w') {r : Nat} {o : Obj} (hr : w.heap[r]? = some o) (hS : ¬ S r) : w'.heap[r]? = some o := (h.block r (block_lt hr) hS).trans hr

theorem IsB.fr {S : Nat → Prop} {w w' : World} {a : Option Addr} {n c : Nat} {xs : List Int} (h : IsB w a n c xs) (hb : Fr S w w') (hr : 0 < n → ∀ b off, a = some ⟨b, off, none⟩ → ¬ S b) : IsB w' a n c xs := by
  obtain ⟨h1, h2, h3, h4⟩ := h
  refine ⟨h1, h2, h3, fun hn => ?_⟩
  obtain ⟨b, off, e, hlt, hc⟩ := h4 hn
  refine ⟨b, off, e, Nat.lt_of_lt_of_le hlt hb.size, fun i hi => ?_⟩
  rw [hb.cell (p := ⟨b, off + i, none⟩) hlt (hr hn b off e)]
  exact hc i hi

theorem cell_row {w : World} {r : Nat} {cur : Array Value} {t : TypeId} (h : w.heap[r]? = some (.cells cur t (0, 0))) (i : Nat) : w.cell? ⟨r, i, none⟩ = cur[i]? := by
  simp [World.cell?, h]
theorem frozen_row {w : World} {r : Nat} {cur : Array Value} {t : TypeId} (h : w.heap[r]? = some (.cells cur t (0, 0))) (i : Nat) : w.frozen? ⟨r, i, none⟩ = false := by
  simp [World.frozen?, h]
theorem set_row {w : World} {r : Nat} {cur : Array Value} {t : TypeId} (h : w.heap[r]? = some (.cells cur t (0, 0))) (i : Nat) (u : Value) : (w.setCell ⟨r, i, none⟩ u).heap[r]? = some (.cells (cur.setIfInBounds i u) t (0, 0)) :=
  heap_setCell_same w r i cur t u h

theorem ints_len (xs : List Int) : (ints xs).length = xs.length := by simp [ints]
theorem ints_one (xs : List Int) : ∀ v ∈ ints xs, v.oneCell' = true := ints_oneCell _ _
theorem ints_get (xs : List Int) (i : Nat) (h : i < xs.length) : (ints xs)[i]? = some (.int .u8 (xs.getD i 0)) := by
  simp [ints, List.getElem?_map, List.getElem?_eq_getElem h]
theorem ints_splice (xs ys : List Int) (o : Nat) : splice (ints xs) o (ints ys) = ints (splice xs o ys) := by
  simp [splice, ints, List.map_take, List.map_drop]

/-- A block of bytes, whole, is what a slice into it holds. -/
theorem isB_of_block {w : World} {p : Nat} {R : List Int} {t : TypeId} (h : w.heap[p]? = some (.cells (ints R).toArray t (0, 0))) (o n c : Nat) (hn : o + n ≤ R.length) (hc : n ≤ c) (hm : c ≤ 9223372036854775807) :
    IsB w (some ⟨p, o, none⟩) n c ((R.drop o).take n) := by
  refine ⟨by simp; omega, hc, hm, fun hn0 => ⟨p, o, rfl, block_lt h, fun i hi => ?_⟩⟩
  rw [cell_row h]
  simp only [List.getElem?_toArray]
  rw [ints_get _ _ (by omega)]
  congr 2
  simp [List.getD, hi, List.getElem?_drop]

theorem cells_of_isB {w : World} {a : Option Addr} {n c : Nat} {xs : List Int} (h : IsB w a n c xs) (hp : 0 < (ints xs).length) :
    ∃ ad, a = some ad ∧ ∀ j v, (ints xs)[j]? = some v → w.cell? (ad.add j) = some v := by
  obtain ⟨h1, h2, h3, h4⟩ := h
  have hn : 0 < n := by simpa [ints, h1] using hp
  obtain ⟨b, off, rfl, hb, hc⟩ := h4 hn
  refine ⟨_, rfl, fun j v hj => ?_⟩
  have hjl : j < n := by
    have := (List.getElem?_eq_some_iff.1 hj).1
    simpa [ints, h1] using this
  have := hc j hjl
  simp only [ints, List.getElem?_map] at hj
  rw [List.getElem?_eq_getElem (by omega)] at hj
  simp at hj
  subst hj
  have ea : (⟨b, off, none⟩ : Addr).add j = ⟨b, off + j, none⟩ := by
    by_cases h0 : j = 0
    · subst h0; simp [Addr.add]
    · simp [Addr.add, h0]
  rw [ea, this]
  simp [List.getElem?_eq_getElem (show j < xs.length by omega)]

/-- copy into a block of bytes that is known whole. -/
theorem wpList_copy_b {P : Program} {w : World} {ops : Array Oper} {rest : List Oper} {o : Oper} {a : Act} {Q : Exit → Act → World → Prop} (hgd : o.guard = none) (d s : Operand) (dT sT : TypeId)
    (ho : o.op = .call { callee := .builtin .copy, args := #[d, s], argTypes := #[dT, sT] }) (elem : TypeId) (hu : P.underlying dT = some (.slice elem)) (hsz : (P.info? elem).map (·.size) = some 1)
    (dp sp : Option Addr) (dLen dCap sLen sCap : Nat) (hd' : a.eval d = .slice dp dLen dCap) (hs : a.eval s = .slice sp sLen sCap)
    (g off : Nat) (cur : List Int) (t : TypeId) (hg : Hid (w.heap[g]? = some (.cells (ints cur).toArray t (0, 0)))) (xs : List Int) (hxs : Hid (IsB w sp sLen sCap xs)) (hle : sLen ≤ dLen)
    (hpos : 0 < sLen → dp = some ⟨g, off, none⟩) (hfit : off + sLen ≤ cur.length)
    (h : ∀ w', Hid (w'.heap[g]? = some (.cells (ints (splice cur off xs)).toArray t (0, 0))) → Hid (Fr (· = g) w w') → wpList P ops Q rest (a.put o.dst (goInt sLen)) w') :
    wpList P ops Q (o :: rest) a w := by
  have hl : xs.length = sLen := hxs.out.1
  have hn : (ints xs).length = Nat.min sLen dLen := by rw [ints_len, hl]; exact (Nat.min_eq_left hle).symm
  by_cases h0 : sLen = 0
  · obtain rfl : xs = [] := List.eq_nil_of_length_eq_zero (by omega)
    refine wpList_copy_nothing hgd d s dT sT ho elem hu hsz dp sp dLen dCap sLen sCap hd' hs (by rw [← hn]; rfl) ?_
    subst h0
    exact h w (show _ = _ by simpa [splice] using hg.out) (Fr.refl _ _)
  · obtain rfl := hpos (by omega)
    obtain ⟨ad, rfl, hsrc⟩ := cells_of_isB hxs.out (by rw [ints_len]; omega)
    refine wpList_copy_own hgd d s dT sT ho elem hu hsz g off dLen dCap ad sLen sCap hd' hs (ints cur).toArray t hg.out (ints xs) hn hsrc (by simp [ints_len]; omega) (ints_one _) ?_
    have := h (w.setRow g (splice (ints cur) off (ints xs)).toArray) (by rw [ints_splice]; exact setRow_heap w g _ _ t _ hg.out) (Fr.setRow w g _ rfl)
    rw [ints_len, hl]
    simpa [splice, ints_len, hl] using this

theorem step_copy_b {P : Program} {ops : Array Oper} {o : Oper} {a : Act} {w : World} {K : Act → World → Prop} {Q : Exit → Act → World → Prop} {E : Prop} (hgd : o.guard = none) (d s : Operand) (dT sT : TypeId)
    (ho : o.op = .call { callee := .builtin .copy, args := #[d, s], argTypes := #[dT, sT] }) (elem : TypeId) (hu : P.underlying dT = some (.slice elem)) (hsz : (P.info? elem).map (·.size) = some 1)
    (dp sp : Option Addr) (dLen dCap sLen sCap : Nat) (hd' : a.eval d = .slice dp dLen dCap) (hs : a.eval s = .slice sp sLen sCap)
    (g off : Nat) (cur : List Int) (t : TypeId) (hg : Hid (w.heap[g]? = some (.cells (ints cur).toArray t (0, 0)))) (xs : List Int) (hxs : Hid (IsB w sp sLen sCap xs)) (hle : sLen ≤ dLen)
    (hpos : 0 < sLen → dp = some ⟨g, off, none⟩) (hfit : off + sLen ≤ cur.length)
    (h : ∀ w', Hid (w'.heap[g]? = some (.cells (ints (splice cur off xs)).toArray t (0, 0))) → Hid (Fr (· = g) w w') → K (a.put o.dst (goInt sLen)) w') :
    if Region.wanted o (yielded ops a.tmps) = true then Oper.wp P o a w K Q else E := by
  have hw : Region.wanted o (yielded ops a.tmps) = true := by simp [Region.wanted, hgd]
  rw [if_pos hw]
  have hl : xs.length = sLen := hxs.out.1
  have hn : (ints xs).length = Nat.min sLen dLen := by rw [ints_len, hl]; exact (Nat.min_eq_left hle).symm
  by_cases h0 : sLen = 0
  · obtain rfl : xs = [] := List.eq_nil_of_length_eq_zero (by omega)
    have hrun := run_copy_none (P := P) w dT sT o.type elem dp sp dLen dCap sLen sCap hu hsz (by rw [← hn]; rfl)
    unfold Oper.wp
    simp [execOp, ho, resolve, invoke, builtin, hd', hs, hrun, Result.andThen]
    subst h0
    exact h w (show _ = _ by simpa [splice] using hg.out) (Fr.refl _ _)
  · obtain rfl := hpos (by omega)
    obtain ⟨ad, rfl, hsrc⟩ := cells_of_isB hxs.out (by rw [ints_len]; omega)
    have hrun := run_copy_row (P := P) w dT sT o.type elem g off dLen dCap ad sLen sCap (ints cur).toArray t (ints xs) hu hsz hg.out hn hsrc (by simp [ints_len]; omega) (ints_one _)
    unfold Oper.wp
    simp [execOp, ho, resolve, invoke, builtin, hd', hs, hrun, Result.andThen]
    have := h (w.setRow g (splice (ints cur) off (ints xs)).toArray) (by rw [ints_splice]; exact setRow_heap w g _ _ t _ hg.out) (Fr.setRow w g _ rfl)
    show K (a.put o.dst (goInt ↑(ints xs).length)) _
    rw [ints_len, hl]
    simpa [splice, ints_len, hl] using this

theorem wpList_make_b {P : Program} (w : World) {ops : Array Oper} {rest : List Oper} {o : Oper} {a : Act} {Q : Exit → Act → World → Prop}
    (hg : o.guard = none) (l c : Operand) (t : TypeId) (hop : o.op = Op.makeSlice t l c)
    (e : TypeId) (i : TypeInfo) (h1 : P.underlying t = some (.slice e)) (h2 : P.info? e = some i) (h3 : i.zero = some (.int .u8 0)) (h4 : i.size = 1) (h5 : i.bytes = 1)
    (kl kc : IntKind) (L C : Int) (n : Nat) (hl : a.eval l = .int kl L) (hc : a.eval c = .int kc C) (hL : L = (n : Int)) (hC : C = (n : Int)) (b2 : n ≤ 281474976710656)
    (hK : ∀ w' : World, Hid (w'.heap[w.heap.size]? = some (.cells (ints (List.replicate n 0)).toArray e (0, 0))) → Hid (Below w.heap.size w w') → w'.heap.size = w.heap.size + 1 → wpList P ops Q rest (a.put o.dst (.slice (some ⟨w.heap.size, 0, none⟩) n n)) w') :
    wpList P ops Q (o :: rest) a w := by
  refine wpList_plain hg fun K hK' => ?_
  subst hL
  subst hC
  have hrun := run_make (P := P) w t e i (.int .u8 0) h1 h2 h3 kl kc n n (by omega) (by omega) (by rw [h5]; omega) (by omega)
  simp only [Int.toNat_natCast] at hrun
  unfold Oper.wp
  simp [execOp, hop, hl, hc, hrun, Result.andThen]
  refine hK' _ _ (hK _ ?_ ((Below.refl _ _).alloc (Nat.le_refl _) _) (Array.size_push ..))
  show (w.alloc _).heap[w.heap.size]? = _
  rw [heap_alloc_new]
  have e2 : madeCells (Value.int .u8 0).cells (n * i.size) = (ints (List.replicate n 0)).toArray := by
    rw [h4, Nat.mul_one]
    apply Array.toList_inj.1
    rw [show (Value.int .u8 0).cells = #[Value.int .u8 0] from rfl, toList_madeCells_one]
    simp [ints]
  rw [e2]

/-- Block g is a row of cap cells of type e, the first N of them vs. -/
def RowV (w : World) (g N cap : Nat) (e : TypeId) (vs : List Value) : Prop :=
  ∃ cur : Array Value, w.heap[g]? = some (.cells cur e (0, 0)) ∧ cur.toList.take N = vs ∧ vs.length = N ∧ N ≤ cap ∧ cap ≤ 9223372036854775807 ∧ cur.size = cap

theorem RowV.fr {S : Nat → Prop} {w w' : World} {g N cap : Nat} {e : TypeId} {vs : List Value} (h : RowV w g N cap e vs) (hF : Fr S w w') (hS : ¬ S g) : RowV w' g N cap e vs := by
  obtain ⟨cur, hh, r⟩ := h
  exact ⟨cur, hF.keeps hh hS, r⟩
theorem RowV.lt {w : World} {g N cap : Nat} {e : TypeId} {vs : List Value} (h : RowV w g N cap e vs) : g < w.heap.size := by
  obtain ⟨cur, hh, _⟩ := h
  exact block_lt hh
theorem RowV.cell {w : World} {g N cap : Nat} {e : TypeId} {vs : List Value} (h : RowV w g N cap e vs) (i : Nat) (hi : i < N) : w.cell? ⟨g, i, none⟩ = vs[i]? := by
  obtain ⟨cur, hh, ht, _⟩ := h
  rw [cell_row hh, ← ht, List.getElem?_take, if_pos hi]
  simp
/-- nil, or a row. -/
def SRow (w : World) (e : TypeId) (β : Option Nat) (v : Value) (vs : List Value) : Prop :=
  match β with
  | none => v = .slice none 0 0 ∧ vs = []
  | some g => ∃ cap, v = .slice (some ⟨g, 0, none⟩) vs.length cap ∧ RowV w g vs.length cap e vs

theorem SRow.fr {S : Nat → Prop} {w w' : World} {e : TypeId} {β : Option Nat} {v : Value} {vs : List Value} (h : SRow w e β v vs) (hF : Fr S w w') (hS : ∀ g, β = some g → ¬ S g) : SRow w' e β v vs := by
  cases β with
  | none => exact h
  | some g =>
    obtain ⟨cap, hv, hR⟩ := h
    exact ⟨cap, hv, hR.fr hF (hS g rfl)⟩

theorem SRow.form {w : World} {e : TypeId} {β : Option Nat} {v : Value} {vs : List Value} (h : SRow w e β v vs) : ∃ a c, v = .slice a vs.length c := by
  cases β with
  | none =>
    obtain ⟨rfl, rfl⟩ := h
    exact ⟨none, 0, rfl⟩
  | some g =>
    obtain ⟨cap, rfl, _⟩ := h
    exact ⟨_, cap, rfl⟩

/-- What an append leaves: the same row, or a new one behind all that was there. -/
def Pushed (w w' : World) (e : TypeId) (β : Option Nat) (g' N cap' : Nat) (vs : List Value) : Prop :=
  RowV w' g' N cap' e vs ∧ ((β = some g' ∧ Fr (· = g') w w') ∨ (g' = w.heap.size ∧ Fr (fun _ => False) w w'))

theorem run_push {P : Program} (w : World) (t ty e : TypeId) (i : TypeInfo) (z : Value) (bytes : Nat) (ht : P.underlying t = some (.slice e)) (hi : P.info? e = some i) (hz : i.zero = some z) (hsz : i.size = 1) (hzs : z.cells.size = 1) (hby : i.bytes = bytes)
    (β : Option Nat) (v : Value) (vs : List Value) (hv : SRow w e β v vs) (ad : Addr) (m c : Nat) (news : List Value) (hl : news.length = m) (hnews : ∀ j u, news[j]? = some u → w.cell? (ad.add j) = some u) (h1 : ∀ u ∈ news, u.oneCell' = true)
    (hm : 0 < m) (h63 : vs.length + m ≤ 9223372036854775807) (hb : ((vs.length + m) + (vs.length + m) / 4 + 192) * bytes ≤ 281474976710656) :
    ∃ g' cap' w', (Builtin.append_ #[t, t] ty #[v, .slice (some ad) m c]).run P w = .ok (.slice (some ⟨g', 0, none⟩) (vs.length + m) cap') w' ∧ Pushed w w' e β g' (vs.length + m) cap' (vs ++ news) := by
  subst hby
  have hmx : vs.length + m ≤ maxLen := h63
  have hlm : news.length = m * i.size := by rw [hsz]; omega
  have newrow : ∀ old, RowV (w.drew.alloc (.cells ((vs ++ news).toArray ++ Builtin.zeroCells z.cells (grownCap w (vs.length + m) old e - (vs.length + m))) e)) w.heap.size (vs.length + m) (grownCap w (vs.length + m) old e) e (vs ++ news) := by
    intro old
    have hge := grownCap_ge w (vs.length + m) old e
    have hle := grownCap_le_maxLen w (vs.length + m) old e hmx
    refine ⟨_, heap_alloc_new w.drew _, ?_, by simp [hl], hge, hle, ?_⟩
    · rw [Array.toList_append, List.toList_toArray, List.take_append_of_le_length (by simp [hl]), List.take_of_length_le (by simp [hl])]
    · rw [Array.size_append, size_zeroCells, hzs]
      simp [hl]
      omega
  have newfr : ∀ o, Fr (fun _ => False) w (w.drew.alloc o) := fun o => (Fr.drew _ w).trans (Fr.alloc _ _ _)
  cases β with
  | none =>
    obtain ⟨rfl, rfl⟩ := hv
    have hr := run_append_nil (P := P) w t ty e i z ht hi hz ad m c news hlm hnews hm (by simp at h63; omega) (by
      simp only [List.length_nil, Nat.zero_add] at hb
      exact Nat.le_trans (Nat.mul_le_mul_right _ (by omega)) hb)
    have hn := newrow 0
    simp only [List.length_nil, Nat.zero_add, List.nil_append] at hn ⊢
    exact ⟨_, _, _, hr, hn, .inr ⟨rfl, newfr _⟩⟩
  | some g =>
    obtain ⟨cap, rfl, cur, hh, htk, hvl, hnc, hcm, hcs⟩ := hv
    by_cases hroom : vs.length + m ≤ cap
    · have hr := run_append_room (P := P) w t ty e i ht hi g vs.length cap cur hh ad m c news hlm hnews h1 hroom (by rw [hsz]; omega)
      rw [hsz, Nat.mul_one] at hr
      refine ⟨g, cap, _, hr, ⟨_, setRow_heap w g cur _ e _ hh, ?_, by simp [hl], hroom, hcm, ?_⟩, .inl ⟨rfl, Fr.setRow w g _ rfl⟩⟩
      · rw [List.toList_toArray, htk, List.take_append_of_le_length (by simp [hl]), List.take_of_length_le (by simp [hl])]
      · simp only [List.size_toArray, List.length_append, List.length_take, List.length_drop, Array.length_toList]
        omega
    · have holds : ∀ j u, vs[j]? = some u → w.cell? ((⟨g, 0, none⟩ : Addr).add j) = some u := by
        intro j u hj
        have hjl : j < vs.length := (List.getElem?_eq_some_iff.1 hj).1
        have ea : (⟨g, 0, none⟩ : Addr).add j = ⟨g, j, none⟩ := by
          by_cases h0 : j = 0
          · subst h0; simp [Addr.add]
          · simp [Addr.add, h0]
        rw [ea, RowV.cell (vs := vs) ⟨cur, hh, htk, hvl, hnc, hcm, hcs⟩ j hjl, hj]
      have hr := run_append_grow (P := P) w t ty e i z ht hi hz ⟨g, 0, none⟩ vs.length cap vs (by rw [hsz]; omega) holds ad m c news hlm hnews (by omega) (by omega) (growslice_fits_wide (by omega) hb)
      have hn := newrow cap
      rw [show vs.toArray ++ news.toArray = (vs ++ news).toArray from by simp] at hr
      exact ⟨_, _, _, hr, hn, .inr ⟨rfl, newfr _⟩⟩



end Go.Proofs.Ytnglcnilckolkaa
