/-
  A file in memory, what turns it, and copy within a known block.
-/
import Derived.Test.YtdlelbdhcpjdfabParts
namespace Go.Proofs.Ytdlelbdhcpjdfab
open Go.RowKit

/-- Every block that was there is as it was, but for the blocks of S. -/
structure Fr (S : Nat → Prop) (w w' : World) : Prop where
  os : w'.os = w.os
  tape : w'.tape = w.tape
  output : w'.output = w.output
  size : w.heap.size ≤ w'.heap.size
  block : ∀ k, k < w.heap.size → ¬ S k → w'.heap[k]? = w.heap[k]?

theorem Fr.refl (S : Nat → Prop) (w : World) : Fr S w w := ⟨rfl, rfl, rfl, Nat.le_refl _, fun _ _ _ => rfl⟩
theorem Fr.trans {S : Nat → Prop} {a b c : World} (h : Fr S a b) (k : Fr S b c) : Fr S a c :=
  ⟨k.os.trans h.os, k.tape.trans h.tape, k.output.trans h.output, Nat.le_trans h.size k.size, fun i hi hr => (k.block i (Nat.lt_of_lt_of_le hi h.size) hr).trans (h.block i hi hr)⟩
theorem Fr.next {S S' : Nat → Prop} {a b c : World} (h : Fr S a b) (k : Fr S' b c) (hS : ∀ i, i < a.heap.size → S' i → S i) : Fr S a c :=
  ⟨k.os.trans h.os, k.tape.trans h.tape, k.output.trans h.output, Nat.le_trans h.size k.size, fun i hi hr => (k.block i (Nat.lt_of_lt_of_le hi h.size) (fun hs => hr (hS i hi hs))).trans (h.block i hi hr)⟩
theorem Fr.mono {S S' : Nat → Prop} {w w' : World} (h : Fr S w w') (hS : ∀ k, k < w.heap.size → S k → S' k) : Fr S' w w' :=
  ⟨h.os, h.tape, h.output, h.size, fun k hk hn => h.block k hk (fun hs => hn (hS k hk hs))⟩
theorem Fr.of_below {S : Nat → Prop} {w w' : World} (h : Below w.heap.size w w') : Fr S w w' := ⟨h.os, h.tape, h.output, h.size, fun k hk _ => h.block k hk⟩
theorem Fr.below {S : Nat → Prop} {B : Nat} {w w' : World} (h : Fr S w w') (hB : B ≤ w.heap.size) (hS : ∀ k, S k → B ≤ k) : Below B w w' :=
  ⟨h.os, h.tape, h.output, h.size, fun k hk => h.block k (by omega) (fun hs => by have := hS k hs; omega)⟩
theorem Fr.drewN (S : Nat → Prop) (w : World) (m : Nat) : Fr S w (w.drewN m) := ⟨rfl, rfl, rfl, Nat.le_refl _, fun _ _ _ => rfl⟩
theorem Fr.drew (S : Nat → Prop) (w : World) : Fr S w w.drew := ⟨rfl, rfl, rfl, Nat.le_refl _, fun _ _ _ => rfl⟩
theorem Fr.setCell {S : Nat → Prop} (w : World) (p : Addr) (u : Value) (hp : S p.block) : Fr S w (w.setCell p u) :=
  ⟨rfl, rfl, rfl, by simp, fun k _ hk => Below.heap_setCell w p u k (fun h => hk (h ▸ hp))⟩
theorem Fr.setRow {S : Nat → Prop} (w : World) (g : Nat) (cs : Array Value) (hp : S g) : Fr S w (w.setRow g cs) :=
  ⟨rfl, rfl, rfl, by simp, fun k _ hk => setRow_other w g k cs (fun h => hk (h ▸ hp))⟩
theorem Fr.alloc (S : Nat → Prop) (w : World) (o : Obj) : Fr S w (w.alloc o) := Fr.of_below ((Below.refl _ _).alloc (Nat.le_refl _) o)
theorem Fr.cell {S : Nat → Prop} {w w' : World} (h : Fr S w w') {p : Addr} (hp : p.block < w.heap.size) (hr : ¬ S p.block) : w'.cell? p = w.cell? p := World.cell?_of_block (w := w) (h.block p.block hp hr)

theorem block_lt {w : World} {r : Nat} {o : Obj} (h : w.heap[r]? = some o) : r < w.heap.size := by
  by_cases hg : r < w.heap.size
  · exact hg
  · rw [Array.getElem?_eq_none (by omega)] at h
    simp at h

theorem Fr.keeps {S : Nat → Prop} {w w' : World} (h : Fr S w w') {r : Nat} {o : Obj} (hr : w.heap[r]? = some o) (hS : ¬ S r) : w'.heap[r]? = some o := (h.block r (block_lt hr) hS).trans hr

theorem IsB.fr {S : Nat → Prop} {w w' : World} {a : Option Addr} {n c : Nat} {xs : List Int} (h : IsB w a n c xs) (hb : Fr S w w') (hr : 0 < n → ∀ b off, a = some ⟨b, off, none⟩ → ¬ S b) : IsB w' a n c xs := by
  obtain ⟨h1, h2, h3, h4⟩ := h
  refine ⟨h1, h2, h3, fun hn => ?_⟩
  obtain ⟨b, off, e, hlt, hc⟩ := h4 hn
  refine ⟨b, off, e, Nat.lt_of_lt_of_le hlt hb.size, fun i hi => ?_⟩
  rw [hb.cell (p := ⟨b, off + i, none⟩) hlt (hr hn b off e)]
  exact hc i hi

theorem cell_row {w : World} {r : Nat} {cur : Array Value} {t : TypeId} (h : w.heap[r]? = some (.cells cur t (0, 0))) (i : Nat) : w.cell? ⟨r, i, none⟩ = cur[i]? := by
  simp [World.cell?, h]
theorem frozen_row {w : World} {r : Nat} {cur : Array Value} {t : TypeId} (h : w.heap[r]? = some (.cells cur t (0, 0))) (i : Nat) : w.frozen? ⟨r, i, none⟩ = false := by
  simp [World.frozen?, h]
theorem set_row {w : World} {r : Nat} {cur : Array Value} {t : TypeId} (h : w.heap[r]? = some (.cells cur t (0, 0))) (i : Nat) (u : Value) : (w.setCell ⟨r, i, none⟩ u).heap[r]? = some (.cells (cur.setIfInBounds i u) t (0, 0)) :=
  heap_setCell_same w r i cur t u h

theorem ints_len (xs : List Int) : (ints xs).length = xs.length := by simp [ints]
theorem ints_one (xs : List Int) : ∀ v ∈ ints xs, v.oneCell' = true := ints_oneCell _ _
theorem ints_get (xs : List Int) (i : Nat) (h : i < xs.length) : (ints xs)[i]? = some (.int .u8 (xs.getD i 0)) := by
  simp [ints, List.getElem?_map, List.getElem?_eq_getElem h]
theorem ints_splice (xs ys : List Int) (o : Nat) : splice (ints xs) o (ints ys) = ints (splice xs o ys) := by
  simp [splice, ints, List.map_take, List.map_drop]

/-- A block of bytes, whole, is what a slice into it holds. -/
theorem isB_of_block {w : World} {p : Nat} {R : List Int} {t : TypeId} (h : w.heap[p]? = some (.cells (ints R).toArray t (0, 0))) (o n c : Nat) (hn : o + n ≤ R.length) (hc : n ≤ c) (hm : c ≤ 9223372036854775807) :
    IsB w (some ⟨p, o, none⟩) n c ((R.drop o).take n) := by
  refine ⟨by simp; omega, hc, hm, fun hn0 => ⟨p, o, rfl, block_lt h, fun i hi => ?_⟩⟩
  rw [cell_row h]
  simp only [List.getElem?_toArray]
  rw [ints_get _ _ (by omega)]
  congr 2
  simp [List.getD, hi, List.getElem?_drop]

theorem cells_of_isB {w : World} {a : Option Addr} {n c : Nat} {xs : List Int} (h : IsB w a n c xs) (hp : 0 < (ints xs).length) :
    ∃ ad, a = some ad ∧ ∀ j v, (ints xs)[j]? = some v → w.cell? (ad.add j) = some v := by
  obtain ⟨h1, h2, h3, h4⟩ := h
  have hn : 0 < n := by simpa [ints, h1] using hp
  obtain ⟨b, off, rfl, hb, hc⟩ := h4 hn
  refine ⟨_, rfl, fun j v hj => ?_⟩
  have hjl : j < n := by
    have := (List.getElem?_eq_some_iff.1 hj).1
    simpa [ints, h1] using this
  have := hc j hjl
  simp only [ints, List.getElem?_map] at hj
  rw [List.getElem?_eq_getElem (by omega)] at hj
  simp at hj
  subst hj
  have ea : (⟨b, off, none⟩ : Addr).add j = ⟨b, off + j, none⟩ := by
    by_cases h0 : j = 0
    · subst h0; simp [Addr.add]
    · simp [Addr.add, h0]
  rw [ea, this]
  simp [List.getElem?_eq_getElem (show j < xs.length by omega)]

/-- copy into a block of bytes that is known whole. -/
theorem wpList_copy_b {P : Program} {w : World} {ops : Array Oper} {rest : List Oper} {o : Oper} {a : Act} {Q : Exit → Act → World → Prop} (hgd : o.guard = none) (d s : Operand) (dT sT : TypeId)
    (ho : o.op = .call { callee := .builtin .copy, args := #[d, s], argTypes := #[dT, sT] }) (elem : TypeId) (hu : P.underlying dT = some (.slice elem)) (hsz : (P.info? elem).map (·.size) = some 1)
    (dp sp : Option Addr) (dLen dCap sLen sCap : Nat) (hd' : a.eval d = .slice dp dLen dCap) (hs : a.eval s = .slice sp sLen sCap)
    (g off : Nat) (cur : List Int) (t : TypeId) (hg : Hid (w.heap[g]? = some (.cells (ints cur).toArray t (0, 0)))) (xs : List Int) (hxs : Hid (IsB w sp sLen sCap xs)) (hle : sLen ≤ dLen)
    (hpos : 0 < sLen → dp = some ⟨g, off, none⟩) (hfit : off + sLen ≤ cur.length)
    (h : ∀ w', Hid (w'.heap[g]? = some (.cells (ints (splice cur off xs)).toArray t (0, 0))) → Hid (Fr (· = g) w w') → wpList P ops Q rest (a.put o.dst (goInt sLen)) w') :
    wpList P ops Q (o :: rest) a w := by
  have hl : xs.length = sLen := hxs.out.1
  have hn : (ints xs).length = Nat.min sLen dLen := by rw [ints_len, hl]; exact (Nat.min_eq_left hle).symm
  by_cases h0 : sLen = 0
  · obtain rfl : xs = [] := List.eq_nil_of_length_eq_zero (by omega)
    refine wpList_copy_nothing hgd d s dT sT ho elem hu hsz dp sp dLen dCap sLen sCap hd' hs (by rw [← hn]; rfl) ?_
    subst h0
    exact h w (show _ = _ by simpa [splice] using hg.out) (Fr.refl _ _)
  · obtain rfl := hpos (by omega)
    obtain ⟨ad, rfl, hsrc⟩ := cells_of_isB hxs.out (by rw [ints_len]; omega)
    refine wpList_copy_own hgd d s dT sT ho elem hu hsz g off dLen dCap ad sLen sCap hd' hs (ints cur).toArray t hg.out (ints xs) hn hsrc (by simp [ints_len]; omega) (ints_one _) ?_
    have := h (w.setRow g (splice (ints cur) off (ints xs)).toArray) (by rw [ints_splice]; exact setRow_heap w g _ _ t _ hg.out) (Fr.setRow w g _ rfl)
    rw [ints_len, hl]
    simpa [splice, ints_len, hl] using this

theorem step_copy_b {P : Program} {ops : Array Oper} {o : Oper} {a : Act} {w : World} {K : Act → World → Prop} {Q : Exit → Act → World → Prop} {E : Prop} (hgd : o.guard = none) (d s : Operand) (dT sT : TypeId)
    (ho : o.op = .call { callee := .builtin .copy, args := #[d, s], argTypes := #[dT, sT] }) (elem : TypeId) (hu : P.underlying dT = some (.slice elem)) (hsz : (P.info? elem).map (·.size) = some 1)
    (dp sp : Option Addr) (dLen dCap sLen sCap : Nat) (hd' : a.eval d = .slice dp dLen dCap) (hs : a.eval s = .slice sp sLen sCap)
    (g off : Nat) (cur : List Int) (t : TypeId) (hg : Hid (w.heap[g]? = some (.cells (ints cur).toArray t (0, 0)))) (xs : List Int) (hxs : Hid (IsB w sp sLen sCap xs)) (hle : sLen ≤ dLen)
    (hpos : 0 < sLen → dp = some ⟨g, off, none⟩) (hfit : off + sLen ≤ cur.length)
    (h : ∀ w', Hid (w'.heap[g]? = some (.cells (ints (splice cur off xs)).toArray t (0, 0))) → Hid (Fr (· = g) w w') → K (a.put o.dst (goInt sLen)) w') :
    if Region.wanted o (yielded ops a.tmps) = true then Oper.wp P o a w K Q else E := by
  have hw : Region.wanted o (yielded ops a.tmps) = true := by simp [Region.wanted, hgd]
  rw [if_pos hw]
  have hl : xs.length = sLen := hxs.out.1
  have hn : (ints xs).length = Nat.min sLen dLen := by rw [ints_len, hl]; exact (Nat.min_eq_left hle).symm
  by_cases h0 : sLen = 0
  · obtain rfl : xs = [] := List.eq_nil_of_length_eq_zero (by omega)
    have hrun := run_copy_none (P := P) w dT sT o.type elem dp sp dLen dCap sLen sCap hu hsz (by rw [← hn]; rfl)
    unfold Oper.wp
    simp [execOp, ho, resolve, invoke, builtin, hd', hs, hrun, Result.andThen]
    subst h0
    exact h w (show _ = _ by simpa [splice] using hg.out) (Fr.refl _ _)
  · obtain rfl := hpos (by omega)
    obtain ⟨ad, rfl, hsrc⟩ := cells_of_isB hxs.out (by rw [ints_len]; omega)
    have hrun := run_copy_row (P := P) w dT sT o.type elem g off dLen dCap ad sLen sCap (ints cur).toArray t (ints xs) hu hsz hg.out hn hsrc (by simp [ints_len]; omega) (ints_one _)
    unfold Oper.wp
    simp [execOp, ho, resolve, invoke, builtin, hd', hs, hrun, Result.andThen]
    have := h (w.setRow g (splice (ints cur) off (ints xs)).toArray) (by rw [ints_splice]; exact setRow_heap w g _ _ t _ hg.out) (Fr.setRow w g _ rfl)
    show K (a.put o.dst (goInt ↑(ints xs).length)) _
    rw [ints_len, hl]
    simpa [splice, ints_len, hl] using this

theorem wpList_make_b {P : Program} (w : World) {ops : Array Oper} {rest : List Oper} {o : Oper} {a : Act} {Q : Exit → Act → World → Prop}
    (hg : o.guard = none) (l c : Operand) (t : TypeId) (hop : o.op = Op.makeSlice t l c)
    (e : TypeId) (i : TypeInfo) (h1 : P.underlying t = some (.slice e)) (h2 : P.info? e = some i) (h3 : i.zero = some (.int .u8 0)) (h4 : i.size = 1) (h5 : i.bytes = 1)
    (kl kc : IntKind) (L C : Int) (n : Nat) (hl : a.eval l = .int kl L) (hc : a.eval c = .int kc C) (hL : L = (n : Int)) (hC : C = (n : Int)) (b2 : n ≤ 281474976710656)
    (hK : ∀ w' : World, Hid (w'.heap[w.heap.size]? = some (.cells (ints (List.replicate n 0)).toArray e (0, 0))) → Hid (Below w.heap.size w w') → w'.heap.size = w.heap.size + 1 → wpList P ops Q rest (a.put o.dst (.slice (some ⟨w.heap.size, 0, none⟩) n n)) w') :
    wpList P ops Q (o :: rest) a w := by
  refine wpList_plain hg fun K hK' => ?_
  subst hL
  subst hC
  have hrun := run_make (P := P) w t e i (.int .u8 0) h1 h2 h3 kl kc n n (by omega) (by omega) (by rw [h5]; omega) (by omega)
  simp only [Int.toNat_natCast] at hrun
  unfold Oper.wp
  simp [execOp, hop, hl, hc, hrun, Result.andThen]
  refine hK' _ _ (hK _ ?_ ((Below.refl _ _).alloc (Nat.le_refl _) _) (Array.size_push ..))
  show (w.alloc _).heap[w.heap.size]? = _
  rw [heap_alloc_new]
  have e2 : madeCells (Value.int .u8 0).cells (n * i.size) = (ints (List.replicate n 0)).toArray := by
    rw [h4, Nat.mul_one]
    apply Array.toList_inj.1
    rw [show (Value.int .u8 0).cells = #[Value.int .u8 0] from rfl, toList_madeCells_one]
    simp [ints]
  rw [e2]

def roomA (ρ : Option Nat) : Option Addr := ρ.map fun p => ⟨p, 0, none⟩

/-- The room of a file: none yet, or a block of its own. -/
def Room (w : World) (r : Nat) (ρ : Option Nat) (R : List Int) : Prop :=
  match ρ with
  | none => R = []
  | some p => p ≠ r ∧ w.heap[p]? = some (.cells (ints R).toArray 5 (0, 0))

/-- The file at block r, its room at block ρ: the bytes B, the first s of them synced. -/
def DK (w : World) (r : Nat) (ρ : Option Nat) (B : List Int) (s : Nat) : Prop :=
  ∃ R : List Int, w.heap[r]? = some (.cells #[.slice (roomA ρ) R.length R.length, .int .i64 B.length, .int .i64 s] 56 (0, 0)) ∧ Room w r ρ R ∧ B = R.take B.length ∧ B.length ≤ R.length ∧ s ≤ B.length ∧ R.length ≤ 262144

/-- The blocks of a file. -/
def Own (r : Nat) (ρ : Option Nat) (k : Nat) : Prop := k = r ∨ ρ = some k

theorem DK.lt {w : World} {r : Nat} {ρ : Option Nat} {B : List Int} {s : Nat} (h : DK w r ρ B s) : ∀ k, Own r ρ k → k < w.heap.size := by
  obtain ⟨R, hh, hR, _⟩ := h
  rintro k (rfl | rfl)
  · exact block_lt hh
  · exact block_lt hR.2

theorem DK.fr {S : Nat → Prop} {w w' : World} {r : Nat} {ρ : Option Nat} {B : List Int} {s : Nat} (h : DK w r ρ B s) (hb : Fr S w w') (hS : ∀ k, Own r ρ k → ¬ S k) : DK w' r ρ B s := by
  obtain ⟨R, hh, hR, h1⟩ := h
  refine ⟨R, hb.keeps hh (hS r (.inl rfl)), ?_, h1⟩
  cases ρ with
  | none => exact hR
  | some p => exact ⟨hR.1, hb.keeps hR.2 (hS p (.inr rfl))⟩

theorem DK.below {w w' : World} {r : Nat} {ρ : Option Nat} {B : List Int} {s : Nat} (h : DK w r ρ B s) (hb : Below w.heap.size w w') : DK w' r ρ B s :=
  h.fr (S := fun _ => False) (Fr.of_below hb) (fun _ _ h => h)

theorem DK.size_le {w : World} {r : Nat} {ρ : Option Nat} {B : List Int} {s : Nat} (h : DK w r ρ B s) : s ≤ B.length ∧ B.length ≤ 262144 := by
  obtain ⟨R, _, _, _, h1, h2, h3⟩ := h
  omega

end Go.Proofs.Ytdlelbdhcpjdfab
