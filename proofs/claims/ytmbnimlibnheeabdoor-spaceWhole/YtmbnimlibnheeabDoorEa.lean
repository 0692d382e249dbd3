/-
  Texts in memory.
-/
import Derived.Test.YtmbnimlibnheeabDoorMb
import Derived.Test.YtmbnimlibnheeabDoorUb
namespace Go.Proofs.YtmbnimlibnheeabDoor
open Go.RowKit Go.Lib
set_option linter.unusedVariables false

def elc (x : El) : List Value := [.int .u8 x.1, .int .i64 x.2.1, .int .i64 x.2.2]
/-- The cells of a text. -/
def cE (xs : List El) : List Value := xs.flatMap elc

theorem cE_nil : cE [] = [] := rfl
theorem cE_cons (x : El) (xs : List El) : cE (x :: xs) = elc x ++ cE xs := rfl
theorem cE_app (xs ys : List El) : cE (xs ++ ys) = cE xs ++ cE ys := by simp [cE]
theorem cE_one (x : El) : cE [x] = elc x := by simp [cE]
theorem cE_len (xs : List El) : (cE xs).length = xs.length * 3 := by
  induction xs with
  | nil => rfl
  | cons x xs ih => rw [cE_cons, List.length_append, ih]; simp [elc]; omega
theorem cE_take (xs : List El) (k : Nat) (hk : k ≤ xs.length) : (cE xs).take (k * 3) = cE (xs.take k) := by
  have h : cE xs = cE (xs.take k) ++ cE (xs.drop k) := by rw [← cE_app, List.take_append_drop]
  rw [h, List.take_append_of_le_length (by rw [cE_len, List.length_take, Nat.min_eq_left hk]; exact Nat.le_refl _), List.take_of_length_le (by rw [cE_len, List.length_take, Nat.min_eq_left hk]; exact Nat.le_refl _)]
theorem cE_drop (xs : List El) (k : Nat) (hk : k ≤ xs.length) : (cE xs).drop (k * 3) = cE (xs.drop k) := by
  have h : cE xs = cE (xs.take k) ++ cE (xs.drop k) := by rw [← cE_app, List.take_append_drop]
  have hl : (cE (xs.take k)).length = k * 3 := by rw [cE_len, List.length_take, Nat.min_eq_left hk]
  rw [h, ← hl, List.drop_left]
theorem cE_one' (xs : List El) : ∀ v ∈ cE xs, v.oneCell' = true := by
  intro v hv
  simp [cE, elc] at hv
  obtain ⟨a, b, c, _, h⟩ := hv
  rcases h with rfl | rfl | rfl <;> rfl
theorem cE_get (xs : List El) (i : Nat) (hi : i < xs.length) : (cE xs)[i * 3]? = some (.int .u8 xs[i].1) ∧ (cE xs)[i * 3 + 1]? = some (.int .i64 xs[i].2.1) ∧ (cE xs)[i * 3 + 2]? = some (.int .i64 xs[i].2.2) := by
  have h : cE xs = cE (xs.take i) ++ (elc xs[i] ++ cE (xs.drop (i + 1))) := by
    rw [← cE_cons, ← cE_app]
    congr 1
    rw [← List.drop_eq_getElem_cons hi, List.take_append_drop]
  have hl : (cE (xs.take i)).length = i * 3 := by rw [cE_len, List.length_take]; congr 1; omega
  rw [h]
  refine ⟨?_, ?_, ?_⟩
  · rw [List.getElem?_append_right (by omega), hl, Nat.sub_self]; rfl
  · rw [List.getElem?_append_right (by omega), hl, show i * 3 + 1 - i * 3 = 1 by omega]; rfl
  · rw [List.getElem?_append_right (by omega), hl, show i * 3 + 2 - i * 3 = 2 by omega]; rfl

/-- The slice value at a, of n elements and capacity c, holds the text xs in w. -/
def IsE (w : World) (a : Option Addr) (n c : Nat) (xs : List El) : Prop :=
  xs.length = n ∧ n ≤ c ∧ c ≤ 9223372036854775807 ∧
  (0 < n → ∃ b off, a = some ⟨b, off, none⟩ ∧ b < w.heap.size ∧ ∀ j v, (cE xs)[j]? = some v → w.cell? ⟨b, off + j, none⟩ = some v)

theorem IsE.at {w : World} {b off n c : Nat} {xs : List El} (h : IsE w (some ⟨b, off, none⟩) n c xs) (i : Nat) (hi : i < n) (hx : i < xs.length) :
    w.cell? ⟨b, off + i * 3, none⟩ = some (.int .u8 xs[i].1) ∧ w.cell? ⟨b, off + i * 3 + 1, none⟩ = some (.int .i64 xs[i].2.1) ∧ w.cell? ⟨b, off + i * 3 + 2, none⟩ = some (.int .i64 xs[i].2.2) := by
  obtain ⟨h1, h2, h3, h4⟩ := h
  obtain ⟨b', off', e, hlt, hc⟩ := h4 (by omega)
  have e' := Option.some.inj e
  simp at e'
  obtain ⟨rfl, rfl⟩ := e'
  obtain ⟨g0, g1, g2⟩ := cE_get xs i hx
  exact ⟨hc _ _ g0, by rw [Nat.add_assoc]; exact hc _ _ g1, by rw [Nat.add_assoc]; exact hc _ _ g2⟩

theorem IsE.addr {w : World} {a : Option Addr} {n c : Nat} {xs : List El} (h : IsE w a n c xs) (hn : 0 < n) : ∃ b off, a = some ⟨b, off, none⟩ ∧ b < w.heap.size := by
  obtain ⟨b, off, e, hlt, _⟩ := h.2.2.2 hn
  exact ⟨b, off, e, hlt⟩

theorem IsE.fr {S : Nat → Prop} {w w' : World} {a : Option Addr} {n c : Nat} {xs : List El} (h : IsE w a n c xs) (hb : Fr S w w') (hr : 0 < n → ∀ b off, a = some ⟨b, off, none⟩ → ¬ S b) : IsE w' a n c xs := by
  obtain ⟨h1, h2, h3, h4⟩ := h
  refine ⟨h1, h2, h3, fun hn => ?_⟩
  obtain ⟨b, off, e, hlt, hc⟩ := h4 hn
  refine ⟨b, off, e, Nat.lt_of_lt_of_le hlt hb.size, fun j v hj => ?_⟩
  rw [hb.cell (p := ⟨b, off + j, none⟩) hlt (hr hn b off e)]
  exact hc j v hj
theorem IsE.below {w w' : World} {a : Option Addr} {n c : Nat} {xs : List El} (h : IsE w a n c xs) (hb : Below w.heap.size w w') : IsE w' a n c xs :=
  h.fr (S := fun _ => False) (Fr.of_below hb) (fun _ _ _ _ h => h)
theorem isE_nil (w : World) : IsE w none 0 0 [] := ⟨rfl, Nat.le_refl _, by omega, fun h => by omega⟩

theorem IsE.take {w : World} {a : Option Addr} {n c : Nat} {xs : List El} (h : IsE w a n c xs) (m : Nat) (hm : m ≤ n) : IsE w a m c (xs.take m) := by
  obtain ⟨h1, h2, h3, h4⟩ := h
  refine ⟨by simp; omega, by omega, h3, fun hn => ?_⟩
  obtain ⟨b, off, e, hlt, hc⟩ := h4 (by omega)
  refine ⟨b, off, e, hlt, fun j v hj => hc j v ?_⟩
  rw [← cE_take xs m (by omega), List.getElem?_take] at hj
  split at hj
  · exact hj
  · cases hj

/-- Part of a text: from place k on. -/
theorem IsE.drop {w : World} {b off n c : Nat} {xs : List El} (h : IsE w (some ⟨b, off, none⟩) n c xs) (k : Nat) (hk : k ≤ n) : IsE w (some ⟨b, off + k * 3, none⟩) (n - k) (c - k) (xs.drop k) := by
  obtain ⟨h1, h2, h3, h4⟩ := h
  refine ⟨by simp; omega, by omega, by omega, fun hn => ?_⟩
  obtain ⟨b', off', e, hlt, hc⟩ := h4 (by omega)
  have e' := Option.some.inj e
  simp at e'
  obtain ⟨rfl, rfl⟩ := e'
  refine ⟨b, off + k * 3, rfl, hlt, fun j v hj => ?_⟩
  rw [← cE_drop xs k (by omega), List.getElem?_drop] at hj
  rw [Nat.add_assoc]
  exact hc _ _ hj

/-- Block g is a row of cap elements, the first N of them xs. -/
def RowE (w : World) (g N cap : Nat) (xs : List El) : Prop :=
  ∃ cur : List Value, w.heap[g]? = some (.cells cur.toArray 41 (0, 0)) ∧ cur.take (N * 3) = cE xs ∧ xs.length = N ∧ N ≤ cap ∧ cap ≤ 9223372036854775807 ∧ cur.length = cap * 3

theorem RowE.fr {S : Nat → Prop} {w w' : World} {g N cap : Nat} {xs : List El} (h : RowE w g N cap xs) (hF : Fr S w w') (hS : ¬ S g) : RowE w' g N cap xs := by
  obtain ⟨cur, hh, r⟩ := h
  exact ⟨cur, hF.keeps hh hS, r⟩
theorem RowE.lt {w : World} {g N cap : Nat} {xs : List El} (h : RowE w g N cap xs) : g < w.heap.size := by
  obtain ⟨cur, hh, _⟩ := h
  exact block_lt hh
theorem RowE.isE {w : World} {g N cap : Nat} {xs : List El} (h : RowE w g N cap xs) : IsE w (some ⟨g, 0, none⟩) N cap xs := by
  obtain ⟨cur, hh, ht, hl, hn, hm, hs⟩ := h
  refine ⟨hl, hn, hm, fun _ => ⟨g, 0, rfl, block_lt hh, fun j v hj => ?_⟩⟩
  rw [Nat.zero_add, cell_row hh, List.getElem?_toArray]
  rw [← ht, List.getElem?_take] at hj
  split at hj
  · exact hj
  · cases hj

theorem Tryd.infoE : (Tryd.prog.info? 41).map (fun i => (i.zero, i.size, i.bytes)) = some (some (.agg #[.int .u8 0, .int .i64 0, .int .i64 0]), 3, 24) := by kernel_rfl

theorem row_emptyE {w : World} {g m : Nat} {cur : List Value} (hg : w.heap[g]? = some (.cells cur.toArray 41 (0, 0))) (hcur : cur = (madeCells #[.int .u8 0, .int .i64 0, .int .i64 0] (m * 3)).toList) (hm : m ≤ 9223372036854775807) : RowE w g 0 m [] := by
  refine ⟨cur, hg, by simp [cE_nil], rfl, Nat.zero_le _, hm, ?_⟩
  rw [hcur]
  simp [madeCells]

/-- append of a text onto a row with room. -/
theorem run_app_roomE (w : World) (g N cap : Nat) (xs : List El) (hR : RowE w g N cap xs) (a : Option Addr) (n c : Nat) (ys : List El) (hE : IsE w a n c ys) (hroom : N + n ≤ cap) :
    ∃ w', (∀ ty, (Builtin.append_ #[26, 26] ty #[.slice (some ⟨g, 0, none⟩) N cap, .slice a n c]).run Tryd.prog w = .ok (.slice (some ⟨g, 0, none⟩) (N + n) cap) w') ∧ RowE w' g (N + n) cap (xs ++ ys) ∧ Fr (· = g) w w' := by
  obtain ⟨i0, hi0, hz0, hz1, hz2⟩ := info_parts Tryd.infoE
  by_cases h0 : n = 0
  · subst h0
    obtain rfl := List.eq_nil_of_length_eq_zero hE.1
    refine ⟨w, fun ty => ?_, by simpa using hR, Fr.refl _ _⟩
    have hl : ∀ (x : Addr), (loadCells x 0).run Tryd.prog w = .ok #[] w := fun x => by simpa using run_loadCells_list (P := Tryd.prog) w x [] (by simp)
    have hc : N ≤ cap := by omega
    cases a <;> simp [Builtin.append_, run_underlying Tryd.underlying26, Builtin.lenOf, Builtin.firstCells, sizeOf, typeInfo, hi0, storeCells, hl, hc]
  · obtain ⟨h1, h2, h3, h4⟩ := hE
    obtain ⟨b, off, rfl, hlt, hc⟩ := h4 (by omega)
    obtain ⟨cur, hh, htk, hvl, hnc, hcm, hcs⟩ := hR
    have hl : (cE ys).length = n * i0.size := by rw [hz1, cE_len, h1]
    have hr := fun ty => run_append_room (P := Tryd.prog) w 26 ty 41 i0 Tryd.underlying26 hi0 g N cap cur.toArray hh ⟨b, off, none⟩ n c (cE ys) hl (fun j v hj => by rw [add_lit]; exact hc j v hj) (cE_one' _) hroom (by rw [hz1, cE_len, h1]; simp [hcs]; omega)
    refine ⟨_, hr, ?_, Fr.setRow _ _ _ rfl⟩
    rw [hz1]
    refine ⟨splice cur (N * 3) (cE ys), ?_, ?_, by simp [hvl, h1], hroom, hcm, ?_⟩
    · have := setRow_heap w g cur.toArray (splice cur (N * 3) (cE ys)).toArray 41 _ hh
      simpa [splice] using this
    · have := splice_take_end cur (N * 3) (cE ys) (by omega)
      rw [cE_len, h1, ← Nat.add_mul, htk] at this
      rw [this, cE_app]
    · rw [length_splice _ _ _ (by rw [cE_len, h1, hcs]; omega), hcs]

/-- append of one element onto a row with room. -/
theorem run_app1E (w : World) (g N cap : Nat) (xs : List El) (hR : RowE w g N cap xs) (x : El) (hroom : N + 1 ≤ cap) :
    ∃ w', (∀ ty, (Builtin.append_ #[26, 26] ty #[.slice (some ⟨g, 0, none⟩) N cap, .slice (some ⟨w.heap.size, 0, none⟩) 1 1]).run Tryd.prog (w.alloc (.cells (elc x).toArray 41)) = .ok (.slice (some ⟨g, 0, none⟩) (N + 1) cap) w') ∧ RowE w' g (N + 1) cap (xs ++ [x]) ∧ Fr (· = g) w w' := by
  have F := Fr.alloc (· = g) w (.cells (elc x).toArray 41)
  have hR' : RowE (w.alloc (.cells (elc x).toArray 41)) g N cap xs := hR.fr (S := fun _ => False) (Fr.alloc _ _ _) (fun h => h)
  have hx : IsE (w.alloc (.cells (elc x).toArray 41)) (some ⟨w.heap.size, 0, none⟩) 1 1 [x] := by
    refine ⟨rfl, Nat.le_refl _, by omega, fun _ => ⟨_, _, rfl, by simp, fun j v hj => ?_⟩⟩
    rw [Nat.zero_add, cell_row (heap_alloc_new _ _)]
    rw [cE_one] at hj
    simpa using hj
  obtain ⟨w', hr, h1, h2⟩ := run_app_roomE _ g N cap xs hR' _ 1 1 [x] hx hroom
  exact ⟨w', hr, h1, F.trans h2⟩

theorem insertIdx_parts (d : List El) (p : Nat) (x : El) (h : p ≤ d.length) : d.insertIdx p x = d.take p ++ ([x] ++ d.drop p) := by
  apply List.ext_getElem?
  intro j
  rw [List.getElem?_insertIdx, List.getElem?_append, List.length_take, Nat.min_eq_left h]
  by_cases h1 : j < p
  · rw [if_pos h1, if_pos h1, List.getElem?_take, if_pos h1]
  · rw [if_neg h1, if_neg h1]
    by_cases h2 : j = p
    · subst h2
      rw [if_pos rfl, if_pos h]
      simp
    · rw [if_neg h2]
      obtain ⟨i, rfl⟩ : ∃ i, j = p + 1 + i := ⟨j - p - 1, by omega⟩
      rw [show p + 1 + i - p = i + 1 by omega, show p + 1 + i - 1 = p + i by omega]
      simp [List.getElem?_drop]

end Go.Proofs.YtmbnimlibnheeabDoor
