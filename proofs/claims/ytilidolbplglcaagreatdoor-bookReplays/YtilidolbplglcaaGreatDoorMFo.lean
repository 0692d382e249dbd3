/-
  Texts put together: Fo Wc.
-/
import Derived.Test.YtilidolbplglcaaGreatDoorMNb
import Derived.Test.YtilidolbplglcaaGreatDoorMUb
import Derived.ArgAppend
import Derived.Test.YtilidolbplglcaaGreatDoorWb
/-! Fo -/
namespace Go.Proofs.YtilidolbplglcaaGreatDoor
open Go.RowKit
set_option linter.unusedVariables false

/-- nil, or a part of the row at block g, all of which is its own. -/
def FO (w : World) (β : Option Nat) (v : Value) (fs : List OpE) : Prop :=
  match β with
  | none => v = .slice none 0 0 ∧ fs = []
  | some g => ∃ off cap, ∃ cur : List Value, v = .slice (some ⟨g, off, none⟩) fs.length cap ∧ w.heap[g]? = some (.cells cur.toArray 46 (0, 0)) ∧ fs.length ≤ cap ∧ cap ≤ 9223372036854775807 ∧ off + cap * 5 ≤ cur.length ∧ ∀ j u, (cO fs)[j]? = some u → cur[off + j]? = some u
theorem FO.fr {S : Nat → Prop} {w w' : World} {β : Option Nat} {v : Value} {fs : List OpE} (h : FO w β v fs) (hF : Fr S w w') (hS : ∀ g, β = some g → ¬ S g) : FO w' β v fs := by
  cases β with
  | none => exact h
  | some g =>
    obtain ⟨off, cap, cur, h1, h2, h3⟩ := h
    exact ⟨off, cap, cur, h1, hF.keeps h2 (hS g rfl), h3⟩
theorem FO.lt {w : World} {β : Option Nat} {v : Value} {fs : List OpE} (h : FO w β v fs) : ∀ g, β = some g → g < w.heap.size := by
  rintro g rfl
  obtain ⟨off, cap, cur, h1, h2, h3⟩ := h
  exact block_lt h2
theorem FO.is {w : World} {β : Option Nat} {v : Value} {fs : List OpE} (h : FO w β v fs) : ∃ a c, v = .slice a fs.length c ∧ IsO w a fs.length c fs := by
  cases β with
  | none =>
    obtain ⟨rfl, rfl⟩ := h
    exact ⟨none, 0, rfl, rfl, by simp, by omega, fun h => by simp at h⟩
  | some g =>
    obtain ⟨off, cap, cur, rfl, h2, h3, h4, h5, h6⟩ := h
    refine ⟨_, cap, rfl, rfl, h3, h4, fun _ => ⟨g, off, rfl, block_lt h2, fun j u hj => ?_⟩⟩
    rw [cell_row h2]
    simpa using h6 j u hj
theorem FO.of_own {w : World} {base : Nat} {v : Value} {fs : List OpE} (h : OwnO w base v fs) : ∃ g, base ≤ g ∧ FO w (some g) v fs := by
  obtain ⟨g, c, h1, rfl, h3⟩ := h
  refine ⟨g, h1, 0, c, ?_⟩
  obtain ⟨cur, k1, k2, k3, k4, k5, k6⟩ := h3
  refine ⟨cur, rfl, k1, k4, k5, by rw [k6]; omega, fun j u hj => ?_⟩
  rw [← k2] at hj
  have hjl := (List.getElem?_eq_some_iff.1 hj).1
  rw [List.length_take] at hjl
  rw [List.getElem?_take, if_pos (by omega)] at hj
  rw [Nat.zero_add]
  exact hj

/-- The first form taken away: the slice begins one later (or, where no room is left, where it did). -/
theorem FO.tail {w : World} {β : Option Nat} {x : OpE} {fs : List OpE} {a : Option Addr} {n c : Nat} (h : FO w β (.slice a n c) (x :: fs)) : ∃ g off, β = some g ∧ a = some ⟨g, off, none⟩ ∧ n = fs.length + 1 ∧ 1 ≤ c ∧ c ≤ 9223372036854775807 ∧ fs.length + 1 ≤ c ∧
    (c = 1 → FO w β (.slice (some ⟨g, off, none⟩) fs.length 0) fs) ∧ FO w β (.slice (some ⟨g, off + 5, none⟩) fs.length (c - 1)) fs := by
  cases β with
  | none => obtain ⟨-, h⟩ := h; cases h
  | some g =>
    obtain ⟨off, cap, cur, hv, h2, h3, h4, h5, h6⟩ := h
    obtain ⟨rfl, rfl, rfl⟩ : a = some ⟨g, off, none⟩ ∧ n = fs.length + 1 ∧ c = cap := by simpa using hv
    simp only [List.length_cons] at h3
    refine ⟨g, off, rfl, rfl, rfl, by omega, h4, h3, fun hc => ⟨off, 0, cur, ?_, h2, by omega, by omega, by omega, fun j u hj => ?_⟩, ⟨off + 5, c - 1, cur, rfl, h2, by omega, by omega, by omega, fun j u hj => ?_⟩⟩
    · rfl
    · have : fs = [] := List.length_eq_zero_iff.1 (by omega)
      subst this
      simp [cO] at hj
    · have := h6 (5 + j) u (by
        rw [cO_cons, List.getElem?_append_right (by simp [opc])]
        simpa [opc] using hj)
      rw [← Nat.add_assoc] at this
      exact this

theorem setCells_row {g : Nat} {t : TypeId} : ∀ (vs : List Value) (o : Nat) (w : World) (cur : Array Value), w.heap[g]? = some (.cells cur t (0, 0)) → ∃ cur' : Array Value, (w.setCells g o vs).heap[g]? = some (.cells cur' t (0, 0)) ∧ cur'.size = cur.size ∧ (∀ j, j < vs.length → o + j < cur.size → cur'[o + j]? = vs[j]?) ∧ (∀ j, j < o → cur'[j]? = cur[j]?) ∧ Fr (· = g) w (w.setCells g o vs)
  | [], o, w, cur, h => ⟨cur, h, rfl, fun j hj => by simp at hj, fun j _ => rfl, Fr.refl _ _⟩
  | v :: r, o, w, cur, h => by
    obtain ⟨cur', h1, h2, h3, h4, h5⟩ := setCells_row r (o + 1) (w.setCell ⟨g, o, none⟩ v) (cur.setIfInBounds o v) (set_row h o v)
    refine ⟨cur', h1, by rw [h2]; simp, fun j hj hl => ?_, fun j hj => ?_, (Fr.setCell (S := (· = g)) w ⟨g, o, none⟩ v rfl).trans h5⟩
    · cases j with
      | zero =>
        rw [Nat.add_zero, h4 o (by omega), Array.getElem?_setIfInBounds_self_of_lt (by omega)]
        rfl
      | succ j =>
        have := h3 j (by simpa using hj) (by simp; omega)
        rw [show o + (j + 1) = o + 1 + j by omega, this]
        rfl
    · rw [h4 j (by omega), Array.getElem?_setIfInBounds_ne (by omega)]

/-- append of one form. -/
theorem FO.push {w : World} {β : Option Nat} {v : Value} {fs : List OpE} (h : FO w β v fs) (x : OpE) (b : Nat) (hb : w.heap[b]? = some (.cells (opc x).toArray 46 (0, 0))) (hn : fs.length ≤ 1000000) :
    ∃ v' w' g', (∀ ty, (Builtin.append_ #[24, 24] ty #[v, .slice (some ⟨b, 0, none⟩) 1 1]).run Tryz.prog w = .ok v' w') ∧ FO w' (some g') v' (fs ++ [x]) ∧ ((β = some g' ∧ Fr (· = g') w w') ∨ (g' = w.heap.size ∧ Fr (fun _ => False) w w')) := by
  obtain ⟨i0, hi0, hz0, hz1, hz2⟩ : ∃ i0, Tryz.prog.info? 46 = some i0 ∧ i0.zero = some (.agg #[.int .i64 0, .int .i64 0, .int .u8 0, .int .i64 0, .int .i64 0]) ∧ i0.size = 5 ∧ i0.bytes = 40 := by
    cases hq : Tryz.prog.info? 46 with
    | none => have := Tryz.infoO; rw [hq] at this; cases this
    | some i =>
      have h := Tryz.infoO
      rw [hq] at h
      simp only [Option.map_some, Option.some.injEq, Prod.mk.injEq] at h
      exact ⟨i, rfl, h.1, h.2.1, h.2.2⟩
  have hn1 : ∀ j u, (opc x)[j]? = some u → w.cell? ((⟨b, 0, none⟩ : Addr).add j) = some u := fun j u hj => by
    rw [add_lit, cell_row hb, Nat.zero_add, List.getElem?_toArray]
    exact hj
  have h1c : ∀ u ∈ opc x, u.oneCell' = true := fun u hu => cO_one' [x] u (by rw [cO_one]; exact hu)
  have hlm : (opc x).length = 1 * i0.size := by rw [hz1]; rfl
  have newFO : ∀ G, fs.length + 1 ≤ G → G ≤ 9223372036854775807 → FO (w.drew.alloc (.cells ((cO fs).toArray ++ (opc x).toArray ++ Builtin.zeroCells (Value.agg #[.int .i64 0, .int .i64 0, .int .u8 0, .int .i64 0, .int .i64 0]).cells (G - (fs.length + 1))) 46)) (some w.heap.size) (.slice (some ⟨w.heap.size, 0, none⟩) (fs.length + 1) G) (fs ++ [x]) := by
    intro G h1 h2
    refine ⟨0, G, ((cO fs).toArray ++ (opc x).toArray ++ Builtin.zeroCells (Value.agg #[.int .i64 0, .int .i64 0, .int .u8 0, .int .i64 0, .int .i64 0]).cells (G - (fs.length + 1))).toList, by simp, ?_, by simpa using h1, h2, ?_, fun j u hj => ?_⟩
    · rw [show w.heap.size = w.drew.heap.size from rfl, heap_alloc_new]
    · rw [Array.toList_append, Array.toList_append, List.length_append, List.length_append, List.toList_toArray, List.toList_toArray, cO_len, Array.length_toList (xs := Builtin.zeroCells _ _), size_zeroCells]
      simp only [opc, List.length_cons, List.length_nil, show (Value.agg #[.int .i64 0, .int .i64 0, .int .u8 0, .int .i64 0, .int .i64 0]).cells.size = 5 from rfl]
      omega
    · rw [Array.toList_append, Array.toList_append, List.toList_toArray, List.toList_toArray, Nat.zero_add]
      rw [cO_app, cO_one] at hj
      rw [List.getElem?_append_left (List.getElem?_eq_some_iff.1 hj).1]
      exact hj
  have newfr : ∀ o, Fr (fun _ => False) w (w.drew.alloc o) := fun o => (Fr.drew _ w).trans (Fr.alloc _ _ _)
  cases β with
  | none =>
    obtain ⟨rfl, rfl⟩ := h
    have hr := fun ty => run_append_nil (P := Tryz.prog) w 24 ty 46 i0 _ Tryz.underlying24 hi0 hz0 ⟨b, 0, none⟩ 1 1 (opc x) hlm hn1 (by omega) (by omega) (by rw [hz2]; omega)
    have hG1 := grownCap_ge w 1 0 46
    have hG2 := grownCap_le_maxLen w 1 0 46 (by unfold maxLen; omega)
    generalize grownCap w 1 0 46 = G at hr hG1 hG2
    refine ⟨_, _, w.heap.size, hr, ?_, .inr ⟨rfl, newfr _⟩⟩
    have := newFO G (by simpa using hG1) hG2
    simpa [cO] using this
  | some g =>
    obtain ⟨off, cap, cur, rfl, h2, h3, h4, h5, h6⟩ := h
    by_cases hroom : fs.length + 1 ≤ cap
    · have hr := fun ty => run_append_room_cells (P := Tryz.prog) w 24 ty 46 i0 Tryz.underlying24 hi0 g off fs.length cap ⟨b, 0, none⟩ 1 1 (opc x) hlm hn1 h1c hroom (fun j hj => by
        rw [cell_row h2, hz1]
        have : off + fs.length * 5 + j < cur.length := by simp [opc] at hj; omega
        simp [this]) (fun j hj => frozen_row h2 _)
      rw [hz1] at hr
      refine ⟨_, _, g, hr, ?_, .inl ⟨rfl, ?_⟩⟩
      · obtain ⟨cur', k1, k2, k3, k4, -⟩ := setCells_row (opc x) (off + fs.length * 5) w cur.toArray h2
        refine ⟨off, cap, cur'.toList, by simp, by simpa using k1, by simpa using hroom, h4, by simpa [k2] using h5, fun j u hj => ?_⟩
        rw [cO_app, cO_one] at hj
        by_cases hlt : j < (cO fs).length
        · rw [List.getElem?_append_left hlt] at hj
          rw [cO_len] at hlt
          have := k4 (off + j) (by omega)
          rw [Array.getElem?_toList, this, List.getElem?_toArray]
          exact h6 j u hj
        · rw [List.getElem?_append_right (by omega)] at hj
          have hjl := (List.getElem?_eq_some_iff.1 hj).1
          rw [cO_len] at hj hlt hjl
          have h5' : (opc x).length = 5 := rfl
          have := k3 (j - fs.length * 5) hjl (by simp; omega)
          rw [show off + fs.length * 5 + (j - fs.length * 5) = off + j by omega] at this
          rw [Array.getElem?_toList, this]
          exact hj
      · exact (setCells_row (opc x) (off + fs.length * 5) w cur.toArray h2).elim fun _ h => h.2.2.2.2
    · have hr := fun ty => run_append_grow (P := Tryz.prog) w 24 ty 46 i0 _ Tryz.underlying24 hi0 hz0 ⟨g, off, none⟩ fs.length cap (cO fs) (by rw [cO_len, hz1]) (fun j u hj => by
        rw [add_lit, cell_row h2, List.getElem?_toArray]
        exact h6 j u hj) ⟨b, 0, none⟩ 1 1 (opc x) hlm hn1 (by omega) (by omega) (by
          rw [hz2]
          exact growslice_fits_wide (by omega) (by omega))
      have hG1 := grownCap_ge w (fs.length + 1) cap 46
      have hG2 := grownCap_le_maxLen w (fs.length + 1) cap 46 (by unfold maxLen; omega)
      generalize grownCap w (fs.length + 1) cap 46 = G at hr hG1 hG2
      exact ⟨_, _, w.heap.size, hr, newFO G hG1 hG2, .inr ⟨rfl, newfr _⟩⟩

/-- The done form that is next. -/
theorem FO.nth {w : World} {β : Option Nat} {a : Option Addr} {n cp i : Nat} {fs : List OpE} (h : FO w β (.slice a n cp) fs) (hi : i < fs.length) : ∃ g off, a = some ⟨g, off, none⟩ ∧ n = fs.length ∧ n ≤ cp ∧ cp ≤ 9223372036854775807 ∧ g < w.heap.size ∧
    w.cell? ⟨g, off + i * 5, none⟩ = some (.int .i64 fs[i].kind) ∧ w.cell? ⟨g, off + i * 5 + 1, none⟩ = some (.int .i64 fs[i].pos) ∧ w.cell? ⟨g, off + i * 5 + 2, none⟩ = some (.int .u8 fs[i].ch) ∧ w.cell? ⟨g, off + i * 5 + 3, none⟩ = some (.int .i64 fs[i].cl) ∧ w.cell? ⟨g, off + i * 5 + 4, none⟩ = some (.int .i64 fs[i].sq) := by
  cases β with
  | none => obtain ⟨-, h⟩ := h; subst h; simp at hi
  | some g =>
    obtain ⟨off, cap, cur, hv, h2, h3, h4, h5, h6⟩ := h
    obtain ⟨rfl, rfl, rfl⟩ : a = some ⟨g, off, none⟩ ∧ n = fs.length ∧ cp = cap := by simpa using hv
    have hz : Sz opc 5 := fun o => ⟨rfl, fun v hv => cO_one' [o] v (by rw [cO_one]; exact hv)⟩
    have hc : ∀ j u, j < 5 → (opc fs[i])[j]? = some u → w.cell? ⟨g, off + (i * 5 + j), none⟩ = some u := fun j u hj5 hj => by
      rw [cell_row h2, List.getElem?_toArray]
      refine h6 _ u ?_
      have := cl_get hz fs i j hi hj5
      rw [hj] at this
      exact this
    simp only [← Nat.add_assoc] at hc
    exact ⟨g, off, rfl, rfl, h3, h4, block_lt h2, hc 0 _ (by omega) rfl, hc 1 _ (by omega) rfl, hc 2 _ (by omega) rfl, hc 3 _ (by omega) rfl, hc 4 _ (by omega) rfl⟩
/-- The first form, to be read. -/
theorem FO.head {w : World} {β : Option Nat} {x : OpE} {fs : List OpE} {a : Option Addr} {n cp : Nat} (h : FO w β (.slice a n cp) (x :: fs)) : ∃ g off, a = some ⟨g, off, none⟩ ∧ n = fs.length + 1 ∧ fs.length + 1 ≤ cp ∧ cp ≤ 9223372036854775807 ∧ g < w.heap.size ∧
    w.cell? ⟨g, off, none⟩ = some (.int .i64 x.kind) ∧ w.cell? ⟨g, off + 1, none⟩ = some (.int .i64 x.pos) ∧ w.cell? ⟨g, off + 2, none⟩ = some (.int .u8 x.ch) ∧ w.cell? ⟨g, off + 3, none⟩ = some (.int .i64 x.cl) ∧ w.cell? ⟨g, off + 4, none⟩ = some (.int .i64 x.sq) := by
  cases β with
  | none => obtain ⟨-, h⟩ := h; cases h
  | some g =>
    obtain ⟨off, cap, cur, hv, h2, h3, h4, h5, h6⟩ := h
    obtain ⟨rfl, rfl, rfl⟩ : a = some ⟨g, off, none⟩ ∧ n = fs.length + 1 ∧ cp = cap := by simpa using hv
    have hc : ∀ j u, (opc x)[j]? = some u → w.cell? ⟨g, off + j, none⟩ = some u := fun j u hj => by
      rw [cell_row h2, List.getElem?_toArray]
      refine h6 j u ?_
      rw [cO_cons, List.getElem?_append_left (List.getElem?_eq_some_iff.1 hj).1]
      exact hj
    exact ⟨g, off, rfl, rfl, by simpa using h3, h4, block_lt h2, hc 0 _ rfl, hc 1 _ rfl, hc 2 _ rfl, hc 3 _ rfl, hc 4 _ rfl⟩
theorem FO.blk {w : World} {g : Nat} {v : Value} {fs : List OpE} (h : FO w (some g) v fs) : ∃ cs, w.heap[g]? = some (.cells cs 46 (0, 0)) := by
  obtain ⟨off, cap, cur, -, h2, -⟩ := h
  exact ⟨_, h2⟩

end Go.Proofs.YtilidolbplglcaaGreatDoor

/-! Wc -/
namespace Go.Proofs.YtilidolbplglcaaGreatDoor
open Go.RowKit
set_option linter.unusedVariables false

set_option maxHeartbeats 4000000 in
theorem acts_no (k p c q s : Int) (w : World) (hk : rowP k = 0) : Calls Tryz.prog 72 #[.agg #[.int .i64 k, .int .i64 p, .int .u8 c, .int .i64 q, .int .i64 s]] w fun e w' =>
    e = .returned (.bool false) ∧ Below w.heap.size w w' := by
  have := rowP_zero hk
  have b1 : (k == 1) = false := by simp; omega
  have b2 : (k == 2) = false := by simp; omega
  clear this hk
  go_enter Tryz.func72, Tryz.ntmps72
  go_wp2
  go_ret
  exact ⟨rfl, (Below.refl _ _).alloc (Nat.le_refl _) _⟩

theorem acts_1 (p c q s : Int) (w : World) : Calls Tryz.prog 72 #[.agg #[.int .i64 1, .int .i64 p, .int .u8 c, .int .i64 q, .int .i64 s]] w fun e w' =>
    e = .returned (.bool true) ∧ Below w.heap.size w w' := by
  go_enter Tryz.func72, Tryz.ntmps72
  go_wp2
  go_ret
  exact ⟨rfl, (Below.refl _ _).alloc (Nat.le_refl _) _⟩
theorem acts_2 (p c q s : Int) (w : World) : Calls Tryz.prog 72 #[.agg #[.int .i64 2, .int .i64 p, .int .u8 c, .int .i64 q, .int .i64 s]] w fun e w' =>
    e = .returned (.bool true) ∧ Below w.heap.size w w' := by
  go_enter Tryz.func72, Tryz.ntmps72
  go_wp2
  go_ret
  exact ⟨rfl, (Below.refl _ _).alloc (Nat.le_refl _) _⟩

def aheadP (k' p' k p : Int) (f : Bool) : Bool := if p' = p then (if k' = 1 ∧ k = 1 then !f else decide (k' = 1 ∧ k = 2)) else decide (p' < p)

set_option maxHeartbeats 4000000 in
theorem ahead_any (k' p' c' q' s' k p c q s : Int) (f : Bool) (w : World) (hk : k = 1 ∨ k = 2) (hk' : k' = 1 ∨ k' = 2) : Calls Tryz.prog 73 #[.agg #[.int .i64 k', .int .i64 p', .int .u8 c', .int .i64 q', .int .i64 s'], .agg #[.int .i64 k, .int .i64 p, .int .u8 c, .int .i64 q, .int .i64 s], .bool f] w fun e w' =>
    e = .returned (.bool (aheadP k' p' k p f)) ∧ Below w.heap.size w w' := by
  by_cases he : p' = p
  · subst he
    rcases hk with rfl | rfl <;> rcases hk' with rfl | rfl <;>
    · simp only [aheadP, if_true]
      go_enter Tryz.func73, Tryz.ntmps73
      go_wp2
      go_ret
      exact ⟨rfl, ((Below.refl _ _).alloc (Nat.le_refl _) _).alloc (by simp) _⟩
  · have he' : (p' != p) = true := by simpa using he
    have H : aheadP k' p' k p f = decide (p' < p) := by simp [aheadP, he]
    rw [H]
    clear he hk hk' H
    go_enter Tryz.func73, Tryz.ntmps73
    go_wp2
    go_ret
    exact ⟨rfl, ((Below.refl _ _).alloc (Nat.le_refl _) _).alloc (by simp) _⟩

end Go.Proofs.YtilidolbplglcaaGreatDoor
