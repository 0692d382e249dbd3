/-
  Texts put together: Lc Ig Ih.
-/
import Derived.Test.YtfhghijefjhehaaGreatDoorMNb
import Derived.Test.YtfhghijefjhehaaGreatDoorMHg
import Derived.ArgAppend
import Derived.Deep.RegionHeld3
/-! Lc -/
namespace Go.Proofs.YtfhghijefjhehaaGreatDoor
open Go.RowKit
set_option linter.unusedVariables false

/-- nil, or a part of the row at block g, all of which is its own. -/
def FO (w : World) (β : Option Nat) (v : Value) (fs : List OpE) : Prop :=
  match β with
  | none => v = .slice none 0 0 ∧ fs = []
  | some g => ∃ off cap, ∃ cur : List Value, v = .slice (some ⟨g, off, none⟩) fs.length cap ∧ w.heap[g]? = some (.cells cur.toArray 69 (0, 0)) ∧ fs.length ≤ cap ∧ cap ≤ 9223372036854775807 ∧ off + cap * 5 ≤ cur.length ∧ ∀ j u, (cO fs)[j]? = some u → cur[off + j]? = some u
theorem FO.fr {S : Nat → Prop} {w w' : World} {β : Option Nat} {v : Value} {fs : List OpE} (h : FO w β v fs) (hF : Fr S w w') (hS : ∀ g, β = some g → ¬ S g) : FO w' β v fs := by
  cases β with
  | none => exact h
  | some g =>
    obtain ⟨off, cap, cur, h1, h2, h3⟩ := h
    exact ⟨off, cap, cur, h1, hF.keeps h2 (hS g rfl), h3⟩
theorem FO.lt {w : World} {β : Option Nat} {v : Value} {fs : List OpE} (h : FO w β v fs) : ∀ g, β = some g → g < w.heap.size := by
  rintro g rfl
  obtain ⟨off, cap, cur, h1, h2, h3⟩ := h
  exact block_lt h2
theorem FO.is {w : World} {β : Option Nat} {v : Value} {fs : List OpE} (h : FO w β v fs) : ∃ a c, v = .slice a fs.length c ∧ IsO w a fs.length c fs := by
  cases β with
  | none =>
    obtain ⟨rfl, rfl⟩ := h
    exact ⟨none, 0, rfl, rfl, by simp, by omega, fun h => by simp at h⟩
  | some g =>
    obtain ⟨off, cap, cur, rfl, h2, h3, h4, h5, h6⟩ := h
    refine ⟨_, cap, rfl, rfl, h3, h4, fun _ => ⟨g, off, rfl, block_lt h2, fun j u hj => ?_⟩⟩
    rw [cell_row h2]
    simpa using h6 j u hj
theorem FO.of_own {w : World} {base : Nat} {v : Value} {fs : List OpE} (h : OwnO w base v fs) : ∃ g, base ≤ g ∧ FO w (some g) v fs := by
  obtain ⟨g, c, h1, rfl, h3⟩ := h
  refine ⟨g, h1, 0, c, ?_⟩
  obtain ⟨cur, k1, k2, k3, k4, k5, k6⟩ := h3
  refine ⟨cur, rfl, k1, k4, k5, by rw [k6]; omega, fun j u hj => ?_⟩
  rw [← k2] at hj
  have hjl := (List.getElem?_eq_some_iff.1 hj).1
  rw [List.length_take] at hjl
  rw [List.getElem?_take, if_pos (by omega)] at hj
  rw [Nat.zero_add]
  exact hj

/-- The first form taken away: the slice begins one later (or, where no room is left, where it did). -/
theorem FO.tail {w : World} {β : Option Nat} {x : OpE} {fs : List OpE} {a : Option Addr} {n c : Nat} (h : FO w β (.slice a n c) (x :: fs)) : ∃ g off, β = some g ∧ a = some ⟨g, off, none⟩ ∧ n = fs.length + 1 ∧ 1 ≤ c ∧ c ≤ 9223372036854775807 ∧ fs.length + 1 ≤ c ∧
    (c = 1 → FO w β (.slice (some ⟨g, off, none⟩) fs.length 0) fs) ∧ FO w β (.slice (some ⟨g, off + 5, none⟩) fs.length (c - 1)) fs := by
  cases β with
  | none => obtain ⟨-, h⟩ := h; cases h
  | some g =>
    obtain ⟨off, cap, cur, hv, h2, h3, h4, h5, h6⟩ := h
    obtain ⟨rfl, rfl, rfl⟩ : a = some ⟨g, off, none⟩ ∧ n = fs.length + 1 ∧ c = cap := by simpa using hv
    simp only [List.length_cons] at h3
    refine ⟨g, off, rfl, rfl, rfl, by omega, h4, h3, fun hc => ⟨off, 0, cur, ?_, h2, by omega, by omega, by omega, fun j u hj => ?_⟩, ⟨off + 5, c - 1, cur, rfl, h2, by omega, by omega, by omega, fun j u hj => ?_⟩⟩
    · rfl
    · have : fs = [] := List.length_eq_zero_iff.1 (by omega)
      subst this
      simp [cO] at hj
    · have := h6 (5 + j) u (by
        rw [cO_cons, List.getElem?_append_right (by simp [opc])]
        simpa [opc] using hj)
      rw [← Nat.add_assoc] at this
      exact this

theorem setCells_row {g : Nat} {t : TypeId} : ∀ (vs : List Value) (o : Nat) (w : World) (cur : Array Value), w.heap[g]? = some (.cells cur t (0, 0)) → ∃ cur' : Array Value, (w.setCells g o vs).heap[g]? = some (.cells cur' t (0, 0)) ∧ cur'.size = cur.size ∧ (∀ j, j < vs.length → o + j < cur.size → cur'[o + j]? = vs[j]?) ∧ (∀ j, j < o → cur'[j]? = cur[j]?) ∧ Fr (· = g) w (w.setCells g o vs)
  | [], o, w, cur, h => ⟨cur, h, rfl, fun j hj => by simp at hj, fun j _ => rfl, Fr.refl _ _⟩
  | v :: r, o, w, cur, h => by
    obtain ⟨cur', h1, h2, h3, h4, h5⟩ := setCells_row r (o + 1) (w.setCell ⟨g, o, none⟩ v) (cur.setIfInBounds o v) (set_row h o v)
    refine ⟨cur', h1, by rw [h2]; simp, fun j hj hl => ?_, fun j hj => ?_, (Fr.setCell (S := (· = g)) w ⟨g, o, none⟩ v rfl).trans h5⟩
    · cases j with
      | zero =>
        rw [Nat.add_zero, h4 o (by omega), Array.getElem?_setIfInBounds_self_of_lt (by omega)]
        rfl
      | succ j =>
        have := h3 j (by simpa using hj) (by simp; omega)
        rw [show o + (j + 1) = o + 1 + j by omega, this]
        rfl
    · rw [h4 j (by omega), Array.getElem?_setIfInBounds_ne (by omega)]

/-- append of one form. -/
theorem FO.push {w : World} {β : Option Nat} {v : Value} {fs : List OpE} (h : FO w β v fs) (x : OpE) (b : Nat) (hb : w.heap[b]? = some (.cells (opc x).toArray 69 (0, 0))) (hn : fs.length ≤ 1000000) :
    ∃ v' w' g', (∀ ty, (Builtin.append_ #[63, 63] ty #[v, .slice (some ⟨b, 0, none⟩) 1 1]).run Tryz.prog w = .ok v' w') ∧ FO w' (some g') v' (fs ++ [x]) ∧ ((β = some g' ∧ Fr (· = g') w w') ∨ (g' = w.heap.size ∧ Fr (fun _ => False) w w')) := by
  obtain ⟨i0, hi0, hz0, hz1, hz2⟩ : ∃ i0, Tryz.prog.info? 69 = some i0 ∧ i0.zero = some (.agg #[.int .i64 0, .int .i64 0, .int .u8 0, .int .i64 0, .int .i64 0]) ∧ i0.size = 5 ∧ i0.bytes = 40 := by
    cases hq : Tryz.prog.info? 69 with
    | none => have := Tryz.infoO; rw [hq] at this; cases this
    | some i =>
      have h := Tryz.infoO
      rw [hq] at h
      simp only [Option.map_some, Option.some.injEq, Prod.mk.injEq] at h
      exact ⟨i, rfl, h.1, h.2.1, h.2.2⟩
  have hn1 : ∀ j u, (opc x)[j]? = some u → w.cell? ((⟨b, 0, none⟩ : Addr).add j) = some u := fun j u hj => by
    rw [add_lit, cell_row hb, Nat.zero_add, List.getElem?_toArray]
    exact hj
  have h1c : ∀ u ∈ opc x, u.oneCell' = true := fun u hu => cO_one' [x] u (by rw [cO_one]; exact hu)
  have hlm : (opc x).length = 1 * i0.size := by rw [hz1]; rfl
  have newFO : ∀ G, fs.length + 1 ≤ G → G ≤ 9223372036854775807 → FO (w.drew.alloc (.cells ((cO fs).toArray ++ (opc x).toArray ++ Builtin.zeroCells (Value.agg #[.int .i64 0, .int .i64 0, .int .u8 0, .int .i64 0, .int .i64 0]).cells (G - (fs.length + 1))) 69)) (some w.heap.size) (.slice (some ⟨w.heap.size, 0, none⟩) (fs.length + 1) G) (fs ++ [x]) := by
    intro G h1 h2
    refine ⟨0, G, ((cO fs).toArray ++ (opc x).toArray ++ Builtin.zeroCells (Value.agg #[.int .i64 0, .int .i64 0, .int .u8 0, .int .i64 0, .int .i64 0]).cells (G - (fs.length + 1))).toList, by simp, ?_, by simpa using h1, h2, ?_, fun j u hj => ?_⟩
    · rw [show w.heap.size = w.drew.heap.size from rfl, heap_alloc_new]
    · rw [Array.toList_append, Array.toList_append, List.length_append, List.length_append, List.toList_toArray, List.toList_toArray, cO_len, Array.length_toList (xs := Builtin.zeroCells _ _), size_zeroCells]
      simp only [opc, List.length_cons, List.length_nil, show (Value.agg #[.int .i64 0, .int .i64 0, .int .u8 0, .int .i64 0, .int .i64 0]).cells.size = 5 from rfl]
      omega
    · rw [Array.toList_append, Array.toList_append, List.toList_toArray, List.toList_toArray, Nat.zero_add]
      rw [cO_app, cO_one] at hj
      rw [List.getElem?_append_left (List.getElem?_eq_some_iff.1 hj).1]
      exact hj
  have newfr : ∀ o, Fr (fun _ => False) w (w.drew.alloc o) := fun o => (Fr.drew _ w).trans (Fr.alloc _ _ _)
  cases β with
  | none =>
    obtain ⟨rfl, rfl⟩ := h
    have hr := fun ty => run_append_nil (P := Tryz.prog) w 63 ty 69 i0 _ Tryz.underlying63 hi0 hz0 ⟨b, 0, none⟩ 1 1 (opc x) hlm hn1 (by omega) (by omega) (by rw [hz2]; omega)
    have hG1 := grownCap_ge w 1 0 69
    have hG2 := grownCap_le_maxLen w 1 0 69 (by unfold maxLen; omega)
    generalize grownCap w 1 0 69 = G at hr hG1 hG2
    refine ⟨_, _, w.heap.size, hr, ?_, .inr ⟨rfl, newfr _⟩⟩
    have := newFO G (by simpa using hG1) hG2
    simpa [cO] using this
  | some g =>
    obtain ⟨off, cap, cur, rfl, h2, h3, h4, h5, h6⟩ := h
    by_cases hroom : fs.length + 1 ≤ cap
    · have hr := fun ty => run_append_room_cells (P := Tryz.prog) w 63 ty 69 i0 Tryz.underlying63 hi0 g off fs.length cap ⟨b, 0, none⟩ 1 1 (opc x) hlm hn1 h1c hroom (fun j hj => by
        rw [cell_row h2, hz1]
        have : off + fs.length * 5 + j < cur.length := by simp [opc] at hj; omega
        simp [this]) (fun j hj => frozen_row h2 _)
      rw [hz1] at hr
      refine ⟨_, _, g, hr, ?_, .inl ⟨rfl, ?_⟩⟩
      · obtain ⟨cur', k1, k2, k3, k4, -⟩ := setCells_row (opc x) (off + fs.length * 5) w cur.toArray h2
        refine ⟨off, cap, cur'.toList, by simp, by simpa using k1, by simpa using hroom, h4, by simpa [k2] using h5, fun j u hj => ?_⟩
        rw [cO_app, cO_one] at hj
        by_cases hlt : j < (cO fs).length
        · rw [List.getElem?_append_left hlt] at hj
          rw [cO_len] at hlt
          have := k4 (off + j) (by omega)
          rw [Array.getElem?_toList, this, List.getElem?_toArray]
          exact h6 j u hj
        · rw [List.getElem?_append_right (by omega)] at hj
          have hjl := (List.getElem?_eq_some_iff.1 hj).1
          rw [cO_len] at hj hlt hjl
          have h5' : (opc x).length = 5 := rfl
          have := k3 (j - fs.length * 5) hjl (by simp; omega)
          rw [show off + fs.length * 5 + (j - fs.length * 5) = off + j by omega] at this
          rw [Array.getElem?_toList, this]
          exact hj
      · exact (setCells_row (opc x) (off + fs.length * 5) w cur.toArray h2).elim fun _ h => h.2.2.2.2
    · have hr := fun ty => run_append_grow (P := Tryz.prog) w 63 ty 69 i0 _ Tryz.underlying63 hi0 hz0 ⟨g, off, none⟩ fs.length cap (cO fs) (by rw [cO_len, hz1]) (fun j u hj => by
        rw [add_lit, cell_row h2, List.getElem?_toArray]
        exact h6 j u hj) ⟨b, 0, none⟩ 1 1 (opc x) hlm hn1 (by omega) (by omega) (by
          rw [hz2]
          exact growslice_fits_wide (by omega) (by omega))
      have hG1 := grownCap_ge w (fs.length + 1) cap 69
      have hG2 := grownCap_le_maxLen w (fs.length + 1) cap 69 (by unfold maxLen; omega)
      generalize grownCap w (fs.length + 1) cap 69 = G at hr hG1 hG2
      exact ⟨_, _, w.heap.size, hr, newFO G hG1 hG2, .inr ⟨rfl, newfr _⟩⟩

end Go.Proofs.YtfhghijefjhehaaGreatDoor

/-! Ig -/
namespace Go.Proofs.YtfhghijefjhehaaGreatDoor
open Go.RowKit
set_option linter.unusedVariables false

section
variable {P : Program} {md : Region.Mode} {ops : Array Oper} {Q : Exit → Act → World → Prop}

theorem count_set {l : List Bool} : ∀ {i : Nat}, l[i]? = some false → (l.set i true).count false + 1 = l.count false := by
  induction l with
  | nil => intro i h; simp at h
  | cons b l ih =>
    intro i h
    cases i with
    | zero =>
      simp at h
      subst h
      simp
    | succ i =>
      have := ih (i := i) (by simpa using h)
      simp only [List.set_cons_succ, List.count_cons]
      omega

theorem getD_false {a : Array Bool} {i : Nat} (h : a.getD i true = false) : a.toList[i]? = some false ∧ i < a.size := by
  by_cases hi : i < a.size
  · refine ⟨?_, hi⟩
    simp [Array.getD, hi] at h
    simp [hi, h]
  · simp [Array.getD, hi] at h

/-- Whatever the order: an assertion on what has come up so far, kept by each operation. -/
theorem wpAny_inv (I : Array Bool → Act → World → Prop)
    (hs : ∀ listed a w (i : Nat) (o : Oper), I listed a w → ops[i]? = some o → listed.getD i true = false → (∀ e ∈ o.after, Region.binds md e = true → listed.getD e.on false = true) → wpOp P ops Q i (I (listed.setIfInBounds i true)) a w)
    (he : ∀ listed a w, I listed a w → (∀ (i : Nat) (o : Oper), ops[i]? = some o → listed.getD i true = false → ¬ (∀ e ∈ o.after, Region.binds md e = true → listed.getD e.on false = true)) → Q .normal a w) :
    ∀ fuel listed a w, listed.toList.count false ≤ fuel → I listed a w → wpAny P md ops Q fuel listed a w := by
  have hend : ∀ listed a w, I listed a w → Region.ready md ops listed = [] → Q .normal a w := fun listed a w hI hr => he listed a w hI fun i o ho hu hall => by
    have : i ∈ Region.ready md ops listed := mem_ready.2 ⟨hu, o, ho, hall⟩
    rw [hr] at this
    cases this
  intro fuel
  induction fuel with
  | zero =>
    intro listed a w hc hI
    have hr : Region.ready md ops listed = [] := by
      cases h : Region.ready md ops listed with
      | nil => rfl
      | cons i l =>
        have hi : i ∈ Region.ready md ops listed := by rw [h]; simp
        have h1 := (getD_false (mem_ready.1 hi).1).1
        have h2 := count_set h1
        omega
    exact ⟨hr, hend _ _ _ hI hr⟩
  | succ fuel ih =>
    intro listed a w hc hI
    refine ⟨hend _ _ _ hI, fun i hi => ?_⟩
    obtain ⟨hu, o, ho, hall⟩ := mem_ready.1 hi
    refine wpOp_mono (fun a' w' h' => ih _ a' w' ?_ h') (hs listed a w i o hI ho hu hall)
    have h1 := count_set (getD_false hu).1
    rw [Array.toList_setIfInBounds]
    omega

/-- The region's operations in their order: each waits for earlier ones alone. -/
def Earlier (ops : Array Oper) : Prop := ∀ (i : Nat) (o : Oper), ops[i]? = some o → ∀ e ∈ o.after, Region.binds .any e = true → e.on < i

theorem all_listed (hT : Earlier ops) {listed : Array Bool} (hz : listed.size = ops.size)
    (h : ∀ (i : Nat) (o : Oper), ops[i]? = some o → listed.getD i true = false → ¬ (∀ e ∈ o.after, Region.binds .any e = true → listed.getD e.on false = true)) :
    ∀ i, i < ops.size → listed.getD i false = true := by
  intro i
  induction i using Nat.strongRecOn with
  | _ i ih =>
    intro hi
    have hl : i < listed.size := by omega
    cases hb : listed[i] with
    | true => simp [Array.getD, hl, hb]
    | false =>
      exfalso
      refine h i ops[i] (by simp [hi]) (by simp [Array.getD, hl, hb]) fun e he hb => ?_
      have h1 := hT i ops[i] (by simp [hi]) e he hb
      exact ih e.on h1 (by omega)

theorem wp_region_inv {id : Nat} {a : Act} {w : World} (hm : P.follows .mixedOrders = true) (hT : Earlier ops) (I : (Nat → Prop) → Act → World → Prop)
    (hs : ∀ (L L' : Nat → Prop) a w (i : Nat) (o : Oper), I L a w → ops[i]? = some o → ¬ L i → (∀ e ∈ o.after, Region.binds .any e = true → L e.on) → (∀ j, L' j ↔ (j = i ∨ L j)) → wpOp P ops Q i (I L') a w)
    (he : ∀ (L : Nat → Prop) a w, I L a w → (∀ i, i < ops.size → L i) → Q .normal a w)
    (h0 : ∀ L : Nat → Prop, (∀ i, ¬ L i) → I L a w.drew) : (Code.region id ops true).wp P Q a w := by
  refine wp_region_any hm (wpAny_inv (fun listed a w => listed.size = ops.size ∧ I (fun i => listed.getD i false = true) a w) ?_ ?_ ops.size _ a _ ?_ ⟨by simp, h0 _ ?_⟩)
  · rintro listed a w i o ⟨hz, hI⟩ ho hu hall
    have hi := (getD_false hu).2
    refine wpOp_mono (fun a' w' h' => ⟨by simpa using hz, h'⟩) (hs _ _ a w i o hI ho ?_ hall ?_)
    · simp [Array.getD, hi] at hu ⊢
      exact hu
    · intro j
      by_cases hj : j = i
      · subst hj
        simp [Array.getD, hi]
      · simp only [hj, false_or]
        have : (listed.setIfInBounds i true).getD j false = listed.getD j false := by
          rw [Array.getD_eq_getD_getElem?, Array.getD_eq_getD_getElem?, Array.getElem?_setIfInBounds_ne (Ne.symm hj)]
        rw [this]
  · rintro listed a w ⟨hz, hI⟩ h
    exact he _ a w hI (all_listed hT hz h)
  · simp
  · intro i
    by_cases hi : i < ops.size <;> simp [Array.getD, hi]
end

/-! ### The frame -/
theorem ev_ne (a : Act) {d t : Nat} (v : Value) (h : t ≠ d) : (a.put (some d) v).eval (.tmp t) = a.eval (.tmp t) :=
  Act.eval_put (fun d' hd' => by injection hd' with e; subst e; intro he; injection he with he; exact h he)
theorem ev_eq (a : Act) {d : Nat} (v : Value) (h : d < a.tmps.size) : (a.put (some d) v).eval (.tmp d) = v := by simp [Act.eval, Act.put, h]

/-- All but the slots of D is as it was. -/
structure Fe (a a' : Act) (D : List Nat) : Prop where
  df : a'.defers = a.defers
  sz : a'.tmps.size = a.tmps.size
  eq : ∀ j, j ∉ D → a'.tmps[j]? = a.tmps[j]?
theorem Fe.refl (a : Act) (D : List Nat) : Fe a a D := ⟨rfl, rfl, fun _ _ => rfl⟩
theorem Fe.put {a a' : Act} {D : List Nat} (h : Fe a a' D) {d : Nat} (hd : d ∈ D) (v : Value) : Fe a (a'.put (some d) v) D :=
  ⟨h.df, by simp [Act.put, h.sz], fun j hj => by
    have hn : d ≠ j := fun e => hj (e ▸ hd)
    simp only [Act.put]
    rw [Array.getElem?_setIfInBounds_ne hn]
    exact h.eq j hj⟩
theorem Fe.ev {a a' : Act} {D : List Nat} (h : Fe a a' D) {j : Nat} (hj : j ∉ D) : a'.eval (.tmp j) = a.eval (.tmp j) := by
  simp only [Act.eval, Array.getD_eq_getD_getElem?, h.eq j hj]

def puts (a : Act) (l : List (Nat × Value)) : Act := l.foldl (fun a p => a.put (some p.1) p.2) a
theorem Fe.puts : ∀ (l : List (Nat × Value)) (a a' : Act), Fe a a' (l.map (·.1)) → (∀ p ∈ l, p.1 < a.tmps.size ∧ a'.eval (.tmp p.1) = p.2) → a' = puts a l
  | [], a, a', h, _ => by
    obtain ⟨t', d'⟩ := a'
    obtain ⟨t, d⟩ := a
    have h1 : d' = d := h.df
    have h2 : t' = t := Array.ext_getElem? (fun i => h.eq i (by simp))
    subst h1 h2
    rfl
  | p :: l, a, a', h, hp => by
    refine Fe.puts l (a.put (some p.1) p.2) a' ⟨h.df, by simp [Act.put, h.sz], fun j hj => ?_⟩ (fun x hx => ⟨by simpa [Act.put] using (hp x (by simp [hx])).1, (hp x (by simp [hx])).2⟩)
    by_cases e : j = p.1
    · subst e
      obtain ⟨h1, h2⟩ := hp p (by simp)
      have h3 : p.1 < a'.tmps.size := by rw [h.sz]; exact h1
      simp [Act.eval, h3] at h2
      simp [Act.put, h1, h3, h2]
    · simp only [Act.put]
      rw [Array.getElem?_setIfInBounds_ne (Ne.symm e)]
      exact h.eq j (by simp [e, hj])

def opsAt (n : Nat) : Code → Option (Array Oper)
  | .region k ops _ => if k = n then some ops else none
  | .seq a b => (opsAt n a).orElse fun _ => opsAt n b
  | .block _ c => opsAt n c
  | .scope c => opsAt n c
  | .cond _ a b => (opsAt n a).orElse fun _ => opsAt n b
  | .loop c => opsAt n c
  | _ => none
section
variable {P : Program} {ops : Array Oper} {o : Oper} {a : Act} {w : World} {K : Act → World → Prop} {Q : Exit → Act → World → Prop} {i : Nat}

theorem fields {d : Option Tmp} {p : Op} (ho : ops[i]? = some o) (h : (ops[i]?).map (fun o => (o.dst, o.op, o.guard)) = some (d, p, none)) : o.dst = d ∧ o.op = p ∧ o.guard = none := by
  rw [ho] at h
  simpa using h
theorem dep {L : Nat → Prop} (ho : ops[i]? = some o) (hall : ∀ e ∈ o.after, Region.binds .any e = true → L e.on) (k : Nat) (h : (ops[i]?).map (fun o => o.after.any (fun e => Region.binds .any e && e.on == k)) = some true) : L k := by
  rw [ho] at h
  simp only [Option.map_some, Option.some.injEq, Array.any_eq_true'] at h
  obtain ⟨e, he, hb⟩ := h
  simp only [Bool.and_eq_true, beq_iff_eq] at hb
  exact hb.2 ▸ hall e he hb.1

theorem op_plain (ho : ops[i]? = some o) (hg : o.guard = none) (h : Oper.wp P o a w K Q) : wpOp P ops Q i K a w := by
  refine wpOp_step ho fun K' hK => ?_
  have hw : Region.wanted o (yielded ops a.tmps) = true := by simp [Region.wanted, hg]
  rw [if_pos hw]
  exact Oper.wp_mono hK h

theorem op_move (ho : ops[i]? = some o) (x : Operand) {d : Option Tmp} (h : (ops[i]?).map (fun o => (o.dst, o.op, o.guard)) = some (d, Op.move x, none)) (hK : K (a.put d (a.eval x)) w) : wpOp P ops Q i K a w := by
  obtain ⟨h1, h2, h3⟩ := fields ho h
  refine op_plain ho h3 ?_
  unfold Oper.wp
  simp [execOp, h2, Oper.upon]
  rw [h1]
  exact hK
theorem op_assign (ho : ops[i]? = some o) (x : Operand) {d : Option Tmp} (h : (ops[i]?).map (fun o => (o.dst, o.op, o.guard)) = some (d, Op.assign x, none)) (hK : K (a.put d (a.eval x)) w) : wpOp P ops Q i K a w := by
  obtain ⟨h1, h2, h3⟩ := fields ho h
  refine op_plain ho h3 ?_
  unfold Oper.wp
  simp [execOp, h2, Oper.upon]
  rw [h1]
  exact hK
theorem op_call (ho : ops[i]? = some o) (f : FuncId) (x : Operand) (t : TypeId) {d : Option Tmp} (h : (ops[i]?).map (fun o => (o.dst, o.op, o.guard)) = some (d, Op.call { callee := .value (.func f), args := #[x], argTypes := #[t] }, none)) {fn : Func} {c : Code} (hf : P.funcs[f]? = some fn) (hb : fn.body = some c) (hnm : (fn.name == "runtime.NumGoroutine") = false) {R : Ending → World → Prop} (hC : Calls P f #[a.eval x] w R) (hK : ∀ e w', R e w' → ∃ v, e = .returned v ∧ K (a.put d v) w') : wpOp P ops Q i K a w := by
  obtain ⟨h1, h2, h3⟩ := fields ho h
  refine op_plain ho h3 ?_
  unfold Oper.wp
  have e1 : (execOp a.eval o).run P w = .ok (.enter f #[a.eval x]) w := by
    simp [execOp, h2, resolve, invoke, Deferred.ofValue, show a.eval (.func f) = .func (.func f) #[] #[] from rfl, callFunc, hf, hb]
    simpa using hnm
  rw [e1]
  show Calls P f #[a.eval x] w _
  refine hC.mono fun e w' h => ?_
  obtain ⟨v, rfl, hk⟩ := hK e w' h
  rw [h1]
  exact hk
end




section
variable {ops : Array Oper} {o : Oper} {a : Act} {w : World} {K : Act → World → Prop} {Q : Exit → Act → World → Prop} {i : Nat}

def gOk (ops : Array Oper) (a : Act) : Option (Nat × Bool) → Prop
  | none => True
  | some (k, b) => ∃ d, (ops[k]?).bind (·.dst) = some d ∧ a.eval (.tmp d) = .bool b
theorem wanted_of {g : Option (Nat × Bool)} (hg : o.guard = g) (h : gOk ops a g) : Region.wanted o (yielded ops a.tmps) = true := by
  subst hg
  unfold Region.wanted
  cases hgd : o.guard with
  | none => rfl
  | some p =>
    obtain ⟨k, b⟩ := p
    rw [hgd] at h
    obtain ⟨d, hd', he⟩ := h
    simp only [yielded, hd', Option.bind_some]
    have : a.tmps[d]? = some (.bool b) := by
      simp only [Act.eval, Array.getD_eq_getD_getElem?] at he
      cases ht : a.tmps[d]? with
      | none => rw [ht] at he; simp [undef] at he
      | some v => rw [ht] at he; simp at he; rw [he]
    rw [this]
    simp
theorem flds {d : Option Tmp} {p : Op} {g : Option (Nat × Bool)} (ho : ops[i]? = some o) (h : (ops[i]?).map (fun o => (o.dst, o.op, o.guard)) = some (d, p, g)) : o.dst = d ∧ o.op = p ∧ o.guard = g := by
  rw [ho] at h
  simpa using h
theorem og_plain {g : Option (Nat × Bool)} (ho : ops[i]? = some o) (hg : o.guard = g) (hw : gOk ops a g) (h : Oper.wp Tryz.prog o a w K Q) : wpOp Tryz.prog ops Q i K a w := by
  refine wpOp_step ho fun K' hK => ?_
  rw [if_pos (wanted_of hg hw)]
  exact Oper.wp_mono hK h

theorem og_move {g : Option (Nat × Bool)} (ho : ops[i]? = some o) (x : Operand) {d : Option Tmp} (h : (ops[i]?).map (fun o => (o.dst, o.op, o.guard)) = some (d, Op.move x, g)) (hw : gOk ops a g) {v : Value} (hx : a.eval x = v) (hK : K (a.put d v) w) : wpOp Tryz.prog ops Q i K a w := by
  obtain ⟨h1, h2, h3⟩ := flds ho h
  refine og_plain ho h3 hw ?_
  unfold Oper.wp
  simp [execOp, h2, Oper.upon]
  rw [h1, hx]
  exact hK
theorem og_skip {k : Nat} {b : Bool} (ho : ops[i]? = some o) {d : Option Tmp} (h : (ops[i]?).map (fun o => (o.dst, o.guard)) = some (d, some (k, b))) {t : Nat} (ht : (ops[k]?).bind (·.dst) = some t) (he : a.eval (.tmp t) = .bool (!b)) (hK : K (a.put d undef) w) : wpOp Tryz.prog ops Q i K a w := by
  rw [ho] at h
  simp only [Option.map_some, Option.some.injEq, Prod.mk.injEq] at h
  obtain ⟨h1, h2⟩ := h
  refine wpOp_step ho fun K' hK' => ?_
  have hn : ¬ (Region.wanted o (yielded ops a.tmps) = true) := by
    unfold Region.wanted
    rw [h2]
    simp only [yielded, ht, Option.bind_some]
    have : a.tmps[t]? = some (.bool (!b)) := by
      simp only [Act.eval, Array.getD_eq_getD_getElem?] at he
      cases hh : a.tmps[t]? with
      | none => rw [hh] at he; simp [undef] at he
      | some v => rw [hh] at he; simp at he; rw [he]
    rw [this]
    cases b <;> simp
  rw [if_neg hn, h1]
  exact hK' _ _ hK
theorem og_assign {g : Option (Nat × Bool)} (ho : ops[i]? = some o) (x : Operand) {d : Option Tmp} (h : (ops[i]?).map (fun o => (o.dst, o.op, o.guard)) = some (d, Op.assign x, g)) (hw : gOk ops a g) {v : Value} (hx : a.eval x = v) (hK : K (a.put d (v)) w) : wpOp Tryz.prog ops Q i K a w := by
  obtain ⟨h1, h2, h3⟩ := flds ho h
  refine og_plain ho h3 hw ?_
  unfold Oper.wp
  simp [execOp, h2, Oper.upon]
  rw [h1, hx]
  exact hK
theorem og_nil {g : Option (Nat × Bool)} (ho : ops[i]? = some o) (x : Operand) {d : Option Tmp} (h : (ops[i]?).map (fun o => (o.dst, o.op, o.guard)) = some (d, Op.nilCheck x, g)) (hw : gOk ops a g) {p : Addr} (hx : a.eval x = .pointer (some p)) (hK : K (a.put d (.pointer (some p))) w) : wpOp Tryz.prog ops Q i K a w := by
  obtain ⟨h1, h2, h3⟩ := flds ho h
  refine og_plain ho h3 hw ?_
  unfold Oper.wp
  simp only [execOp, h2, hx]
  go_simp
  exact hK
theorem og_app {g : Option (Nat × Bool)} (ho : ops[i]? = some o) (x y : Operand) (t : TypeId) {d : Option Tmp} (h : (ops[i]?).map (fun o => (o.dst, o.op, o.guard)) = some (d, Op.call { callee := .builtin .append, args := #[x, y], argTypes := #[t, t] }, g)) (hw : gOk ops a g) {v u v' : Value} {w' : World} (hx : a.eval x = v) (hy : a.eval y = u) (hr : ∀ ty, (Builtin.append_ #[t, t] ty #[v, u]).run Tryz.prog w = .ok v' w') (hK : K (a.put d v') w') : wpOp Tryz.prog ops Q i K a w := by
  obtain ⟨h1, h2, h3⟩ := flds ho h
  refine og_plain ho h3 hw ?_
  unfold Oper.wp
  simp [execOp, h2, resolve, invoke, builtin, hx, hy, hr, Result.andThen]
  show K (a.put o.dst v') w'
  rw [h1]
  exact hK
end

/-- Does operation k wait for operation j, over others too? -/
def anc (ops : Array Oper) : Nat → Nat → Nat → Bool
  | 0, k, j => k == j
  | f + 1, k, j => k == j || (match ops[k]? with
    | some o => o.after.any (fun e => Region.binds .any e && anc ops f e.on j)
    | none => false)
def Dc (ops : Array Oper) (L : Nat → Prop) : Prop := ∀ (j : Nat) (o : Oper), ops[j]? = some o → L j → ∀ e ∈ o.after, Region.binds .any e = true → L e.on
theorem anc_spec {ops : Array Oper} {L : Nat → Prop} (h : Dc ops L) : ∀ f k j, anc ops f k j = true → L k → L j
  | 0, k, j, ha, hk => by
    simp only [anc, beq_iff_eq] at ha
    exact ha ▸ hk
  | f + 1, k, j, ha, hk => by
    simp only [anc, Bool.or_eq_true, beq_iff_eq] at ha
    rcases ha with rfl | ha
    · exact hk
    · cases ho : ops[k]? with
      | none => rw [ho] at ha; cases ha
      | some o =>
        rw [ho] at ha
        simp only [Array.any_eq_true', Bool.and_eq_true] at ha
        obtain ⟨e, he, hb, hr⟩ := ha
        exact anc_spec h f e.on j hr (h k o ho hk e he hb)
theorem Dc.next {ops : Array Oper} {L L' : Nat → Prop} {i : Nat} {o : Oper} (h : Dc ops L) (ho : ops[i]? = some o) (hall : ∀ e ∈ o.after, Region.binds .any e = true → L e.on) (hu : ∀ j, L' j ↔ (j = i ∨ L j)) : Dc ops L' := by
  intro j oj hj hl e he hb
  rcases (hu j).1 hl with rfl | hl
  · rw [ho] at hj
    injection hj with hj
    subst hj
    exact (hu _).2 (.inr (hall e he hb))
  · exact (hu _).2 (.inr (h j oj hj hl e he hb))

/-- What has come up: quiet operations have put V j into their slots; kb builds a list of one, kp appends it, N stores. -/
structure JP (ops : Array Oper) (σ : Nat → Nat) (N kb kp : Nat) (V : Nat → Value) (a0 : Act) (w : World) (NB : Nat → World → Prop) (P : Value → World → Prop) (x off : Nat) (L : Nat → Prop) (a : Act) (u : World) : Prop where
  fe : Fe a0 a ((List.range N).map σ)
  e : ∀ j, j < N → j ≠ kb → j ≠ kp → L j → a.eval (.tmp (σ j)) = V j
  dc : Dc ops L
  n : ¬ L kp → Below w.heap.size w u
  b : L kb → ¬ L kp → ∃ g, a.eval (.tmp (σ kb)) = .slice (some ⟨g, 0, none⟩) 1 1 ∧ NB g u
  p : L kp → ¬ L N → P (a.eval (.tmp (σ kp))) u
  s : L N → ∃ v' u1, P v' u1 ∧ u = u1.setCell ⟨x, off, none⟩ v'

section
variable {ops : Array Oper} {σ : Nat → Nat} {N kb kp : Nat} {V : Nat → Value} {a0 : Act} {w : World} {NB : Nat → World → Prop} {P : Value → World → Prop} {x off : Nat} {L L' : Nat → Prop} {a : Act} {u : World} {i : Nat} {o : Oper}
theorem JP.next (h : JP ops σ N kb kp V a0 w NB P x off L a u) (ho : ops[i]? = some o) (hall : ∀ e ∈ o.after, Region.binds .any e = true → L e.on) (hi : i < N) (ib : i ≠ kb) (ip : i ≠ kp) (hb : kb < N) (hp : kp < N) (hinj : ∀ i j, i < N → j < N → σ i = σ j → i = j) (hz : ∀ j, j < N → σ j < a0.tmps.size) (hu : ∀ j, L' j ↔ (j = i ∨ L j)) :
    JP ops σ N kb kp V a0 w NB P x off L' (a.put (some (σ i)) (V i)) u := by
  have lp : L' kp ↔ L kp := by rw [hu]; exact ⟨fun h => h.resolve_left (Ne.symm ip), .inr⟩
  have lb : L' kb ↔ L kb := by rw [hu]; exact ⟨fun h => h.resolve_left (Ne.symm ib), .inr⟩
  have lN : L' N ↔ L N := by rw [hu]; exact ⟨fun h => h.resolve_left (by omega), .inr⟩
  have k1 : (a.put (some (σ i)) (V i)).eval (.tmp (σ kb)) = a.eval (.tmp (σ kb)) := ev_ne _ _ (fun he => ib (hinj _ _ hb hi he).symm)
  have k2 : (a.put (some (σ i)) (V i)).eval (.tmp (σ kp)) = a.eval (.tmp (σ kp)) := ev_ne _ _ (fun he => ip (hinj _ _ hp hi he).symm)
  refine ⟨h.fe.put (List.mem_map.2 ⟨i, List.mem_range.2 hi, rfl⟩) _, fun j hj j1 j2 hl => ?_, h.dc.next ho hall hu, ?_, ?_, ?_, ?_⟩
  · by_cases e : j = i
    · subst e
      exact ev_eq _ _ (by rw [h.fe.sz]; exact hz j hj)
    · exact (ev_ne _ _ (fun he => e (hinj j i hj hi he))).trans (h.e j hj j1 j2 (((hu j).1 hl).resolve_left e))
  · rw [lp]; exact h.n
  · rw [lb, lp, k1]; exact h.b
  · rw [lp, lN, k2]; exact h.p
  · rw [lN]; exact h.s
theorem JP.build (h : JP ops σ N kb kp V a0 w NB P x off L a u) (ho : ops[kb]? = some o) (hall : ∀ e ∈ o.after, Region.binds .any e = true → L e.on) (hno : ¬ L kb) (hb : kb < N) (hp : kp < N) (hbp : kb ≠ kp) (hinj : ∀ i j, i < N → j < N → σ i = σ j → i = j) (hz : ∀ j, j < N → σ j < a0.tmps.size) (hu : ∀ j, L' j ↔ (j = kb ∨ L j))
    (a1 : anc ops 40 kp kb = true) (a2 : anc ops 40 N kp = true) (ob : Obj) (hN : Below w.heap.size w u → NB u.heap.size (u.alloc ob)) :
    JP ops σ N kb kp V a0 w NB P x off L' (a.put (some (σ kb)) (.slice (some ⟨u.heap.size, 0, none⟩) 1 1)) (u.alloc ob) := by
  have np : ¬ L kp := fun hl => hno (anc_spec h.dc _ _ _ a1 hl)
  have nN : ¬ L N := fun hl => np (anc_spec h.dc _ _ _ a2 hl)
  have lp : L' kp ↔ L kp := by rw [hu]; exact ⟨fun h => h.resolve_left (Ne.symm hbp), .inr⟩
  have lN : L' N ↔ L N := by rw [hu]; exact ⟨fun h => h.resolve_left (by omega), .inr⟩
  have hB := h.n np
  refine ⟨h.fe.put (List.mem_map.2 ⟨kb, List.mem_range.2 hb, rfl⟩) _, fun j hj j1 j2 hl => ?_, h.dc.next ho hall hu, fun _ => hB.alloc hB.size _, fun _ _ => ⟨_, ev_eq _ _ (by rw [h.fe.sz]; exact hz kb hb), hN hB⟩, fun hl => absurd (lp.1 hl) np, fun hl => absurd (lN.1 hl) nN⟩
  exact (ev_ne _ _ (fun he => j1 (hinj j kb hj hb he))).trans (h.e j hj j1 j2 (((hu j).1 hl).resolve_left j1))
theorem JP.app (h : JP ops σ N kb kp V a0 w NB P x off L a u) (ho : ops[kp]? = some o) (hall : ∀ e ∈ o.after, Region.binds .any e = true → L e.on) (hno : ¬ L kp) (hb : kb < N) (hp : kp < N) (hbp : kb ≠ kp) (hinj : ∀ i j, i < N → j < N → σ i = σ j → i = j) (hz : ∀ j, j < N → σ j < a0.tmps.size) (hu : ∀ j, L' j ↔ (j = kp ∨ L j))
    (a2 : anc ops 40 N kp = true) {v' : Value} {u' : World} (hP : P v' u') :
    JP ops σ N kb kp V a0 w NB P x off L' (a.put (some (σ kp)) v') u' := by
  have nN : ¬ L N := fun hl => hno (anc_spec h.dc _ _ _ a2 hl)
  have lp : L' kp := (hu kp).2 (.inl rfl)
  have lN : L' N ↔ L N := by rw [hu]; exact ⟨fun h => h.resolve_left (by omega), .inr⟩
  refine ⟨h.fe.put (List.mem_map.2 ⟨kp, List.mem_range.2 hp, rfl⟩) _, fun j hj j1 j2 hl => ?_, h.dc.next ho hall hu, fun hn => absurd lp hn, fun _ hn => absurd lp hn, fun _ _ => ?_, fun hl => absurd (lN.1 hl) nN⟩
  · exact (ev_ne _ _ (fun he => j2 (hinj j kp hj hp he))).trans (h.e j hj j1 j2 (((hu j).1 hl).resolve_left j2))
  · rw [ev_eq _ _ (by rw [h.fe.sz]; exact hz kp hp)]
    exact hP
theorem JP.store (h : JP ops σ N kb kp V a0 w NB P x off L a u) (ho : ops[N]? = some o) (hall : ∀ e ∈ o.after, Region.binds .any e = true → L e.on) (hno : ¬ L N) (hb : kb < N) (hp : kp < N) (hu : ∀ j, L' j ↔ (j = N ∨ L j)) (lp : L kp) :
    JP ops σ N kb kp V a0 w NB P x off L' a (u.setCell ⟨x, off, none⟩ (a.eval (.tmp (σ kp)))) := by
  have lN : L' N := (hu N).2 (.inl rfl)
  have lp' : L' kp := (hu kp).2 (.inr lp)
  refine ⟨h.fe, fun j hj j1 j2 hl => h.e j hj j1 j2 (((hu j).1 hl).resolve_left (by omega)), h.dc.next ho hall hu, fun hn => absurd lp' hn, fun _ hn => absurd lp' hn, fun _ hn => absurd lN hn, fun _ => ⟨_, _, h.p lp hno, rfl⟩⟩

/-- Cells that the operations read: they stay until the store. -/
theorem JP.g {G : World → Prop} (h : JP ops σ N kb kp V a0 w NB P x off L a u) (h0 : ∀ u, Below w.heap.size w u → G u) (hP : ∀ v u, P v u → G u) (hno : ¬ L N) : G u := by
  by_cases hp : L kp
  · exact hP _ _ (h.p hp hno)
  · exact h0 _ (h.n hp)

/-- The end. -/
theorem JP.done (h : JP ops σ N kb kp V a0 w NB P x off L a u) (hz : ∀ j, j < N → σ j < a0.tmps.size) (hN : L N) : ∃ (V' : Nat → Value) (v' : Value) (u1 : World), P v' u1 ∧ a = puts a0 ((List.range N).map fun j => (σ j, V' j)) ∧ u = u1.setCell ⟨x, off, none⟩ v' := by
  obtain ⟨v', u1, hp, e⟩ := h.s hN
  refine ⟨fun j => a.eval (.tmp (σ j)), v', u1, hp, ?_, e⟩
  refine Fe.puts _ a0 a (by rw [List.map_map]; exact h.fe) (fun p hp => ?_)
  obtain ⟨j, hj, rfl⟩ := List.mem_map.1 hp
  exact ⟨hz j (List.mem_range.1 hj), rfl⟩
theorem JP.start (hdr : Below w.heap.size w w.drew) (hL : ∀ i, ¬ L i) : JP ops σ N kb kp V a0 w NB P x off L a0 w.drew :=
  ⟨Fe.refl _ _, fun j _ _ _ h => absurd h (hL _), fun j o _ hl => absurd hl (hL _), fun _ => hdr, fun h => absurd h (hL _), fun h => absurd h (hL _), fun h => absurd h (hL _)⟩
end

end Go.Proofs.YtfhghijefjhehaaGreatDoor

/-! Ih -/
namespace Go.Proofs.YtfhghijefjhehaaGreatDoor
open Go.RowKit
set_option linter.unusedVariables false

noncomputable def opspushL : Array Oper := (Tryz.f15.body.bind (opsAt 11)).getD #[]
theorem opspushL_size : opspushL.size = 19 := by kernel_rfl
theorem opspushL_earlier : Earlier opspushL := by
  have h : (List.range 19).all (fun i => ((opspushL[i]?).map (fun o => o.after.all (fun e => !Region.binds .any e || decide (e.on < i)))).getD true) = true := by kernel_rfl
  intro i o ho e he hb
  have hi : i < 19 := by
    have := (Array.getElem?_eq_some_iff.1 ho).1
    rwa [opspushL_size] at this
  have h1 := List.all_eq_true.1 h i (List.mem_range.2 hi)
  rw [ho] at h1
  simp only [Option.map_some, Option.getD_some, Array.all_eq_true'] at h1
  have h2 := h1 e he
  rw [hb] at h2
  simpa using h2
def slpushL (j : Nat) : Nat := ([43, 44, 45, 46, 47, 48, 49, 50, 51, 52, 53, 54, 55, 56, 57, 58, 59, 60] : List Nat).getD j 0
def VpushL (x be cN on oc : Nat) (oa : Option Addr) (k : Nat) (j : Nat) : Value := [.pointer (some ⟨x, 0, none⟩), .pointer (some ⟨be, 1, none⟩), .pointer (some ⟨be, 4, none⟩), .int .i64 (cN : Int), .pointer (some ⟨x, 0, none⟩), .pointer (some ⟨be, 1, none⟩), .pointer (some ⟨be, 4, none⟩), .int .i64 (cN : Int), .pointer (some ⟨x, 0, none⟩), .pointer (some ⟨x, 3, none⟩), .pointer (some ⟨x, 3 + cN, none⟩), .slice oa on oc, .int .i64 (k : Int), .slice oa on oc, .slice oa on oc, .pointer (some ⟨x, 0, none⟩), .pointer (some ⟨x, 3, none⟩), .pointer (some ⟨x, 3 + cN, none⟩)].getD j (.bool false)

set_option maxRecDepth 100000 in
set_option maxHeartbeats 4000000 in
theorem pushL (a0 : Act) (w : World) {Q : Exit → Act → World → Prop} (x be cN on oc : Nat) (oa : Option Addr) (k : Nat) (h4 : a0.eval (.tmp 4) = .pointer (some ⟨x, 0, none⟩)) (h5 : a0.eval (.tmp 5) = .int .i64 (k : Int)) (h6 : a0.eval (.tmp 6) = .pointer (some ⟨be, 0, none⟩)) (hzz : 60 < a0.tmps.size) (c65 : (cN : Int) < 65) (P : Value → World → Prop)
    (hG0 : ∀ u, Below w.heap.size w u → u.cell? ⟨be, 4, none⟩ = some (.int .i64 (cN : Int)) ∧ u.cell? ⟨x, 3 + cN, none⟩ = some (.slice oa on oc)) (hGP : ∀ v u, P v u → u.cell? ⟨be, 4, none⟩ = some (.int .i64 (cN : Int)) ∧ u.cell? ⟨x, 3 + cN, none⟩ = some (.slice oa on oc))
    (hA : ∀ u g, Below w.heap.size w u → u.heap[g]? = some (.cells #[.int .i64 (k : Int)] 3 (0, 0)) → ∃ v' u', (∀ ty, (Builtin.append_ #[26, 26] ty #[.slice oa on oc, .slice (some ⟨g, 0, none⟩) 1 1]).run Tryz.prog u = .ok v' u') ∧ P v' u')
    (hSt : ∀ v u, P v u → (∃ A n c, v = .slice A n c) ∧ u.frozen? ⟨x, 3 + cN, none⟩ = false)
    (hK : ∀ (V' : Nat → Value) v' u1, P v' u1 → Q .normal (puts a0 ((List.range 18).map fun j => (slpushL j, V' j))) (u1.setCell ⟨x, 3 + cN, none⟩ v')) :
    (Code.region 11 opspushL true).wp Tryz.prog Q a0 w := by
  have inj : ∀ i j, i < 18 → j < 18 → slpushL i = slpushL j → i = j := by
    have h : (List.range 18).all (fun i => (List.range 18).all (fun j => decide (slpushL i = slpushL j → i = j))) = true := by kernel_rfl
    intro i j hi hj he
    have h1 := List.all_eq_true.1 h i (List.mem_range.2 hi)
    have h2 := List.all_eq_true.1 h1 j (List.mem_range.2 hj)
    exact (of_decide_eq_true h2) he
  have hz : ∀ j, j < 18 → slpushL j < a0.tmps.size := by
    have h : (List.range 18).all (fun i => decide (slpushL i ≤ 60)) = true := by kernel_rfl
    intro j hj
    have := of_decide_eq_true (List.all_eq_true.1 h j (List.mem_range.2 hj))
    omega
  refine wp_region_inv (by kernel_rfl) opspushL_earlier (fun L a u => JP opspushL slpushL 18 13 14 (VpushL x be cN on oc oa k) a0 w (fun g u => u.heap[g]? = some (.cells #[.int .i64 (k : Int)] 3 (0, 0))) P x (3 + cN) L a u) ?_ ?_ ?_
  · rintro L L' a' u i o h ho hno hall hu
    clear hK
    have q4 := (h.fe.ev (j := 4) (by decide)).trans h4
    have q5 := (h.fe.ev (j := 5) (by decide)).trans h5
    have q6 := (h.fe.ev (j := 6) (by decide)).trans h6
    have E := h.e
    have hi : i < 19 := by
      have := (Array.getElem?_eq_some_iff.1 ho).1
      rwa [opspushL_size] at this
    match i, hi with
    | 0, _ =>
      refine og_move (g := none) ho (.tmp 4) (d := some 43) (by kernel_rfl) trivial q4 ?_
      exact h.next ho hall (by decide) (by decide) (by decide) (by decide) (by decide) inj hz hu
    | 1, _ =>
      obtain ⟨h1, h2, h3⟩ := flds (d := some 44) (p := Op.fieldAddr 74 (.tmp 6) 1) (g := none) ho (by kernel_rfl)
      have g0 := q6
      refine og_plain ho h3 trivial ?_
      unfold Oper.wp
      simp only [execOp, h2, g0]
      go_simp
      exact h.next (i := 1) ho hall (by decide) (by decide) (by decide) (by decide) (by decide) inj hz hu
    | 2, _ =>
      obtain ⟨h1, h2, h3⟩ := flds (d := some 45) (p := Op.fieldAddr 69 (.tmp 44) 3) (g := none) ho (by kernel_rfl)
      have g0 := (show a'.eval (.tmp 44) = .pointer (some ⟨be, 1, none⟩) from E 1 (by decide) (by decide) (by decide) (dep ho hall 1 (by kernel_rfl)))
      refine og_plain ho h3 trivial ?_
      unfold Oper.wp
      simp only [execOp, h2, g0]
      go_simp
      exact h.next (i := 2) ho hall (by decide) (by decide) (by decide) (by decide) (by decide) inj hz hu
    | 3, _ =>
      obtain ⟨h1, h2, h3⟩ := flds (d := some 46) (p := Op.load 3 (.tmp 45)) (g := none) ho (by kernel_rfl)
      have g0 := (show a'.eval (.tmp 45) = .pointer (some ⟨be, 4, none⟩) from E 2 (by decide) (by decide) (by decide) (dep ho hall 2 (by kernel_rfl)))
      obtain ⟨c0, c1⟩ := h.g hG0 hGP (fun hl => hno (anc_spec h.dc 40 18 3 (by kernel_rfl) hl))
      refine og_plain ho h3 trivial ?_
      unfold Oper.wp
      simp only [execOp, h2, g0]
      go_simp
      exact h.next (i := 3) ho hall (by decide) (by decide) (by decide) (by decide) (by decide) inj hz hu
    | 4, _ =>
      refine og_move (g := none) ho (.tmp 4) (d := some 47) (by kernel_rfl) trivial q4 ?_
      exact h.next ho hall (by decide) (by decide) (by decide) (by decide) (by decide) inj hz hu
    | 5, _ =>
      obtain ⟨h1, h2, h3⟩ := flds (d := some 48) (p := Op.fieldAddr 74 (.tmp 6) 1) (g := none) ho (by kernel_rfl)
      have g0 := q6
      refine og_plain ho h3 trivial ?_
      unfold Oper.wp
      simp only [execOp, h2, g0]
      go_simp
      exact h.next (i := 5) ho hall (by decide) (by decide) (by decide) (by decide) (by decide) inj hz hu
    | 6, _ =>
      obtain ⟨h1, h2, h3⟩ := flds (d := some 49) (p := Op.fieldAddr 69 (.tmp 48) 3) (g := none) ho (by kernel_rfl)
      have g0 := (show a'.eval (.tmp 48) = .pointer (some ⟨be, 1, none⟩) from E 5 (by decide) (by decide) (by decide) (dep ho hall 5 (by kernel_rfl)))
      refine og_plain ho h3 trivial ?_
      unfold Oper.wp
      simp only [execOp, h2, g0]
      go_simp
      exact h.next (i := 6) ho hall (by decide) (by decide) (by decide) (by decide) (by decide) inj hz hu
    | 7, _ =>
      obtain ⟨h1, h2, h3⟩ := flds (d := some 50) (p := Op.load 3 (.tmp 49)) (g := none) ho (by kernel_rfl)
      have g0 := (show a'.eval (.tmp 49) = .pointer (some ⟨be, 4, none⟩) from E 6 (by decide) (by decide) (by decide) (dep ho hall 6 (by kernel_rfl)))
      obtain ⟨c0, c1⟩ := h.g hG0 hGP (fun hl => hno (anc_spec h.dc 40 18 7 (by kernel_rfl) hl))
      refine og_plain ho h3 trivial ?_
      unfold Oper.wp
      simp only [execOp, h2, g0]
      go_simp
      exact h.next (i := 7) ho hall (by decide) (by decide) (by decide) (by decide) (by decide) inj hz hu
    | 8, _ =>
      refine og_nil (g := none) ho (.tmp 47) (d := some 51) (by kernel_rfl) trivial (show a'.eval (.tmp 47) = .pointer (some ⟨x, 0, none⟩) from E 4 (by decide) (by decide) (by decide) (dep ho hall 4 (by kernel_rfl))) ?_
      exact h.next ho hall (by decide) (by decide) (by decide) (by decide) (by decide) inj hz hu
    | 9, _ =>
      obtain ⟨h1, h2, h3⟩ := flds (d := some 52) (p := Op.fieldAddr 117 (.tmp 51) 1) (g := none) ho (by kernel_rfl)
      have g0 := (show a'.eval (.tmp 51) = .pointer (some ⟨x, 0, none⟩) from E 8 (by decide) (by decide) (by decide) (dep ho hall 8 (by kernel_rfl)))
      refine og_plain ho h3 trivial ?_
      unfold Oper.wp
      simp only [execOp, h2, g0]
      go_simp
      exact h.next (i := 9) ho hall (by decide) (by decide) (by decide) (by decide) (by decide) inj hz hu
    | 10, _ =>
      obtain ⟨h1, h2, h3⟩ := flds (d := some 53) (p := Op.indexAddr 113 (.tmp 52) (.tmp 50)) (g := none) ho (by kernel_rfl)
      have g0 := (show a'.eval (.tmp 52) = .pointer (some ⟨x, 3, none⟩) from E 9 (by decide) (by decide) (by decide) (dep ho hall 9 (by kernel_rfl)))
      have g1 := (show a'.eval (.tmp 50) = .int .i64 (cN : Int) from E 7 (by decide) (by decide) (by decide) (dep ho hall 7 (by kernel_rfl)))
      refine og_plain ho h3 trivial ?_
      unfold Oper.wp
      simp only [execOp, h2, g0, g1]
      go_simp
      exact h.next (i := 10) ho hall (by decide) (by decide) (by decide) (by decide) (by decide) inj hz hu
    | 11, _ =>
      obtain ⟨h1, h2, h3⟩ := flds (d := some 54) (p := Op.load 26 (.tmp 53)) (g := none) ho (by kernel_rfl)
      have g0 := (show a'.eval (.tmp 53) = .pointer (some ⟨x, 3 + cN, none⟩) from E 10 (by decide) (by decide) (by decide) (dep ho hall 10 (by kernel_rfl)))
      obtain ⟨c0, c1⟩ := h.g hG0 hGP (fun hl => hno (anc_spec h.dc 40 18 11 (by kernel_rfl) hl))
      refine og_plain ho h3 trivial ?_
      unfold Oper.wp
      simp only [execOp, h2, g0]
      go_simp
      exact h.next (i := 11) ho hall (by decide) (by decide) (by decide) (by decide) (by decide) inj hz hu
    | 12, _ =>
      refine og_move (g := none) ho (.tmp 5) (d := some 55) (by kernel_rfl) trivial q5 ?_
      exact h.next ho hall (by decide) (by decide) (by decide) (by decide) (by decide) inj hz hu
    | 13, _ =>
      obtain ⟨h1, h2, h3⟩ := flds (d := some 56) (p := Op.buildSlice 26 1 #[(0, .tmp 55)]) (g := none) ho (by kernel_rfl)
      have g0 := (show a'.eval (.tmp 55) = .int .i64 (k : Int) from E 12 (by decide) (by decide) (by decide) (dep ho hall 12 (by kernel_rfl)))
      have gt : a'.tmps[55]?.getD undef = .int .i64 (k : Int) := by simpa [Act.eval] using g0
      refine og_plain ho h3 trivial ?_
      unfold Oper.wp
      simp only [execOp, h2]
      go_simp
      exact h.build ho hall hno (by decide) (by decide) (by decide) inj hz hu (by kernel_rfl) (by kernel_rfl) (.cells #[.int .i64 (k : Int)] 3) (fun _ => heap_alloc_new _ _)
    | 14, _ =>
      obtain ⟨g, hg1, hg2⟩ := h.b (dep ho hall 13 (by kernel_rfl)) hno
      obtain ⟨v', u', hr, hP⟩ := hA u g (h.n hno) hg2
      refine og_app (g := none) ho (.tmp 54) (.tmp 56) 26 (d := some 57) (by kernel_rfl) trivial (show a'.eval (.tmp 54) = .slice oa on oc from E 11 (by decide) (by decide) (by decide) (dep ho hall 11 (by kernel_rfl))) hg1 hr ?_
      exact h.app ho hall hno (by decide) (by decide) (by decide) inj hz hu (by kernel_rfl) hP
    | 15, _ =>
      refine og_nil (g := none) ho (.tmp 43) (d := some 58) (by kernel_rfl) trivial (show a'.eval (.tmp 43) = .pointer (some ⟨x, 0, none⟩) from E 0 (by decide) (by decide) (by decide) (dep ho hall 0 (by kernel_rfl))) ?_
      exact h.next ho hall (by decide) (by decide) (by decide) (by decide) (by decide) inj hz hu
    | 16, _ =>
      obtain ⟨h1, h2, h3⟩ := flds (d := some 59) (p := Op.fieldAddr 117 (.tmp 58) 1) (g := none) ho (by kernel_rfl)
      have g0 := (show a'.eval (.tmp 58) = .pointer (some ⟨x, 0, none⟩) from E 15 (by decide) (by decide) (by decide) (dep ho hall 15 (by kernel_rfl)))
      refine og_plain ho h3 trivial ?_
      unfold Oper.wp
      simp only [execOp, h2, g0]
      go_simp
      exact h.next (i := 16) ho hall (by decide) (by decide) (by decide) (by decide) (by decide) inj hz hu
    | 17, _ =>
      obtain ⟨h1, h2, h3⟩ := flds (d := some 60) (p := Op.indexAddr 113 (.tmp 59) (.tmp 46)) (g := none) ho (by kernel_rfl)
      have g0 := (show a'.eval (.tmp 59) = .pointer (some ⟨x, 3, none⟩) from E 16 (by decide) (by decide) (by decide) (dep ho hall 16 (by kernel_rfl)))
      have g1 := (show a'.eval (.tmp 46) = .int .i64 (cN : Int) from E 3 (by decide) (by decide) (by decide) (dep ho hall 3 (by kernel_rfl)))
      refine og_plain ho h3 trivial ?_
      unfold Oper.wp
      simp only [execOp, h2, g0, g1]
      go_simp
      exact h.next (i := 17) ho hall (by decide) (by decide) (by decide) (by decide) (by decide) inj hz hu
    | 18, _ =>
      obtain ⟨h1, h2, h3⟩ := flds (d := none) (p := Op.store 26 (.tmp 60) (.tmp 57)) (g := none) ho (by kernel_rfl)
      have lp : L 14 := dep ho hall 14 (by kernel_rfl)
      have hp := h.p lp hno
      obtain ⟨⟨A, n, c, hv⟩, hfz⟩ := hSt _ _ hp
      have hcs := hGP _ _ hp
      have hcell := hcs.2
      have g0 := (show a'.eval (.tmp 60) = .pointer (some ⟨x, 3 + cN, none⟩) from E 17 (by decide) (by decide) (by decide) (dep ho hall 17 (by kernel_rfl)))
      have g1 : a'.eval (.tmp 57) = .slice A n c := hv
      refine og_plain ho h3 trivial ?_
      unfold Oper.wp
      simp only [execOp, h2, g0, g1]
      go_simp
      have hh := h.store ho hall hno (by decide) (by decide) hu lp
      rw [show a'.eval (.tmp (slpushL 14)) = .slice A n c from hv] at hh
      exact hh
    | i + 19, hi => omega
  · rintro L a' u h hall
    rw [opspushL_size] at hall
    obtain ⟨V', v', u1, hp, rfl, rfl⟩ := h.done hz (hall 18 (by omega))
    exact hK V' v' u1 hp
  · intro L hL
    exact JP.start ((Below.refl _ _).drew) hL

noncomputable def opspushS : Array Oper := (Tryz.f45.body.bind (opsAt 6)).getD #[]
theorem opspushS_size : opspushS.size = 17 := by kernel_rfl
theorem opspushS_earlier : Earlier opspushS := by
  have h : (List.range 17).all (fun i => ((opspushS[i]?).map (fun o => o.after.all (fun e => !Region.binds .any e || decide (e.on < i)))).getD true) = true := by kernel_rfl
  intro i o ho e he hb
  have hi : i < 17 := by
    have := (Array.getElem?_eq_some_iff.1 ho).1
    rwa [opspushS_size] at this
  have h1 := List.all_eq_true.1 h i (List.mem_range.2 hi)
  rw [ho] at h1
  simp only [Option.map_some, Option.getD_some, Array.all_eq_true'] at h1
  have h2 := h1 e he
  rw [hb] at h2
  simpa using h2
def slpushS (j : Nat) : Nat := ([48, 49, 50, 51, 52, 53, 54, 55, 56, 57, 58, 59, 60, 61, 62, 63] : List Nat).getD j 0
def VpushS (x be cN on oc : Nat) (oa : Option Addr) (k : Nat) (j : Nat) : Value := [.pointer (some ⟨x, 0, none⟩), .pointer (some ⟨be, 1, none⟩), .int .i64 (cN : Int), .pointer (some ⟨x, 0, none⟩), .pointer (some ⟨be, 1, none⟩), .int .i64 (cN : Int), .pointer (some ⟨x, 0, none⟩), .pointer (some ⟨x, 68, none⟩), .pointer (some ⟨x, 68 + cN, none⟩), .slice oa on oc, .int .i64 (k : Int), .slice oa on oc, .slice oa on oc, .pointer (some ⟨x, 0, none⟩), .pointer (some ⟨x, 68, none⟩), .pointer (some ⟨x, 68 + cN, none⟩)].getD j (.bool false)

set_option maxRecDepth 100000 in
set_option maxHeartbeats 4000000 in
theorem pushS (a0 : Act) (w : World) {Q : Exit → Act → World → Prop} (x be cN on oc : Nat) (oa : Option Addr) (k : Nat) (h0 : a0.eval (.tmp 0) = .pointer (some ⟨x, 0, none⟩)) (h1 : a0.eval (.tmp 1) = .int .i64 (k : Int)) (h5 : a0.eval (.tmp 5) = .pointer (some ⟨be, 0, none⟩)) (hzz : 63 < a0.tmps.size) (c65 : (cN : Int) < 65) (P : Value → World → Prop)
    (hG0 : ∀ u, Below w.heap.size w u → u.cell? ⟨be, 1, none⟩ = some (.int .i64 (cN : Int)) ∧ u.cell? ⟨x, 68 + cN, none⟩ = some (.slice oa on oc)) (hGP : ∀ v u, P v u → u.cell? ⟨be, 1, none⟩ = some (.int .i64 (cN : Int)) ∧ u.cell? ⟨x, 68 + cN, none⟩ = some (.slice oa on oc))
    (hA : ∀ u g, Below w.heap.size w u → u.heap[g]? = some (.cells #[.int .i64 (k : Int)] 3 (0, 0)) → ∃ v' u', (∀ ty, (Builtin.append_ #[26, 26] ty #[.slice oa on oc, .slice (some ⟨g, 0, none⟩) 1 1]).run Tryz.prog u = .ok v' u') ∧ P v' u')
    (hSt : ∀ v u, P v u → (∃ A n c, v = .slice A n c) ∧ u.frozen? ⟨x, 68 + cN, none⟩ = false)
    (hK : ∀ (V' : Nat → Value) v' u1, P v' u1 → Q .normal (puts a0 ((List.range 16).map fun j => (slpushS j, V' j))) (u1.setCell ⟨x, 68 + cN, none⟩ v')) :
    (Code.region 6 opspushS true).wp Tryz.prog Q a0 w := by
  have inj : ∀ i j, i < 16 → j < 16 → slpushS i = slpushS j → i = j := by
    have h : (List.range 16).all (fun i => (List.range 16).all (fun j => decide (slpushS i = slpushS j → i = j))) = true := by kernel_rfl
    intro i j hi hj he
    have h1 := List.all_eq_true.1 h i (List.mem_range.2 hi)
    have h2 := List.all_eq_true.1 h1 j (List.mem_range.2 hj)
    exact (of_decide_eq_true h2) he
  have hz : ∀ j, j < 16 → slpushS j < a0.tmps.size := by
    have h : (List.range 16).all (fun i => decide (slpushS i ≤ 63)) = true := by kernel_rfl
    intro j hj
    have := of_decide_eq_true (List.all_eq_true.1 h j (List.mem_range.2 hj))
    omega
  refine wp_region_inv (by kernel_rfl) opspushS_earlier (fun L a u => JP opspushS slpushS 16 11 12 (VpushS x be cN on oc oa k) a0 w (fun g u => u.heap[g]? = some (.cells #[.int .i64 (k : Int)] 3 (0, 0))) P x (68 + cN) L a u) ?_ ?_ ?_
  · rintro L L' a' u i o h ho hno hall hu
    clear hK
    have q0 := (h.fe.ev (j := 0) (by decide)).trans h0
    have q1 := (h.fe.ev (j := 1) (by decide)).trans h1
    have q5 := (h.fe.ev (j := 5) (by decide)).trans h5
    have E := h.e
    have hi : i < 17 := by
      have := (Array.getElem?_eq_some_iff.1 ho).1
      rwa [opspushS_size] at this
    match i, hi with
    | 0, _ =>
      refine og_move (g := none) ho (.tmp 0) (d := some 48) (by kernel_rfl) trivial q0 ?_
      exact h.next ho hall (by decide) (by decide) (by decide) (by decide) (by decide) inj hz hu
    | 1, _ =>
      obtain ⟨h1, h2, h3⟩ := flds (d := some 49) (p := Op.fieldAddr 76 (.tmp 5) 1) (g := none) ho (by kernel_rfl)
      have g0 := q5
      refine og_plain ho h3 trivial ?_
      unfold Oper.wp
      simp only [execOp, h2, g0]
      go_simp
      exact h.next (i := 1) ho hall (by decide) (by decide) (by decide) (by decide) (by decide) inj hz hu
    | 2, _ =>
      obtain ⟨h1, h2, h3⟩ := flds (d := some 50) (p := Op.load 3 (.tmp 49)) (g := none) ho (by kernel_rfl)
      have g0 := (show a'.eval (.tmp 49) = .pointer (some ⟨be, 1, none⟩) from E 1 (by decide) (by decide) (by decide) (dep ho hall 1 (by kernel_rfl)))
      obtain ⟨c0, c1⟩ := h.g hG0 hGP (fun hl => hno (anc_spec h.dc 40 16 2 (by kernel_rfl) hl))
      refine og_plain ho h3 trivial ?_
      unfold Oper.wp
      simp only [execOp, h2, g0]
      go_simp
      exact h.next (i := 2) ho hall (by decide) (by decide) (by decide) (by decide) (by decide) inj hz hu
    | 3, _ =>
      refine og_move (g := none) ho (.tmp 0) (d := some 51) (by kernel_rfl) trivial q0 ?_
      exact h.next ho hall (by decide) (by decide) (by decide) (by decide) (by decide) inj hz hu
    | 4, _ =>
      obtain ⟨h1, h2, h3⟩ := flds (d := some 52) (p := Op.fieldAddr 76 (.tmp 5) 1) (g := none) ho (by kernel_rfl)
      have g0 := q5
      refine og_plain ho h3 trivial ?_
      unfold Oper.wp
      simp only [execOp, h2, g0]
      go_simp
      exact h.next (i := 4) ho hall (by decide) (by decide) (by decide) (by decide) (by decide) inj hz hu
    | 5, _ =>
      obtain ⟨h1, h2, h3⟩ := flds (d := some 53) (p := Op.load 3 (.tmp 52)) (g := none) ho (by kernel_rfl)
      have g0 := (show a'.eval (.tmp 52) = .pointer (some ⟨be, 1, none⟩) from E 4 (by decide) (by decide) (by decide) (dep ho hall 4 (by kernel_rfl)))
      obtain ⟨c0, c1⟩ := h.g hG0 hGP (fun hl => hno (anc_spec h.dc 40 16 5 (by kernel_rfl) hl))
      refine og_plain ho h3 trivial ?_
      unfold Oper.wp
      simp only [execOp, h2, g0]
      go_simp
      exact h.next (i := 5) ho hall (by decide) (by decide) (by decide) (by decide) (by decide) inj hz hu
    | 6, _ =>
      refine og_nil (g := none) ho (.tmp 51) (d := some 54) (by kernel_rfl) trivial (show a'.eval (.tmp 51) = .pointer (some ⟨x, 0, none⟩) from E 3 (by decide) (by decide) (by decide) (dep ho hall 3 (by kernel_rfl))) ?_
      exact h.next ho hall (by decide) (by decide) (by decide) (by decide) (by decide) inj hz hu
    | 7, _ =>
      obtain ⟨h1, h2, h3⟩ := flds (d := some 55) (p := Op.fieldAddr 117 (.tmp 54) 2) (g := none) ho (by kernel_rfl)
      have g0 := (show a'.eval (.tmp 54) = .pointer (some ⟨x, 0, none⟩) from E 6 (by decide) (by decide) (by decide) (dep ho hall 6 (by kernel_rfl)))
      refine og_plain ho h3 trivial ?_
      unfold Oper.wp
      simp only [execOp, h2, g0]
      go_simp
      exact h.next (i := 7) ho hall (by decide) (by decide) (by decide) (by decide) (by decide) inj hz hu
    | 8, _ =>
      obtain ⟨h1, h2, h3⟩ := flds (d := some 56) (p := Op.indexAddr 113 (.tmp 55) (.tmp 53)) (g := none) ho (by kernel_rfl)
      have g0 := (show a'.eval (.tmp 55) = .pointer (some ⟨x, 68, none⟩) from E 7 (by decide) (by decide) (by decide) (dep ho hall 7 (by kernel_rfl)))
      have g1 := (show a'.eval (.tmp 53) = .int .i64 (cN : Int) from E 5 (by decide) (by decide) (by decide) (dep ho hall 5 (by kernel_rfl)))
      refine og_plain ho h3 trivial ?_
      unfold Oper.wp
      simp only [execOp, h2, g0, g1]
      go_simp
      exact h.next (i := 8) ho hall (by decide) (by decide) (by decide) (by decide) (by decide) inj hz hu
    | 9, _ =>
      obtain ⟨h1, h2, h3⟩ := flds (d := some 57) (p := Op.load 26 (.tmp 56)) (g := none) ho (by kernel_rfl)
      have g0 := (show a'.eval (.tmp 56) = .pointer (some ⟨x, 68 + cN, none⟩) from E 8 (by decide) (by decide) (by decide) (dep ho hall 8 (by kernel_rfl)))
      obtain ⟨c0, c1⟩ := h.g hG0 hGP (fun hl => hno (anc_spec h.dc 40 16 9 (by kernel_rfl) hl))
      refine og_plain ho h3 trivial ?_
      unfold Oper.wp
      simp only [execOp, h2, g0]
      go_simp
      exact h.next (i := 9) ho hall (by decide) (by decide) (by decide) (by decide) (by decide) inj hz hu
    | 10, _ =>
      refine og_move (g := none) ho (.tmp 1) (d := some 58) (by kernel_rfl) trivial q1 ?_
      exact h.next ho hall (by decide) (by decide) (by decide) (by decide) (by decide) inj hz hu
    | 11, _ =>
      obtain ⟨h1, h2, h3⟩ := flds (d := some 59) (p := Op.buildSlice 26 1 #[(0, .tmp 58)]) (g := none) ho (by kernel_rfl)
      have g0 := (show a'.eval (.tmp 58) = .int .i64 (k : Int) from E 10 (by decide) (by decide) (by decide) (dep ho hall 10 (by kernel_rfl)))
      have gt : a'.tmps[58]?.getD undef = .int .i64 (k : Int) := by simpa [Act.eval] using g0
      refine og_plain ho h3 trivial ?_
      unfold Oper.wp
      simp only [execOp, h2]
      go_simp
      exact h.build ho hall hno (by decide) (by decide) (by decide) inj hz hu (by kernel_rfl) (by kernel_rfl) (.cells #[.int .i64 (k : Int)] 3) (fun _ => heap_alloc_new _ _)
    | 12, _ =>
      obtain ⟨g, hg1, hg2⟩ := h.b (dep ho hall 11 (by kernel_rfl)) hno
      obtain ⟨v', u', hr, hP⟩ := hA u g (h.n hno) hg2
      refine og_app (g := none) ho (.tmp 57) (.tmp 59) 26 (d := some 60) (by kernel_rfl) trivial (show a'.eval (.tmp 57) = .slice oa on oc from E 9 (by decide) (by decide) (by decide) (dep ho hall 9 (by kernel_rfl))) hg1 hr ?_
      exact h.app ho hall hno (by decide) (by decide) (by decide) inj hz hu (by kernel_rfl) hP
    | 13, _ =>
      refine og_nil (g := none) ho (.tmp 48) (d := some 61) (by kernel_rfl) trivial (show a'.eval (.tmp 48) = .pointer (some ⟨x, 0, none⟩) from E 0 (by decide) (by decide) (by decide) (dep ho hall 0 (by kernel_rfl))) ?_
      exact h.next ho hall (by decide) (by decide) (by decide) (by decide) (by decide) inj hz hu
    | 14, _ =>
      obtain ⟨h1, h2, h3⟩ := flds (d := some 62) (p := Op.fieldAddr 117 (.tmp 61) 2) (g := none) ho (by kernel_rfl)
      have g0 := (show a'.eval (.tmp 61) = .pointer (some ⟨x, 0, none⟩) from E 13 (by decide) (by decide) (by decide) (dep ho hall 13 (by kernel_rfl)))
      refine og_plain ho h3 trivial ?_
      unfold Oper.wp
      simp only [execOp, h2, g0]
      go_simp
      exact h.next (i := 14) ho hall (by decide) (by decide) (by decide) (by decide) (by decide) inj hz hu
    | 15, _ =>
      obtain ⟨h1, h2, h3⟩ := flds (d := some 63) (p := Op.indexAddr 113 (.tmp 62) (.tmp 50)) (g := none) ho (by kernel_rfl)
      have g0 := (show a'.eval (.tmp 62) = .pointer (some ⟨x, 68, none⟩) from E 14 (by decide) (by decide) (by decide) (dep ho hall 14 (by kernel_rfl)))
      have g1 := (show a'.eval (.tmp 50) = .int .i64 (cN : Int) from E 2 (by decide) (by decide) (by decide) (dep ho hall 2 (by kernel_rfl)))
      refine og_plain ho h3 trivial ?_
      unfold Oper.wp
      simp only [execOp, h2, g0, g1]
      go_simp
      exact h.next (i := 15) ho hall (by decide) (by decide) (by decide) (by decide) (by decide) inj hz hu
    | 16, _ =>
      obtain ⟨h1, h2, h3⟩ := flds (d := none) (p := Op.store 26 (.tmp 63) (.tmp 60)) (g := none) ho (by kernel_rfl)
      have lp : L 12 := dep ho hall 12 (by kernel_rfl)
      have hp := h.p lp hno
      obtain ⟨⟨A, n, c, hv⟩, hfz⟩ := hSt _ _ hp
      have hcs := hGP _ _ hp
      have hcell := hcs.2
      have g0 := (show a'.eval (.tmp 63) = .pointer (some ⟨x, 68 + cN, none⟩) from E 15 (by decide) (by decide) (by decide) (dep ho hall 15 (by kernel_rfl)))
      have g1 : a'.eval (.tmp 60) = .slice A n c := hv
      refine og_plain ho h3 trivial ?_
      unfold Oper.wp
      simp only [execOp, h2, g0, g1]
      go_simp
      have hh := h.store ho hall hno (by decide) (by decide) hu lp
      rw [show a'.eval (.tmp (slpushS 12)) = .slice A n c from hv] at hh
      exact hh
    | i + 17, hi => omega
  · rintro L a' u h hall
    rw [opspushS_size] at hall
    obtain ⟨V', v', u1, hp, rfl, rfl⟩ := h.done hz (hall 16 (by omega))
    exact hK V' v' u1 hp
  · intro L hL
    exact JP.start ((Below.refl _ _).drew) hL

noncomputable def opspushD : Array Oper := (Tryz.f45.body.bind (opsAt 5)).getD #[]
theorem opspushD_size : opspushD.size = 17 := by kernel_rfl
theorem opspushD_earlier : Earlier opspushD := by
  have h : (List.range 17).all (fun i => ((opspushD[i]?).map (fun o => o.after.all (fun e => !Region.binds .any e || decide (e.on < i)))).getD true) = true := by kernel_rfl
  intro i o ho e he hb
  have hi : i < 17 := by
    have := (Array.getElem?_eq_some_iff.1 ho).1
    rwa [opspushD_size] at this
  have h1 := List.all_eq_true.1 h i (List.mem_range.2 hi)
  rw [ho] at h1
  simp only [Option.map_some, Option.getD_some, Array.all_eq_true'] at h1
  have h2 := h1 e he
  rw [hb] at h2
  simpa using h2
def slpushD (j : Nat) : Nat := ([32, 33, 34, 35, 36, 37, 38, 39, 40, 41, 42, 43, 44, 45, 46, 47] : List Nat).getD j 0
def VpushD (x be cN on oc : Nat) (oa : Option Addr) (bd : Nat) (dt dk dp dc dl ds ec el es : Int) (j : Nat) : Value := [.pointer (some ⟨x, 0, none⟩), .pointer (some ⟨be, 1, none⟩), .int .i64 (cN : Int), .pointer (some ⟨x, 0, none⟩), .pointer (some ⟨be, 1, none⟩), .int .i64 (cN : Int), .pointer (some ⟨x, 0, none⟩), .pointer (some ⟨x, 133, none⟩), .pointer (some ⟨x, 133 + cN, none⟩), .slice oa on oc, .agg #[.int .i64 dt, .int .i64 dk, .int .i64 dp, .int .u8 dc, .int .i64 dl, .int .i64 ds, .int .u8 ec, .int .i64 el, .int .i64 es], .slice oa on oc, .slice oa on oc, .pointer (some ⟨x, 0, none⟩), .pointer (some ⟨x, 133, none⟩), .pointer (some ⟨x, 133 + cN, none⟩)].getD j (.bool false)

set_option maxRecDepth 100000 in
set_option maxHeartbeats 4000000 in
theorem pushD (a0 : Act) (w : World) {Q : Exit → Act → World → Prop} (x be cN on oc : Nat) (oa : Option Addr) (bd : Nat) (dt dk dp dc dl ds ec el es : Int) (h0 : a0.eval (.tmp 0) = .pointer (some ⟨x, 0, none⟩)) (h5 : a0.eval (.tmp 5) = .pointer (some ⟨be, 0, none⟩)) (h6 : a0.eval (.tmp 6) = .pointer (some ⟨bd, 0, none⟩)) (hzz : 47 < a0.tmps.size) (c65 : (cN : Int) < 65) (P : Value → World → Prop)
    (hG0 : ∀ u, Below w.heap.size w u → u.cell? ⟨be, 1, none⟩ = some (.int .i64 (cN : Int)) ∧ u.cell? ⟨x, 133 + cN, none⟩ = some (.slice oa on oc) ∧ u.cell? ⟨bd, 0, none⟩ = some (.int .i64 dt) ∧ u.cell? ⟨bd, 1, none⟩ = some (.int .i64 dk) ∧ u.cell? ⟨bd, 2, none⟩ = some (.int .i64 dp) ∧ u.cell? ⟨bd, 3, none⟩ = some (.int .u8 dc) ∧ u.cell? ⟨bd, 4, none⟩ = some (.int .i64 dl) ∧ u.cell? ⟨bd, 5, none⟩ = some (.int .i64 ds) ∧ u.cell? ⟨bd, 6, none⟩ = some (.int .u8 ec) ∧ u.cell? ⟨bd, 7, none⟩ = some (.int .i64 el) ∧ u.cell? ⟨bd, 8, none⟩ = some (.int .i64 es)) (hGP : ∀ v u, P v u → u.cell? ⟨be, 1, none⟩ = some (.int .i64 (cN : Int)) ∧ u.cell? ⟨x, 133 + cN, none⟩ = some (.slice oa on oc) ∧ u.cell? ⟨bd, 0, none⟩ = some (.int .i64 dt) ∧ u.cell? ⟨bd, 1, none⟩ = some (.int .i64 dk) ∧ u.cell? ⟨bd, 2, none⟩ = some (.int .i64 dp) ∧ u.cell? ⟨bd, 3, none⟩ = some (.int .u8 dc) ∧ u.cell? ⟨bd, 4, none⟩ = some (.int .i64 dl) ∧ u.cell? ⟨bd, 5, none⟩ = some (.int .i64 ds) ∧ u.cell? ⟨bd, 6, none⟩ = some (.int .u8 ec) ∧ u.cell? ⟨bd, 7, none⟩ = some (.int .i64 el) ∧ u.cell? ⟨bd, 8, none⟩ = some (.int .i64 es))
    (hA : ∀ u g, Below w.heap.size w u → u.heap[g]? = some (.cells #[.int .i64 dt, .int .i64 dk, .int .i64 dp, .int .u8 dc, .int .i64 dl, .int .i64 ds, .int .u8 ec, .int .i64 el, .int .i64 es] 143 (0, 0)) → ∃ v' u', (∀ ty, (Builtin.append_ #[114, 114] ty #[.slice oa on oc, .slice (some ⟨g, 0, none⟩) 1 1]).run Tryz.prog u = .ok v' u') ∧ P v' u')
    (hSt : ∀ v u, P v u → (∃ A n c, v = .slice A n c) ∧ u.frozen? ⟨x, 133 + cN, none⟩ = false)
    (hK : ∀ (V' : Nat → Value) v' u1, P v' u1 → Q .normal (puts a0 ((List.range 16).map fun j => (slpushD j, V' j))) (u1.setCell ⟨x, 133 + cN, none⟩ v')) :
    (Code.region 5 opspushD true).wp Tryz.prog Q a0 w := by
  have inj : ∀ i j, i < 16 → j < 16 → slpushD i = slpushD j → i = j := by
    have h : (List.range 16).all (fun i => (List.range 16).all (fun j => decide (slpushD i = slpushD j → i = j))) = true := by kernel_rfl
    intro i j hi hj he
    have h1 := List.all_eq_true.1 h i (List.mem_range.2 hi)
    have h2 := List.all_eq_true.1 h1 j (List.mem_range.2 hj)
    exact (of_decide_eq_true h2) he
  have hz : ∀ j, j < 16 → slpushD j < a0.tmps.size := by
    have h : (List.range 16).all (fun i => decide (slpushD i ≤ 47)) = true := by kernel_rfl
    intro j hj
    have := of_decide_eq_true (List.all_eq_true.1 h j (List.mem_range.2 hj))
    omega
  refine wp_region_inv (by kernel_rfl) opspushD_earlier (fun L a u => JP opspushD slpushD 16 11 12 (VpushD x be cN on oc oa bd dt dk dp dc dl ds ec el es) a0 w (fun g u => u.heap[g]? = some (.cells #[.int .i64 dt, .int .i64 dk, .int .i64 dp, .int .u8 dc, .int .i64 dl, .int .i64 ds, .int .u8 ec, .int .i64 el, .int .i64 es] 143 (0, 0))) P x (133 + cN) L a u) ?_ ?_ ?_
  · rintro L L' a' u i o h ho hno hall hu
    clear hK
    have q0 := (h.fe.ev (j := 0) (by decide)).trans h0
    have q5 := (h.fe.ev (j := 5) (by decide)).trans h5
    have q6 := (h.fe.ev (j := 6) (by decide)).trans h6
    have E := h.e
    have hi : i < 17 := by
      have := (Array.getElem?_eq_some_iff.1 ho).1
      rwa [opspushD_size] at this
    match i, hi with
    | 0, _ =>
      refine og_move (g := none) ho (.tmp 0) (d := some 32) (by kernel_rfl) trivial q0 ?_
      exact h.next ho hall (by decide) (by decide) (by decide) (by decide) (by decide) inj hz hu
    | 1, _ =>
      obtain ⟨h1, h2, h3⟩ := flds (d := some 33) (p := Op.fieldAddr 76 (.tmp 5) 1) (g := none) ho (by kernel_rfl)
      have g0 := q5
      refine og_plain ho h3 trivial ?_
      unfold Oper.wp
      simp only [execOp, h2, g0]
      go_simp
      exact h.next (i := 1) ho hall (by decide) (by decide) (by decide) (by decide) (by decide) inj hz hu
    | 2, _ =>
      obtain ⟨h1, h2, h3⟩ := flds (d := some 34) (p := Op.load 3 (.tmp 33)) (g := none) ho (by kernel_rfl)
      have g0 := (show a'.eval (.tmp 33) = .pointer (some ⟨be, 1, none⟩) from E 1 (by decide) (by decide) (by decide) (dep ho hall 1 (by kernel_rfl)))
      obtain ⟨c0, c1, c2, c3, c4, c5, c6, c7, c8, c9, c10⟩ := h.g hG0 hGP (fun hl => hno (anc_spec h.dc 40 16 2 (by kernel_rfl) hl))
      refine og_plain ho h3 trivial ?_
      unfold Oper.wp
      simp only [execOp, h2, g0]
      go_simp
      exact h.next (i := 2) ho hall (by decide) (by decide) (by decide) (by decide) (by decide) inj hz hu
    | 3, _ =>
      refine og_move (g := none) ho (.tmp 0) (d := some 35) (by kernel_rfl) trivial q0 ?_
      exact h.next ho hall (by decide) (by decide) (by decide) (by decide) (by decide) inj hz hu
    | 4, _ =>
      obtain ⟨h1, h2, h3⟩ := flds (d := some 36) (p := Op.fieldAddr 76 (.tmp 5) 1) (g := none) ho (by kernel_rfl)
      have g0 := q5
      refine og_plain ho h3 trivial ?_
      unfold Oper.wp
      simp only [execOp, h2, g0]
      go_simp
      exact h.next (i := 4) ho hall (by decide) (by decide) (by decide) (by decide) (by decide) inj hz hu
    | 5, _ =>
      obtain ⟨h1, h2, h3⟩ := flds (d := some 37) (p := Op.load 3 (.tmp 36)) (g := none) ho (by kernel_rfl)
      have g0 := (show a'.eval (.tmp 36) = .pointer (some ⟨be, 1, none⟩) from E 4 (by decide) (by decide) (by decide) (dep ho hall 4 (by kernel_rfl)))
      obtain ⟨c0, c1, c2, c3, c4, c5, c6, c7, c8, c9, c10⟩ := h.g hG0 hGP (fun hl => hno (anc_spec h.dc 40 16 5 (by kernel_rfl) hl))
      refine og_plain ho h3 trivial ?_
      unfold Oper.wp
      simp only [execOp, h2, g0]
      go_simp
      exact h.next (i := 5) ho hall (by decide) (by decide) (by decide) (by decide) (by decide) inj hz hu
    | 6, _ =>
      refine og_nil (g := none) ho (.tmp 35) (d := some 38) (by kernel_rfl) trivial (show a'.eval (.tmp 35) = .pointer (some ⟨x, 0, none⟩) from E 3 (by decide) (by decide) (by decide) (dep ho hall 3 (by kernel_rfl))) ?_
      exact h.next ho hall (by decide) (by decide) (by decide) (by decide) (by decide) inj hz hu
    | 7, _ =>
      obtain ⟨h1, h2, h3⟩ := flds (d := some 39) (p := Op.fieldAddr 117 (.tmp 38) 3) (g := none) ho (by kernel_rfl)
      have g0 := (show a'.eval (.tmp 38) = .pointer (some ⟨x, 0, none⟩) from E 6 (by decide) (by decide) (by decide) (dep ho hall 6 (by kernel_rfl)))
      refine og_plain ho h3 trivial ?_
      unfold Oper.wp
      simp only [execOp, h2, g0]
      go_simp
      exact h.next (i := 7) ho hall (by decide) (by decide) (by decide) (by decide) (by decide) inj hz hu
    | 8, _ =>
      obtain ⟨h1, h2, h3⟩ := flds (d := some 40) (p := Op.indexAddr 115 (.tmp 39) (.tmp 37)) (g := none) ho (by kernel_rfl)
      have g0 := (show a'.eval (.tmp 39) = .pointer (some ⟨x, 133, none⟩) from E 7 (by decide) (by decide) (by decide) (dep ho hall 7 (by kernel_rfl)))
      have g1 := (show a'.eval (.tmp 37) = .int .i64 (cN : Int) from E 5 (by decide) (by decide) (by decide) (dep ho hall 5 (by kernel_rfl)))
      refine og_plain ho h3 trivial ?_
      unfold Oper.wp
      simp only [execOp, h2, g0, g1]
      go_simp
      exact h.next (i := 8) ho hall (by decide) (by decide) (by decide) (by decide) (by decide) inj hz hu
    | 9, _ =>
      obtain ⟨h1, h2, h3⟩ := flds (d := some 41) (p := Op.load 114 (.tmp 40)) (g := none) ho (by kernel_rfl)
      have g0 := (show a'.eval (.tmp 40) = .pointer (some ⟨x, 133 + cN, none⟩) from E 8 (by decide) (by decide) (by decide) (dep ho hall 8 (by kernel_rfl)))
      obtain ⟨c0, c1, c2, c3, c4, c5, c6, c7, c8, c9, c10⟩ := h.g hG0 hGP (fun hl => hno (anc_spec h.dc 40 16 9 (by kernel_rfl) hl))
      refine og_plain ho h3 trivial ?_
      unfold Oper.wp
      simp only [execOp, h2, g0]
      go_simp
      exact h.next (i := 9) ho hall (by decide) (by decide) (by decide) (by decide) (by decide) inj hz hu
    | 10, _ =>
      obtain ⟨h1, h2, h3⟩ := flds (d := some 42) (p := Op.load 143 (.tmp 6)) (g := none) ho (by kernel_rfl)
      have g0 := q6
      obtain ⟨c0, c1, c2, c3, c4, c5, c6, c7, c8, c9, c10⟩ := h.g hG0 hGP (fun hl => hno (anc_spec h.dc 40 16 10 (by kernel_rfl) hl))
      refine og_plain ho h3 trivial ?_
      unfold Oper.wp
      simp only [execOp, h2, g0]
      go_simp
      exact h.next (i := 10) ho hall (by decide) (by decide) (by decide) (by decide) (by decide) inj hz hu
    | 11, _ =>
      obtain ⟨h1, h2, h3⟩ := flds (d := some 43) (p := Op.buildSlice 114 1 #[(0, .tmp 42)]) (g := none) ho (by kernel_rfl)
      have g0 := (show a'.eval (.tmp 42) = .agg #[.int .i64 dt, .int .i64 dk, .int .i64 dp, .int .u8 dc, .int .i64 dl, .int .i64 ds, .int .u8 ec, .int .i64 el, .int .i64 es] from E 10 (by decide) (by decide) (by decide) (dep ho hall 10 (by kernel_rfl)))
      have gt : a'.tmps[42]?.getD undef = .agg #[.int .i64 dt, .int .i64 dk, .int .i64 dp, .int .u8 dc, .int .i64 dl, .int .i64 ds, .int .u8 ec, .int .i64 el, .int .i64 es] := by simpa [Act.eval] using g0
      refine og_plain ho h3 trivial ?_
      unfold Oper.wp
      simp only [execOp, h2]
      go_simp
      exact h.build ho hall hno (by decide) (by decide) (by decide) inj hz hu (by kernel_rfl) (by kernel_rfl) (.cells #[.int .i64 dt, .int .i64 dk, .int .i64 dp, .int .u8 dc, .int .i64 dl, .int .i64 ds, .int .u8 ec, .int .i64 el, .int .i64 es] 143) (fun _ => heap_alloc_new _ _)
    | 12, _ =>
      obtain ⟨g, hg1, hg2⟩ := h.b (dep ho hall 11 (by kernel_rfl)) hno
      obtain ⟨v', u', hr, hP⟩ := hA u g (h.n hno) hg2
      refine og_app (g := none) ho (.tmp 41) (.tmp 43) 114 (d := some 44) (by kernel_rfl) trivial (show a'.eval (.tmp 41) = .slice oa on oc from E 9 (by decide) (by decide) (by decide) (dep ho hall 9 (by kernel_rfl))) hg1 hr ?_
      exact h.app ho hall hno (by decide) (by decide) (by decide) inj hz hu (by kernel_rfl) hP
    | 13, _ =>
      refine og_nil (g := none) ho (.tmp 32) (d := some 45) (by kernel_rfl) trivial (show a'.eval (.tmp 32) = .pointer (some ⟨x, 0, none⟩) from E 0 (by decide) (by decide) (by decide) (dep ho hall 0 (by kernel_rfl))) ?_
      exact h.next ho hall (by decide) (by decide) (by decide) (by decide) (by decide) inj hz hu
    | 14, _ =>
      obtain ⟨h1, h2, h3⟩ := flds (d := some 46) (p := Op.fieldAddr 117 (.tmp 45) 3) (g := none) ho (by kernel_rfl)
      have g0 := (show a'.eval (.tmp 45) = .pointer (some ⟨x, 0, none⟩) from E 13 (by decide) (by decide) (by decide) (dep ho hall 13 (by kernel_rfl)))
      refine og_plain ho h3 trivial ?_
      unfold Oper.wp
      simp only [execOp, h2, g0]
      go_simp
      exact h.next (i := 14) ho hall (by decide) (by decide) (by decide) (by decide) (by decide) inj hz hu
    | 15, _ =>
      obtain ⟨h1, h2, h3⟩ := flds (d := some 47) (p := Op.indexAddr 115 (.tmp 46) (.tmp 34)) (g := none) ho (by kernel_rfl)
      have g0 := (show a'.eval (.tmp 46) = .pointer (some ⟨x, 133, none⟩) from E 14 (by decide) (by decide) (by decide) (dep ho hall 14 (by kernel_rfl)))
      have g1 := (show a'.eval (.tmp 34) = .int .i64 (cN : Int) from E 2 (by decide) (by decide) (by decide) (dep ho hall 2 (by kernel_rfl)))
      refine og_plain ho h3 trivial ?_
      unfold Oper.wp
      simp only [execOp, h2, g0, g1]
      go_simp
      exact h.next (i := 15) ho hall (by decide) (by decide) (by decide) (by decide) (by decide) inj hz hu
    | 16, _ =>
      obtain ⟨h1, h2, h3⟩ := flds (d := none) (p := Op.store 114 (.tmp 47) (.tmp 44)) (g := none) ho (by kernel_rfl)
      have lp : L 12 := dep ho hall 12 (by kernel_rfl)
      have hp := h.p lp hno
      obtain ⟨⟨A, n, c, hv⟩, hfz⟩ := hSt _ _ hp
      have hcs := hGP _ _ hp
      have hcell := hcs.2.1
      have g0 := (show a'.eval (.tmp 47) = .pointer (some ⟨x, 133 + cN, none⟩) from E 15 (by decide) (by decide) (by decide) (dep ho hall 15 (by kernel_rfl)))
      have g1 : a'.eval (.tmp 44) = .slice A n c := hv
      refine og_plain ho h3 trivial ?_
      unfold Oper.wp
      simp only [execOp, h2, g0, g1]
      go_simp
      have hh := h.store ho hall hno (by decide) (by decide) hu lp
      rw [show a'.eval (.tmp (slpushD 12)) = .slice A n c from hv] at hh
      exact hh
    | i + 17, hi => omega
  · rintro L a' u h hall
    rw [opspushD_size] at hall
    obtain ⟨V', v', u1, hp, rfl, rfl⟩ := h.done hz (hall 16 (by omega))
    exact hK V' v' u1 hp
  · intro L hL
    exact JP.start ((Below.refl _ _).drew) hL

end Go.Proofs.YtfhghijefjhehaaGreatDoor
