/-
  Texts put together: Ke Kg Ki.
-/
import Derived.Test.YtilidolbplglcaaGreatDoorMKb
/-! Ke -/
namespace Go.Proofs.YtilidolbplglcaaGreatDoor
open Go.RowKit
set_option linter.unusedVariables false

theorem SF.kp {α : Type} {f : α → List Value} {k : Nat} {w w' : World} {e : TypeId} {β : Option Nat} {v : Value} {xs : List α} (h : SF f k w e β v xs) (hk : ∀ g, β = some g → w'.heap[g]? = w.heap[g]?) : SF f k w' e β v xs := by
  cases β with
  | none => exact h
  | some g =>
    obtain ⟨cap, hv, cur, hh, r⟩ := h
    exact ⟨cap, hv, cur, (hk g rfl).trans hh, r⟩
theorem MR.kp {w w' : World} {b : Nat} {E : List Ed} (h : MR w b E) (hk : w'.heap[b]? = w.heap[b]?) : MR w' b E := by
  obtain ⟨D, ⟨es, clock, hb, r⟩, q⟩ := h
  exact ⟨D, ⟨es, clock, hk.trans hb, r⟩, q⟩
/-- Blocks of K are written, new ones come to K. -/
theorem MO.turn {w0 w w' : World} {K K' : Nat → Prop} {F : Nat → Thg} {T : Nat → Prop} (h : MO w0 w K F) (hF : Fr T w w') (hT : ∀ k, T k → K k ∧ w0.heap.size ≤ k) (h1 : ∀ k, K' k → K k ∨ w.heap.size ≤ k) (h2 : ∀ k, K' k → k < w'.heap.size) : MO w0 w' K' F := by
  obtain ⟨U, hx, hk⟩ := h.tags
  refine ⟨⟨tagN w.heap.size 0 U, fun i => ?_, fun k hk' => ?_⟩, h.base.trans (hF.below h.base.size (fun k hk => (hT k hk).2)), h2, h.frm⟩
  · obtain ⟨S, h3, h4⟩ := hx i
    refine ⟨S, (h.frm i).fr _ _ _ _ h3 hF (fun k hk' ht => by have := (h4 k hk').1; have := hk k (hT k ht).1; omega), fun k hk => ?_⟩
    rw [tag_old ((h.frm i).old _ _ h3 k hk)]
    exact h4 k hk
  · by_cases hn : w.heap.size ≤ k
    · rw [tag_new hn]
    · rw [tag_old (by omega)]
      rcases h1 k hk' with h5 | h5
      · exact hk k h5
      · exact absurd h5 hn

/-- The blocks of an order. -/
def OB (o b : Nat) (βs βE βD : Option Nat) : Nat → Prop := fun k => k = o ∨ k = b ∨ βs = some k ∨ βE = some k ∨ βD = some k
/-- The pointer of a client. -/
def ptV (x : Nat → Nat) (E : List Ed) (c : Nat) : Value := if cnP (c : Int) E = 0 then .pointer none else .pointer (some ⟨x c, 0, none⟩)
/-- The box and the rows. -/
structure OX (w : World) (o b : Nat) (cs : Array Value) (E : List Ed) (D : List OpE) (M : List Ed) (S : List Int) (vs vE vD : Value) (βs βE βD : Option Nat) : Prop where
  blk : w.heap[o]? = some (.cells cs 65 (0, 0))
  sz : cs.size = 69
  c0 : cs[0]? = some vs
  c1 : cs[1]? = some vE
  c2 : cs[2]? = some vD
  c3 : cs[3]? = some (.map (some b))
  s : SF ei 1 w 3 βs vs S
  e : SF edc 6 w 48 βE vE E
  d : SF opc 5 w 46 βD vD D
  m : MR w b M
/-- The clients' spaces. -/
structure OC (w0 w : World) (K : Nat → Prop) (E : List Ed) (D : List OpE) (cs : Array Value) (x : Nat → Nat) (ls : Nat → Int) (F : Nat → Thg) : Prop where
  pt : ∀ c : Nat, c ≤ 64 → cs[4 + c]? = some (ptV x E c)
  sp : ∀ c : Nat, c ≤ 64 → cnP (c : Int) E ≠ 0 → F c = spO (x c) ⟨true, quQ (c : Int) E D, ls c⟩ ∧ ls c ≤ (E.length : Int)
  mo : MO w0 w K F
  lo : ∀ k, K k → w0.heap.size ≤ k

section
variable {w0 w w' u : World} {o b : Nat} {cs : Array Value} {E M : List Ed} {D : List OpE} {S : List Int} {vs vE vD : Value} {βs βE βD : Option Nat} {K : Nat → Prop} {x : Nat → Nat} {ls : Nat → Int} {F : Nat → Thg}
theorem OX.old (h : OX w o b cs E D M S vs vE vD βs βE βD) : ∀ k, OB o b βs βE βD k → k < w.heap.size := by
  rintro k (rfl | rfl | hk | hk | hk)
  · exact block_lt h.blk
  · exact h.m.lt
  · exact h.s.lt _ hk
  · exact h.e.lt _ hk
  · exact h.d.lt _ hk
theorem OX.kp (h : OX w o b cs E D M S vs vE vD βs βE βD) (hk : KP (OB o b βs βE βD) w w') : OX w' o b cs E D M S vs vE vD βs βE βD :=
  ⟨(hk o (.inl rfl)).trans h.blk, h.sz, h.c0, h.c1, h.c2, h.c3, h.s.kp (fun g hg => hk g (.inr (.inr (.inl hg)))), h.e.kp (fun g hg => hk g (.inr (.inr (.inr (.inl hg))))), h.d.kp (fun g hg => hk g (.inr (.inr (.inr (.inr hg))))), h.m.kp (hk b (.inr (.inl rfl)))⟩
theorem OX.below (h : OX w o b cs E D M S vs vE vD βs βE βD) (hb : Below w.heap.size w w') : OX w' o b cs E D M S vs vE vD βs βE βD := h.kp (fun k hk => hb.block k (h.old k hk))
theorem OX.cell (h : OX w o b cs E D M S vs vE vD βs βE βD) (i : Nat) : w.cell? ⟨o, i, none⟩ = cs[i]? := cell_row h.blk i
theorem OX.cells (h : OX w o b cs E D M S vs vE vD βs βE βD) : w.cell? ⟨o, 0, none⟩ = some vs ∧ w.cell? ⟨o, 1, none⟩ = some vE ∧ w.cell? ⟨o, 2, none⟩ = some vD ∧ w.cell? ⟨o, 3, none⟩ = some (.map (some b)) ∧ o < w.heap.size :=
  ⟨(h.cell 0).trans h.c0, (h.cell 1).trans h.c1, (h.cell 2).trans h.c2, (h.cell 3).trans h.c3, block_lt h.blk⟩
theorem OC.below (h : OC w0 w K E D cs x ls F) (hb : Below w.heap.size w w') : OC w0 w' K E D cs x ls F := ⟨h.pt, h.sp, h.mo.below hb, h.lo⟩
theorem OX.b_ne (h : OX w o b cs E D M S vs vE vD βs βE βD) : b ≠ o ∧ βs ≠ some b ∧ βE ≠ some b ∧ βD ≠ some b := by
  obtain ⟨es, ck, hb⟩ := h.m.map
  refine ⟨fun e => ?_, fun e => ?_, fun e => ?_, fun e => ?_⟩
  · have h1 := h.blk
    rw [← e, hb] at h1
    simp at h1
  · have h1 := h.s
    rw [e] at h1
    obtain ⟨cur, hc⟩ := SF.blk h1
    rw [hb] at hc
    simp at hc
  · have h1 := h.e
    rw [e] at h1
    obtain ⟨cur, hc⟩ := SF.blk h1
    rw [hb] at hc
    simp at hc
  · have h1 := h.d
    rw [e] at h1
    obtain ⟨cur, hc⟩ := SF.blk h1
    rw [hb] at hc
    simp at hc
theorem set_at {cs : Array Value} {i j : Nat} {v : Value} (h : i ≠ j) : (cs.setIfInBounds i v)[j]? = cs[j]? := by
  rw [Array.getElem?_setIfInBounds, if_neg h]
theorem set_in {cs : Array Value} {i : Nat} {v : Value} (h : i < cs.size) : (cs.setIfInBounds i v)[i]? = some v := by
  rw [Array.getElem?_setIfInBounds, if_pos rfl, if_pos h]
theorem set_sz {cs : Array Value} {i : Nat} {v : Value} : (cs.setIfInBounds i v).size = cs.size := Array.size_setIfInBounds
/-- An edit is put behind. -/
theorem OX.pushE (h : OX w o b cs E D M S vs vE vD βs βE βD) (e : Ed) (b2 : Below w.heap.size w u) (t : Nat) (hb : u.heap[t]? = some (.cells (edc e).toArray 48 (0, 0))) (hn : E.length ≤ 1000000) :
    ∃ a c u', (∀ ty, (Builtin.append_ #[22, 22] ty #[vE, .slice (some ⟨t, 0, none⟩) 1 1]).run Tryz.prog u = .ok (.slice a (E.length + 1) c) u') ∧ u'.heap[o]? = some (.cells cs 65 (0, 0)) ∧
      ∃ g', OX (u'.setCell ⟨o, 1, none⟩ (.slice a (E.length + 1) c)) o b (cs.setIfInBounds 1 (.slice a (E.length + 1) c)) (E ++ [e]) D M S vs (.slice a (E.length + 1) c) vD βs (some g') βD ∧ Fr (fun j => j = o ∨ βE = some j) w (u'.setCell ⟨o, 1, none⟩ (.slice a (E.length + 1) c)) ∧ (βE = some g' ∨ w.heap.size ≤ g') := by
  obtain ⟨v', u', hr, hN⟩ := push_ed _ βE vE E (h.e.fr (Fr.of_below (S := fun _ => False) b2) (fun _ _ h => h)) t e hb hn
  obtain ⟨g', h1, h2, h3, h4, h5⟩ := now_set (o := 1) hN b2 h.blk (h.e.ne h.blk (by decide))
  obtain ⟨a, c, e1, -⟩ := h1.form
  simp only [List.length_append, List.length_cons, List.length_nil, Nat.zero_add] at e1
  subst e1
  refine ⟨a, c, u', hr, h5, g', ⟨h2, set_sz.trans h.sz, (set_at (by decide)).trans h.c0, set_in (by rw [h.sz]; decide), (set_at (by decide)).trans h.c2, (set_at (by decide)).trans h.c3, h.s.fr h3 (fun g hg hs => ?_), h1, h.d.fr h3 (fun g hg hs => ?_), h.m.fr h3 (fun hs => ?_)⟩, h3, h4⟩
  · exact hs.elim ((h.s.ne h.blk (by decide) g hg).2) (h.s.apart h.e (by decide) g hg)
  · exact hs.elim ((h.d.ne h.blk (by decide) g hg).2) (h.d.apart h.e (by decide) g hg)
  · exact hs.elim h.b_ne.1 h.b_ne.2.2.1
/-- A done form is put behind. -/
theorem OX.pushD (h : OX w o b cs E D M S vs vE vD βs βE βD) (d : OpE) (b2 : Below w.heap.size w u) (t : Nat) (hb : u.heap[t]? = some (.cells (opc d).toArray 46 (0, 0))) (hn : D.length ≤ 100000) :
    ∃ a c u', (∀ ty, (Builtin.append_ #[24, 24] ty #[vD, .slice (some ⟨t, 0, none⟩) 1 1]).run Tryz.prog u = .ok (.slice a (D.length + 1) c) u') ∧ u'.heap[o]? = some (.cells cs 65 (0, 0)) ∧
      ∃ g', OX (u'.setCell ⟨o, 2, none⟩ (.slice a (D.length + 1) c)) o b (cs.setIfInBounds 2 (.slice a (D.length + 1) c)) E (D ++ [d]) M S vs vE (.slice a (D.length + 1) c) βs βE (some g') ∧ Fr (fun j => j = o ∨ βD = some j) w (u'.setCell ⟨o, 2, none⟩ (.slice a (D.length + 1) c)) ∧ (βD = some g' ∨ w.heap.size ≤ g') := by
  obtain ⟨v', u', hr, hN⟩ := push_op _ βD vD D (h.d.fr (Fr.of_below (S := fun _ => False) b2) (fun _ _ h => h)) t d hb hn
  obtain ⟨g', h1, h2, h3, h4, h5⟩ := now_set (o := 2) hN b2 h.blk (h.d.ne h.blk (by decide))
  obtain ⟨a, c, e1, -⟩ := h1.form
  simp only [List.length_append, List.length_cons, List.length_nil, Nat.zero_add] at e1
  subst e1
  refine ⟨a, c, u', hr, h5, g', ⟨h2, set_sz.trans h.sz, (set_at (by decide)).trans h.c0, (set_at (by decide)).trans h.c1, set_in (by rw [h.sz]; decide), (set_at (by decide)).trans h.c3, h.s.fr h3 (fun g hg hs => ?_), h.e.fr h3 (fun g hg hs => ?_), h1, h.m.fr h3 (fun hs => ?_)⟩, h3, h4⟩
  · exact hs.elim ((h.s.ne h.blk (by decide) g hg).2) (h.s.apart h.d (by decide) g hg)
  · exact hs.elim ((h.e.ne h.blk (by decide) g hg).2) (h.e.apart h.d (by decide) g hg)
  · exact hs.elim h.b_ne.1 h.b_ne.2.2.2
/-- A boot is put behind. -/
theorem OX.pushS (h : OX w o b cs E D M S vs vE vD βs βE βD) (d : Int) (b2 : Below w.heap.size w u) (t : Nat) (hb : u.heap[t]? = some (.cells #[.int .i64 d] 3 (0, 0))) (hn : S.length ≤ 100000) :
    ∃ a c u', (∀ ty, (Builtin.append_ #[54, 54] ty #[vs, .slice (some ⟨t, 0, none⟩) 1 1]).run Tryz.prog u = .ok (.slice a (S.length + 1) c) u') ∧ u'.heap[o]? = some (.cells cs 65 (0, 0)) ∧
      ∃ g', OX (u'.setCell ⟨o, 0, none⟩ (.slice a (S.length + 1) c)) o b (cs.setIfInBounds 0 (.slice a (S.length + 1) c)) E D M (S ++ [d]) (.slice a (S.length + 1) c) vE vD (some g') βE βD ∧ Fr (fun j => j = o ∨ βs = some j) w (u'.setCell ⟨o, 0, none⟩ (.slice a (S.length + 1) c)) ∧ (βs = some g' ∨ w.heap.size ≤ g') := by
  obtain ⟨v', u', hr, hN⟩ := push_int _ βs vs S (h.s.fr (Fr.of_below (S := fun _ => False) b2) (fun _ _ h => h)) t d hb hn
  obtain ⟨g', h1, h2, h3, h4, h5⟩ := now_set (o := 0) hN b2 h.blk (h.s.ne h.blk (by decide))
  obtain ⟨a, c, e1, -⟩ := h1.form
  simp only [List.length_append, List.length_cons, List.length_nil, Nat.zero_add] at e1
  subst e1
  refine ⟨a, c, u', hr, h5, g', ⟨h2, set_sz.trans h.sz, set_in (by rw [h.sz]; decide), (set_at (by decide)).trans h.c1, (set_at (by decide)).trans h.c2, (set_at (by decide)).trans h.c3, h1, h.e.fr h3 (fun g hg hs => ?_), h.d.fr h3 (fun g hg hs => ?_), h.m.fr h3 (fun hs => ?_)⟩, h3, h4⟩
  · exact hs.elim ((h.e.ne h.blk (by decide) g hg).2) (h.e.apart h.s (by decide) g hg)
  · exact hs.elim ((h.d.ne h.blk (by decide) g hg).2) (h.d.apart h.s (by decide) g hg)
  · exact hs.elim h.b_ne.1 h.b_ne.2.1
/-- A record is put into the map. -/
theorem OX.put (h : OX w o b cs E D M S vs vE vD βs βE βD) {e : Ed} (hd : wfM e.o.cl e.o.sq) (hn : M.length < 9223372036854775807) (hnew : ∀ x ∈ M, ¬ (x.o.cl = e.o.cl ∧ x.o.sq = e.o.sq)) :
    ∃ w', (Instr.mapUpdate 61 (.map (some b)) (mkV e.o.cl e.o.sq) (.int .i64 ((M.length : Int) + 1))).run Tryz.prog w = .ok () w' ∧ OX w' o b cs E D (M ++ [e]) S vs vE vD βs βE βD ∧ Fr (· = b) w w' := by
  obtain ⟨w', hr, h1, h2⟩ := h.m.put hd hn hnew
  obtain ⟨n1, n2, n3, n4⟩ := h.b_ne
  exact ⟨w', hr, ⟨h2.keeps h.blk (fun e => n1 e.symm), h.sz, h.c0, h.c1, h.c2, h.c3, h.s.fr h2 (fun g hg e => n2 (e ▸ hg)), h.e.fr h2 (fun g hg e => n3 (e ▸ hg)), h.d.fr h2 (fun g hg e => n4 (e ▸ hg)), h1⟩, h2⟩
/-- The pointer of a client is laid. -/
theorem OX.point (h : OX w o b cs E D M S vs vE vD βs βE βD) (c : Nat) (v : Value) : OX (w.setCell ⟨o, 4 + c, none⟩ v) o b (cs.setIfInBounds (4 + c) v) E D M S vs vE vD βs βE βD ∧ Fr (· = o) w (w.setCell ⟨o, 4 + c, none⟩ v) := by
  have hF : Fr (· = o) w (w.setCell ⟨o, 4 + c, none⟩ v) := Fr.setCell _ _ _ rfl
  refine ⟨⟨set_row h.blk _ _, set_sz.trans h.sz, (set_at (by omega)).trans h.c0, (set_at (by omega)).trans h.c1, (set_at (by omega)).trans h.c2, (set_at (by omega)).trans h.c3, h.s.fr hF (fun g hg e => ?_), h.e.fr hF (fun g hg e => ?_), h.d.fr hF (fun g hg e => ?_), h.m.fr hF h.b_ne.1⟩, hF⟩
  · exact (h.s.ne h.blk (by decide) g hg).2 e
  · exact (h.e.ne h.blk (by decide) g hg).2 e
  · exact (h.d.ne h.blk (by decide) g hg).2 e
end

end Go.Proofs.YtilidolbplglcaaGreatDoor

/-! Kg -/
namespace Go.Proofs.YtilidolbplglcaaGreatDoor
open Go.RowKit
set_option linter.unusedVariables false

theorem isO_one {W : World} {b : Nat} {x : OpE} (h : W.heap[b]? = some (.cells (opc x).toArray 46 (0, 0))) : IsO W (some ⟨b, 0, none⟩) 1 1 [x] := by
  refine ⟨rfl, Nat.le_refl _, by omega, fun _ => ⟨b, 0, rfl, block_lt h, fun j v hj => ?_⟩⟩
  rw [cO_one] at hj
  rw [Nat.zero_add, cell_row h, List.getElem?_toArray]
  exact hj
theorem c64 {c : Nat} (h : c ≤ 64) : 0 ≤ (c : Int) ∧ (c : Int) < 65 := by omega
section
variable {w0 w : World} {o b : Nat} {cs : Array Value} {E M : List Ed} {D : List OpE} {S : List Int} {vs vE vD : Value} {βs βE βD : Option Nat} {K : Nat → Prop} {x : Nat → Nat} {ls : Nat → Int} {F : Nat → Thg}
theorem OC.nil0 (hX : OX w o b cs E D M S vs vE vD βs βE βD) (hC : OC w0 w K E D cs x ls F) {c : Nat} (hc : c ≤ 64) (h0 : cnP (c : Int) E = 0) : w.cell? ⟨o, 4 + c, none⟩ = some (.pointer none) :=
  (hX.cell _).trans ((hC.pt c hc).trans (by rw [ptV, if_pos h0]))
theorem OC.ptr (hX : OX w o b cs E D M S vs vE vD βs βE βD) (hC : OC w0 w K E D cs x ls F) {c : Nat} (hc : c ≤ 64) (h0 : cnP (c : Int) E ≠ 0) : w.cell? ⟨o, 4 + c, none⟩ = some (.pointer (some ⟨x c, 0, none⟩)) :=
  (hX.cell _).trans ((hC.pt c hc).trans (by rw [ptV, if_neg h0]))
set_option maxRecDepth 100000 in
set_option maxHeartbeats 4000000 in
theorem length_none (hX : OX w o b cs E D M S vs vE vD βs βE βD) (hC : OC w0 w K E D cs x ls F) (hn : D.length ≤ 4096) {c : Nat} (hc : c ≤ 64) {t : Nat} (ht : t ≤ D.length) (h0 : cnP (c : Int) E = 0) :
    Calls Tryz.prog 46 #[.pointer (some ⟨o, 0, none⟩), .int .i64 (c : Int), .int .i64 (t : Int)] w fun e w' => e = .returned (.int .i64 (grL (D.take t))) ∧ Below w.heap.size w w' := by
  obtain ⟨-, -, c2, -, lo⟩ := hX.cells
  have hp := OC.nil0 hX hC hc h0
  obtain ⟨aD, cD, rfl, hI⟩ := hX.d.isO
  have G := hd (growth_any aD t cD (D.take t) w (hI.take t ht) (by omega))
  obtain ⟨i1, i2⟩ := c64 hc
  have hcap : t ≤ cD := Nat.le_trans ht hI.2.1
  generalize grL (D.take t) = g at *
  generalize D.length = n at *
  clear hX hC hI
  go_enter Tryz.func46, Tryz.ntmps46
  go_wp2_with (go_at_call 61; refine G.out.mono ?_; rintro e1 u ⟨rfl, bu⟩)
  go_ret
  exact ⟨rfl, bu⟩
theorem gq1 {g s : Int} {n : Nat} (hg : -4096 ≤ g ∧ g ≤ 4096) (hs : -(n : Int) ≤ s ∧ s ≤ n) (hn : n ≤ 4096) {z : Int} (hz : -1 ≤ z ∧ z ≤ 1) : wrap64 (g - s - z) = g - s - z := by rw [wrap64]; omega
theorem gq2 {j n : Nat} (h : j < n) (hn : n ≤ 4096) : wrap64 ((j : Int) + 1) = (j : Int) + 1 := by rw [wrap64]; omega
theorem gq4 {j n : Nat} (h : j < n) : (j : Int) < (n : Int) := by omega
theorem gq5 (a b c : Int) : a - b - c = a - (b + c) := by omega
theorem gq3 {j n : Nat} (h : j < n) : n - (j + 1) < n - j := by omega
set_option maxRecDepth 100000 in
set_option maxHeartbeats 4000000 in
theorem length_some (hX : OX w o b cs E D M S vs vE vD βs βE βD) (hC : OC w0 w K E D cs x ls F) (hn : D.length ≤ 4096) {c : Nat} (hc : c ≤ 64) (h0 : cnP (c : Int) E ≠ 0) {t : Nat} :
    Calls Tryz.prog 46 #[.pointer (some ⟨o, 0, none⟩), .int .i64 (c : Int), .int .i64 (t : Int)] w fun e w' => e = .returned (.int .i64 (grL D - sumQ (t : Int) (quQ (c : Int) E D))) ∧ Below w.heap.size w w' := by
  obtain ⟨-, -, c2, -, lo⟩ := hX.cells
  have hp := OC.ptr hX hC hc h0
  obtain ⟨aD, cD, rfl, hI⟩ := hX.d.isO
  have G := hd (growth_any aD D.length cD D w hI (by omega))
  obtain ⟨i1, i2⟩ := c64 hc
  obtain ⟨S1, hS1, -⟩ := hC.mo.now c
  rw [(hC.sp c hc h0).1] at hS1
  have CQ := hd (fun u (hu : Below w.heap.size w u) => queue_any (x c) _ S1 u (SpAt.below hS1 hu))
  have hok := hS1.2
  have hqn : (quQ (c : Int) E D).length ≤ 4096 := by
    have h1 := hok.n
    have h2 := hok.m
    simp only at h1 h2
    omega
  have hgl : -4096 ≤ grL D ∧ grL D ≤ 4096 := by
    have := grL_le D
    omega
  obtain ⟨y, hy⟩ : ∃ y, x c = y := ⟨_, rfl⟩
  rw [hy] at hp CQ
  generalize quQ (c : Int) E D = q at *
  generalize grL D = g at *
  generalize D.length = n at *
  obtain ⟨m, hm⟩ : ∃ m, q.length = m := ⟨_, rfl⟩
  rw [hm] at hqn
  have HM := hd hm
  clear hX hC hI hS1 hok hy h0 hm
  go_enter Tryz.func46, Tryz.ntmps46
  go_upto_region 5 with (go_at_call 61; refine G.out.mono ?_; rintro e1 u1 ⟨rfl, b1⟩)
  have CQ1 := hd (CQ.out u1 b1)
  have B1 := hd b1
  clear CQ b1 G c2 lo hp
  go_upto_region 6 with (go_at_call 62; refine CQ1.out.mono ?_; rintro e1 u2 ⟨v, rfl, hML, b2⟩; obtain ⟨gq, cq, rfl, hR, hgb, hcq, hcq2⟩ := hML.form)
  have B2 : Hid (Below w.heap.size w u2) := B1.out.trans (b2.mono B1.out.size)
  have HR := hd hR
  have HL2 := hd (show u2.heap.size ≤ u2.heap.size from Nat.le_refl _)
  rw [HM.out] at HR hcq2 ⊢
  clear CQ1 B1 b2 hR hgb hML hcq
  go_loopw [8, 34] (fun v i wr => ∃ j : Nat, j ≤ m ∧ v = .int .i64 (g - sumQ (t : Int) (q.take j)) ∧ i = .int .i64 (j : Int) ∧ Hid (Below u2.heap.size u2 wr)) (fun _ i _ => m - (intOf i).toNat)
  case atStart => exact ⟨0, Nat.zero_le _, by simp [sumQ], rfl, Below.refl _ _⟩
  case round =>
    obtain ⟨j, hj, rfl, rfl, HB⟩ := hrel
    by_cases hjm : j < m
    · have hjq : j < q.length := by have := HM.out; omega
      have hR2 := HR.out.fr (Fr.of_below (S := fun _ => False) HB.out) (fun h => h)
      have lg := hR2.lt
      have y0 := hR2.cell sz_mkd j 0 hjq (by omega)
      have y1 := hR2.cell sz_mkd j 1 hjq (by omega)
      have y2 := hR2.cell sz_mkd j 2 hjq (by omega)
      have y3 := hR2.cell sz_mkd j 3 hjq (by omega)
      have y4 := hR2.cell sz_mkd j 4 hjq (by omega)
      have y5 := hR2.cell sz_mkd j 5 hjq (by omega)
      obtain ⟨⟨mk, ⟨xk, xp, xc, xl, xs⟩⟩, hx⟩ : ∃ z, q[j] = z := ⟨_, rfl⟩
      rw [hx] at y0 y1 y2 y3 y4 y5
      simp only [mkd, List.getElem?_cons_zero, List.getElem?_cons_succ, Nat.add_zero] at y0 y1 y2 y3 y4 y5
      have hs := sumQ_snoc (t : Int) q[j] (q.take j)
      rw [← List.take_succ_eq_append_getElem hjq, hx] at hs
      simp only at hs
      have hsl := sumQ_le (t : Int) (q.take j)
      have hsl2 : (q.take j).length ≤ 4096 := by rw [List.length_take]; omega
      have hz := gr_le ⟨xk, xp, xc, xl, xs⟩
      have wz := gq1 hgl hsl hsl2 hz
      have wj := gq2 hjm hqn
      have hme := gq3 hjm
      have i3 := gq4 hjm
      obtain ⟨sq, hsq⟩ : ∃ z, sumQ (t : Int) (q.take j) = z := ⟨_, rfl⟩
      rw [hsq] at hs wz ⊢
      have HS := hd hs
      obtain ⟨gz, hgz⟩ : ∃ z, gr ⟨xk, xp, xc, xl, xs⟩ = z := ⟨_, rfl⟩
      rw [hgz] at wz HS
      have CG := hd (fun W (h : W.heap[wr.heap.size + 1]? = some (.cells #[.int .i64 xk, .int .i64 xp, .int .u8 xc, .int .i64 xl, .int .i64 xs] 46 (0, 0))) => growth_any (some ⟨wr.heap.size + 1, 0, none⟩) 1 1 [⟨xk, xp, xc, xl, xs⟩] W (isO_one h) (by omega))
      simp only [grL_cons, grL_nil, hgz, Int.add_zero] at CG
      clear hR2 hx hs hsl hsl2 hz hsq hgz
      by_cases ht : (t : Int) < mk
      · rw [if_pos ht] at HS
        have HA : Hid (Below u2.heap.size u2 ((wr.alloc (.cells #[.int .i64 mk, .int .i64 xk, .int .i64 xp, .int .u8 xc, .int .i64 xl, .int .i64 xs] 129)).alloc (.cells #[.int .i64 xk, .int .i64 xp, .int .u8 xc, .int .i64 xl, .int .i64 xs] 46)) ∧ ((wr.alloc (.cells #[.int .i64 mk, .int .i64 xk, .int .i64 xp, .int .u8 xc, .int .i64 xl, .int .i64 xs] 129)).alloc (.cells #[.int .i64 xk, .int .i64 xp, .int .u8 xc, .int .i64 xl, .int .i64 xs] 46)).heap[wr.heap.size + 1]? = some (.cells #[.int .i64 xk, .int .i64 xp, .int .u8 xc, .int .i64 xl, .int .i64 xs] 46 (0, 0))) := by
          have h1 := HB.out.alloc HB.out.size (.cells #[.int .i64 mk, .int .i64 xk, .int .i64 xp, .int .u8 xc, .int .i64 xl, .int .i64 xs] 129)
          refine ⟨h1.alloc h1.size _, ?_⟩
          have h2 := heap_alloc_new (wr.alloc (.cells #[.int .i64 mk, .int .i64 xk, .int .i64 xp, .int .u8 xc, .int .i64 xl, .int .i64 xs] 129)) (.cells #[.int .i64 xk, .int .i64 xp, .int .u8 xc, .int .i64 xl, .int .i64 xs] 46)
          rw [show (wr.alloc (.cells #[.int .i64 mk, .int .i64 xk, .int .i64 xp, .int .u8 xc, .int .i64 xl, .int .i64 xs] 129)).heap.size = wr.heap.size + 1 by simp] at h2
          exact h2
        go_wp2_with (go_at_call 61; refine (CG.out _ HA.out.2).mono ?_; rintro e1 u3 ⟨rfl, b3⟩)
        exact ⟨⟨j + 1, hjm, by rw [HS.out]; congr 1; exact wz.trans (gq5 _ _ _), by go_num, HA.out.1.trans (b3.mono HA.out.1.size)⟩, by simp [intOf]; omega⟩
      · rw [if_neg ht] at HS
        have HA := hd (HB.out.alloc HB.out.size (.cells #[.int .i64 mk, .int .i64 xk, .int .i64 xp, .int .u8 xc, .int .i64 xl, .int .i64 xs] 129))
        go_wp2_with fail
        exact ⟨⟨j + 1, hjm, by rw [HS.out, Int.add_zero], by go_num, HA⟩, by simp [intOf]; omega⟩
    · obtain rfl : j = m := by omega
      have i3 : ¬ ((j : Int) < (j : Int)) := by omega
      have e : q.take j = q := List.take_of_length_le (by have := HM.out; omega)
      rw [e]
      have B3 : Hid (Below w.heap.size w wr) := B2.out.trans (HB.out.mono B2.out.size)
      go_wp2_with fail
      go_ret
      exact ⟨rfl, B3.out⟩
end

end Go.Proofs.YtilidolbplglcaaGreatDoor

/-! Ki -/
namespace Go.Proofs.YtilidolbplglcaaGreatDoor
open Go.RowKit
set_option linter.unusedVariables false

theorem setO_setO (F : Nat → Thg) (i : Nat) (G H : Thg) : setO (setO F i G) i H = setO F i H := by
  funext j
  unfold setO
  split <;> rfl
theorem wri {i n : Nat} (h : i < n) (hn : n ≤ 4096) : wrap64 ((i : Int) + 1) = (i : Int) + 1 := by rw [wrap64]; omega
theorem isub {i n : Nat} (h : i < n) : n - (i + 1) < n - i := by omega
/-- What meet leaves. -/
def Met (w0 w w' : World) (o b : Nat) (cs : Array Value) (E M : List Ed) (D : List OpE) (S : List Int) (vs vE vD : Value) (βs βE βD : Option Nat) (K : Nat → Prop) (F : Nat → Thg) (c y : Nat) : Prop :=
  ∃ (cs' : Array Value) (F' : Nat → Thg) (l : Int), OX w' o b cs' E D M S vs vE vD βs βE βD ∧ F' c = spO y ⟨true, quQ (c : Int) E D, l⟩ ∧ l ≤ (E.length : Int) ∧ cs'[4 + c]? = some (.pointer (some ⟨y, 0, none⟩)) ∧ (∀ k, k ≤ 64 → k ≠ c → cs'[4 + k]? = cs[4 + k]? ∧ F' k = F k) ∧ MO w0 w' K F' ∧ ∀ k, K k → k ≠ o → w'.heap[k]? = w.heap[k]?
theorem KP.sub {K K' : Nat → Prop} {w w' : World} (h : KP K w w') (hs : ∀ k, K' k → K k) : KP K' w w' := fun k hk => h k (hs k hk)
section
variable {w0 w : World} {o b : Nat} {cs : Array Value} {E M : List Ed} {D : List OpE} {S : List Int} {vs vE vD : Value} {βs βE βD : Option Nat} {K : Nat → Prop} {x : Nat → Nat} {ls : Nat → Int} {F : Nat → Thg}
set_option maxRecDepth 100000 in
set_option maxHeartbeats 4000000 in
theorem meet_some (hX : OX w o b cs E D M S vs vE vD βs βE βD) (hC : OC w0 w K E D cs x ls F) (hK : ∀ k, OB o b βs βE βD k → K k) {c : Nat} (hc : c ≤ 64) (h0 : cnP (c : Int) E ≠ 0) :
    Calls Tryz.prog 47 #[.pointer (some ⟨o, 0, none⟩), .int .i64 (c : Int)] w fun e w' => ∃ y, e = .returned (.pointer (some ⟨y, 0, none⟩)) ∧ Met w0 w w' o b cs E M D S vs vE vD βs βE βD K F c y := by
  have lo := block_lt hX.blk
  have hp := OC.ptr hX hC hc h0
  obtain ⟨i1, i2⟩ := c64 hc
  have Z : Hid (Met w0 w w o b cs E M D S vs vE vD βs βE βD K F c (x c)) := ⟨cs, F, ls c, hX, (hC.sp c hc h0).1, (hC.sp c hc h0).2, (hC.pt c hc).trans (by rw [ptV, if_neg h0]), fun k _ _ => ⟨rfl, rfl⟩, hC.mo, fun _ _ _ => rfl⟩
  clear hX hC
  go_enter Tryz.func47, Tryz.ntmps47
  go_wp2_with fail
  go_ret
  exact ⟨_, rfl, Z.out⟩
set_option maxRecDepth 100000 in
set_option maxHeartbeats 4000000 in
theorem meet_none (hX : OX w o b cs E D M S vs vE vD βs βE βD) (hC : OC w0 w K E D cs x ls F) (hK : ∀ k, OB o b βs βE βD k → K k) (hl : D.length = E.length) (hv : ∀ d ∈ D, validP d = 0) (hn : D.length ≤ 4096) {c : Nat} (hc : c ≤ 64) (h0 : cnP (c : Int) E = 0) :
    Calls Tryz.prog 47 #[.pointer (some ⟨o, 0, none⟩), .int .i64 (c : Int)] w fun e w' => ∃ y, e = .returned (.pointer (some ⟨y, 0, none⟩)) ∧ Met w0 w w' o b cs E M D S vs vE vD βs βE βD K F c y := by
  have lo := block_lt hX.blk
  have hp := OC.nil0 hX hC hc h0
  obtain ⟨i1, i2⟩ := c64 hc
  have HX := hd hX
  have HC := hd hC
  have HH := hd (And.intro hl (And.intro hv h0))
  obtain ⟨n, hnE⟩ : ∃ n, D.length = n := ⟨_, rfl⟩
  have HN := hd hnE
  obtain ⟨aD, cD, hvD, -⟩ := hX.d.isO
  rw [hnE] at hvD hn
  have HVD := hd hvD
  clear hX hC hl hv h0 hnE hvD
  go_enter Tryz.func47, Tryz.ntmps47
  go_upto_region 3 with (go_at_call 63; refine (mo_new HC.out.mo c true).mono ?_; rintro e1 u ⟨y, rfl, hm, bu⟩)
  have KU : Hid (KP K w u) := HC.out.mo.kp bu
  have HM : Hid (MO w0 u K (setO F c (spO y ⟨true, nmD 0 (D.take 0), ((0 : Nat) : Int)⟩))) := hm
  have c2 := (HX.out.kp (KU.out.sub hK)).cells.2.2.1
  rw [HVD.out] at c2
  have lu : o < u.heap.size := (HX.out.kp (KU.out.sub hK)).cells.2.2.2.2
  clear hm bu hp
  go_upto_region 4 with fail
  go_loopw [21] (fun i wr => ∃ j : Nat, j ≤ n ∧ i = .int .i64 (j : Int) ∧ Hid (MO w0 wr K (setO F c (spO y ⟨true, nmD 0 (D.take j), (j : Int)⟩)) ∧ KP K w wr)) (fun i _ => n - (intOf i).toNat)
  case atStart => exact ⟨0, Nat.zero_le _, rfl, HM.out, KU.out⟩
  case round =>
    clear c2 lu HM KU
    obtain ⟨j, hj, rfl, HR⟩ := hrel
    have HXr := hd (HX.out.kp (HR.out.2.sub hK))
    by_cases hjn : j < n
    · have i1 : (j : Int) < (n : Int) := by omega
      have w1 := wri hjn hn
      have hme := isub hjn
      have hjD : j < D.length := by have := HN.out; omega
      obtain ⟨a2, cD2, e2, hI⟩ := HXr.out.d.isO
      rw [HVD.out] at e2
      injection e2 with e2 e3 e4
      subst e2 e4
      obtain ⟨bF, oF, haF, lbF⟩ := hI.addr (by omega)
      subst haF
      have hcs := hI.at j hjD hjD
      obtain ⟨⟨xk, xp, xc, xl, xs⟩, hx⟩ : ∃ z, D[j] = z := ⟨_, rfl⟩
      rw [hx] at hcs
      obtain ⟨x0, x1, x2, x3, x4⟩ := hcs
      simp only at x0 x1 x2 x3 x4
      have hv2 := HH.out.2.1 D[j] (List.getElem_mem hjD)
      have hk := keep_next hjD hv2 (by omega)
      rw [hx] at hk hv2
      have bA : Below wr.heap.size wr (wr.alloc (.cells #[.int .i64 xk, .int .i64 xp, .int .u8 xc, .int .i64 xl, .int .i64 xs] 46)) := (Below.refl _ _).alloc (Nat.le_refl _) _
      have CK := hd (mo_keep (HR.out.1.below bA) c (setO_same _ _ _) ((j : Int) + 1) ⟨xk, xp, xc, xl, xs⟩ (valid_ok hv2))
      rw [hk.1, hk.2, setO_setO] at CK
      simp only [OpE.val] at CK
      have KA : Hid (KP K w (wr.alloc (.cells #[.int .i64 xk, .int .i64 xp, .int .u8 xc, .int .i64 xl, .int .i64 xs] 46))) := HR.out.2.trans (HR.out.1.kp bA)
      clear hI hx hv2 hk bA HXr e3 HR
      go_wp2_with (go_at_call 50; refine CK.out.mono ?_; rintro e1 u2 ⟨rfl, k1, k2⟩)
      exact ⟨⟨j + 1, by omega, by go_num, k1, KA.out.trans k2⟩, by simp [intOf]; omega⟩
    · obtain rfl : j = n := by omega
      have i3 : ¬ ((j : Int) < (j : Int)) := by omega
      obtain ⟨hP, hF⟩ := HXr.out.point c (.pointer (some ⟨y, 0, none⟩))
      have lr := block_lt HXr.out.blk
      have fz := frozen_row HXr.out.blk (4 + c)
      have hcell := (HXr.out.cell (4 + c)).trans (HC.out.pt c hc)
      have Z : Hid (Met w0 w (wr.setCell ⟨o, 4 + c, none⟩ (.pointer (some ⟨y, 0, none⟩))) o b cs E M D S vs vE vD βs βE βD K F c y) := by
        refine ⟨_, _, (j : Int), hP, ?_, by rw [← HH.out.1, HN.out]; exact Int.le_refl _, set_in (by rw [HX.out.sz]; omega), fun k hk hkc => ⟨set_at (by omega), setO_other _ _ hkc⟩, HR.out.1.write hF (fun k hk => ⟨hK k (.inl hk), HC.out.lo k (hK k (.inl hk))⟩), fun k hk hko => (hF.block k (HR.out.1.old k hk) hko).trans (HR.out.2 k hk)⟩
        rw [setO_same, quQ_none HH.out.1 HH.out.2.2, List.take_of_length_le (Nat.le_of_eq HN.out)]
      have hcell2 := (hP.cell (4 + c)).trans (set_in (by rw [HX.out.sz]; omega))
      clear hP hF HXr HR
      go_wp2_with fail
      go_ret
      exact ⟨_, rfl, Z.out⟩
theorem meet_any (hX : OX w o b cs E D M S vs vE vD βs βE βD) (hC : OC w0 w K E D cs x ls F) (hK : ∀ k, OB o b βs βE βD k → K k) (hl : D.length = E.length) (hv : ∀ d ∈ D, validP d = 0) (hn : D.length ≤ 4096) {c : Nat} (hc : c ≤ 64) :
    Calls Tryz.prog 47 #[.pointer (some ⟨o, 0, none⟩), .int .i64 (c : Int)] w fun e w' => ∃ y, e = .returned (.pointer (some ⟨y, 0, none⟩)) ∧ Met w0 w w' o b cs E M D S vs vE vD βs βE βD K F c y := by
  by_cases h0 : cnP (c : Int) E = 0
  · exact meet_none hX hC hK hl hv hn hc h0
  · exact meet_some hX hC hK hc h0
end

end Go.Proofs.YtilidolbplglcaaGreatDoor
