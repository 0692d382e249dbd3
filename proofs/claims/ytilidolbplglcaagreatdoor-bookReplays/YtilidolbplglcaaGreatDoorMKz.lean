/-
  Texts put together: Kz Ya Yb.
-/
import Derived.Test.YtilidolbplglcaaGreatDoorKy
/-! Kz -/
namespace Go.Proofs.YtilidolbplglcaaGreatDoor
open Go.RowKit
set_option linter.unusedVariables false

abbrev SV := Option Addr × Nat × Nat
def SV.val (x : SV) : Value := .slice x.1 x.2.1 x.2.2
def svc (x : SV) : List Value := [SV.val x]
theorem sz_svc : Sz svc 1 := fun x => ⟨rfl, fun v hv => by simp only [svc, List.mem_singleton] at hv; subst hv; rfl⟩
theorem infoEs : (Tryz.prog.info? 22).map (fun i => (i.zero, i.size, i.bytes)) = some (some (.slice none 0 0), 1, 24) := by kernel_rfl
theorem infoLs : (Tryz.prog.info? 25).map (fun i => (i.zero, i.size, i.bytes)) = some (some (.slice none 0 0), 1, 24) := by kernel_rfl
/-- The shelf at block sx. -/
structure ShX (w : World) (sx : Nat) (E W D U : List SV) (mk : Int) (vE vW vD vU : Value) (bE bW bD bU : Option Nat) : Prop where
  blk : w.heap[sx]? = some (.cells #[vE, vW, vD, vU, .int .i64 mk] 38 (0, 0))
  e : SF svc 1 w 22 bE vE E
  we : SF svc 1 w 22 bW vW W
  d : SF svc 1 w 25 bD vD D
  wd : SF svc 1 w 25 bU vU U
  ne : ∀ g, bE = some g → bW ≠ some g
  nd : ∀ g, bD = some g → bU ≠ some g
/-- Its blocks. -/
def SB (sx : Nat) (bE bW bD bU : Option Nat) : Nat → Prop := fun k => k = sx ∨ bE = some k ∨ bW = some k ∨ bD = some k ∨ bU = some k
section
variable {w w' u : World} {sx : Nat} {E W D U : List SV} {mk : Int} {vE vW vD vU : Value} {bE bW bD bU : Option Nat} {T : Nat → Prop}
theorem ShX.fr (h : ShX w sx E W D U mk vE vW vD vU bE bW bD bU) (hF : Fr T w w') (hT : ∀ k, SB sx bE bW bD bU k → ¬ T k) : ShX w' sx E W D U mk vE vW vD vU bE bW bD bU :=
  ⟨hF.keeps h.blk (hT sx (.inl rfl)), h.e.fr hF (fun g hg => hT g (.inr (.inl hg))), h.we.fr hF (fun g hg => hT g (.inr (.inr (.inl hg)))), h.d.fr hF (fun g hg => hT g (.inr (.inr (.inr (.inl hg))))), h.wd.fr hF (fun g hg => hT g (.inr (.inr (.inr (.inr hg))))), h.ne, h.nd⟩
theorem ShX.below (h : ShX w sx E W D U mk vE vW vD vU bE bW bD bU) (hb : Below w.heap.size w w') : ShX w' sx E W D U mk vE vW vD vU bE bW bD bU := h.fr (Fr.of_below (S := fun _ => False) hb) (fun _ _ h => h)
theorem ShX.old (h : ShX w sx E W D U mk vE vW vD vU bE bW bD bU) : ∀ k, SB sx bE bW bD bU k → k < w.heap.size := by
  rintro k (rfl | hk | hk | hk | hk)
  · exact block_lt h.blk
  · exact h.e.lt _ hk
  · exact h.we.lt _ hk
  · exact h.d.lt _ hk
  · exact h.wd.lt _ hk
theorem ShX.mark (h : ShX w sx E W D U mk vE vW vD vU bE bW bD bU) (m : Int) : ShX (w.setCell ⟨sx, 4, none⟩ (.int .i64 m)) sx E W D U m vE vW vD vU bE bW bD bU ∧ Fr (· = sx) w (w.setCell ⟨sx, 4, none⟩ (.int .i64 m)) := by
  have hF : Fr (· = sx) w (w.setCell ⟨sx, 4, none⟩ (.int .i64 m)) := Fr.setCell _ _ _ rfl
  refine ⟨⟨?_, h.e.fr hF (fun g hg => (h.e.ne h.blk (by decide) g hg).2), h.we.fr hF (fun g hg => (h.we.ne h.blk (by decide) g hg).2), h.d.fr hF (fun g hg => (h.d.ne h.blk (by decide) g hg).2), h.wd.fr hF (fun g hg => (h.wd.ne h.blk (by decide) g hg).2), h.ne, h.nd⟩, hF⟩
  have := set_row h.blk 4 (.int .i64 m)
  simpa using this
theorem ShX.pushEs (h : ShX w sx E W D U mk vE vW vD vU bE bW bD bU) (x : SV) (b2 : Below w.heap.size w u) (t : Nat) (hb : u.heap[t]? = some (.cells #[x.val] 22 (0, 0))) (hn : E.length ≤ 1000) :
    ∃ a c u', (∀ ty, (Builtin.append_ #[35, 35] ty #[vE, .slice (some ⟨t, 0, none⟩) 1 1]).run Tryz.prog u = .ok (.slice a (E.length + 1) c) u') ∧ u'.heap[sx]? = some (.cells #[vE, vW, vD, vU, .int .i64 mk] 38 (0, 0)) ∧
      ∃ g', ShX (u'.setCell ⟨sx, 0, none⟩ (.slice a (E.length + 1) c)) sx (E ++ [x]) W D U mk (.slice a (E.length + 1) c) vW vD vU (some g') bW bD bU ∧ Fr (fun j => j = sx ∨ bE = some j) w (u'.setCell ⟨sx, 0, none⟩ (.slice a (E.length + 1) c)) ∧ (bE = some g' ∨ w.heap.size ≤ g') := by
  obtain ⟨i0, hi0, hz0, hz1, hz2⟩ := info_parts infoEs
  obtain ⟨v', u', hr, hN⟩ := run_pushF sz_svc (P := Tryz.prog) _ 35 0 22 i0 _ 24 Tryz.underlying35 hi0 hz0 hz1 rfl hz2 bE vE E (h.e.fr (Fr.of_below (S := fun _ => False) b2) (fun _ _ h => h)) ⟨t, 0, none⟩ 1 1 [x] rfl (fun j z hj => by
    rw [cl_one] at hj
    rw [add_lit, cell_row hb, Nat.zero_add]
    simpa [svc] using hj) (by omega) (by omega) (by omega)
  obtain ⟨g', h1, h2, h3, h4, h5⟩ := now_set (o := 0) hN b2 h.blk (h.e.ne h.blk (by decide))
  obtain ⟨a, c, e1, -⟩ := h1.form
  simp only [List.length_append, List.length_cons, List.length_nil, Nat.zero_add] at e1
  subst e1
  have hap : ∀ g, bW = some g → bE ≠ some g := fun g hg hg' => h.ne g hg' hg
  have hgp : bW ≠ some g' := fun hg => by
    rcases h4 with h4 | h4
    · exact hap g' hg h4
    · have := h.we.lt g' hg; omega
  refine ⟨a, c, u', fun ty => hr, h5, g', ⟨h2, h1, h.we.fr h3 (fun g hg hs => ?_), h.d.fr h3 (fun g hg hs => ?_), h.wd.fr h3 (fun g hg hs => ?_), ?_, ?_⟩, h3, h4⟩
  · exact hs.elim ((h.we.ne h.blk (by decide) g hg).2) (hap g hg)
  · exact hs.elim ((h.d.ne h.blk (by decide) g hg).2) (h.d.apart h.e (by decide) g hg)
  · exact hs.elim ((h.wd.ne h.blk (by decide) g hg).2) (h.wd.apart h.e (by decide) g hg)
  · intro g hg
    injection hg with hg
    subst hg
    exact hgp
  · exact h.nd
theorem ShX.pushWs (h : ShX w sx E W D U mk vE vW vD vU bE bW bD bU) (x : SV) (b2 : Below w.heap.size w u) (t : Nat) (hb : u.heap[t]? = some (.cells #[x.val] 22 (0, 0))) (hn : W.length ≤ 1000) :
    ∃ a c u', (∀ ty, (Builtin.append_ #[35, 35] ty #[vW, .slice (some ⟨t, 0, none⟩) 1 1]).run Tryz.prog u = .ok (.slice a (W.length + 1) c) u') ∧ u'.heap[sx]? = some (.cells #[vE, vW, vD, vU, .int .i64 mk] 38 (0, 0)) ∧
      ∃ g', ShX (u'.setCell ⟨sx, 1, none⟩ (.slice a (W.length + 1) c)) sx E (W ++ [x]) D U mk vE (.slice a (W.length + 1) c) vD vU bE (some g') bD bU ∧ Fr (fun j => j = sx ∨ bW = some j) w (u'.setCell ⟨sx, 1, none⟩ (.slice a (W.length + 1) c)) ∧ (bW = some g' ∨ w.heap.size ≤ g') := by
  obtain ⟨i0, hi0, hz0, hz1, hz2⟩ := info_parts infoEs
  obtain ⟨v', u', hr, hN⟩ := run_pushF sz_svc (P := Tryz.prog) _ 35 0 22 i0 _ 24 Tryz.underlying35 hi0 hz0 hz1 rfl hz2 bW vW W (h.we.fr (Fr.of_below (S := fun _ => False) b2) (fun _ _ h => h)) ⟨t, 0, none⟩ 1 1 [x] rfl (fun j z hj => by
    rw [cl_one] at hj
    rw [add_lit, cell_row hb, Nat.zero_add]
    simpa [svc] using hj) (by omega) (by omega) (by omega)
  obtain ⟨g', h1, h2, h3, h4, h5⟩ := now_set (o := 1) hN b2 h.blk (h.we.ne h.blk (by decide))
  obtain ⟨a, c, e1, -⟩ := h1.form
  simp only [List.length_append, List.length_cons, List.length_nil, Nat.zero_add] at e1
  subst e1
  have hap : ∀ g, bE = some g → bW ≠ some g := fun g hg hg' => h.ne g hg hg'
  have hgp : bE ≠ some g' := fun hg => by
    rcases h4 with h4 | h4
    · exact hap g' hg h4
    · have := h.e.lt g' hg; omega
  refine ⟨a, c, u', fun ty => hr, h5, g', ⟨h2, h.e.fr h3 (fun g hg hs => ?_), h1, h.d.fr h3 (fun g hg hs => ?_), h.wd.fr h3 (fun g hg hs => ?_), ?_, ?_⟩, h3, h4⟩
  · exact hs.elim ((h.e.ne h.blk (by decide) g hg).2) (hap g hg)
  · exact hs.elim ((h.d.ne h.blk (by decide) g hg).2) (h.d.apart h.we (by decide) g hg)
  · exact hs.elim ((h.wd.ne h.blk (by decide) g hg).2) (h.wd.apart h.we (by decide) g hg)
  · intro g hg hg2
    injection hg2 with hg2
    subst hg2
    exact hgp hg
  · exact h.nd
theorem ShX.pushDs (h : ShX w sx E W D U mk vE vW vD vU bE bW bD bU) (x : SV) (b2 : Below w.heap.size w u) (t : Nat) (hb : u.heap[t]? = some (.cells #[x.val] 25 (0, 0))) (hn : D.length ≤ 1000) :
    ∃ a c u', (∀ ty, (Builtin.append_ #[36, 36] ty #[vD, .slice (some ⟨t, 0, none⟩) 1 1]).run Tryz.prog u = .ok (.slice a (D.length + 1) c) u') ∧ u'.heap[sx]? = some (.cells #[vE, vW, vD, vU, .int .i64 mk] 38 (0, 0)) ∧
      ∃ g', ShX (u'.setCell ⟨sx, 2, none⟩ (.slice a (D.length + 1) c)) sx E W (D ++ [x]) U mk vE vW (.slice a (D.length + 1) c) vU bE bW (some g') bU ∧ Fr (fun j => j = sx ∨ bD = some j) w (u'.setCell ⟨sx, 2, none⟩ (.slice a (D.length + 1) c)) ∧ (bD = some g' ∨ w.heap.size ≤ g') := by
  obtain ⟨i0, hi0, hz0, hz1, hz2⟩ := info_parts infoLs
  obtain ⟨v', u', hr, hN⟩ := run_pushF sz_svc (P := Tryz.prog) _ 36 0 25 i0 _ 24 Tryz.underlying36 hi0 hz0 hz1 rfl hz2 bD vD D (h.d.fr (Fr.of_below (S := fun _ => False) b2) (fun _ _ h => h)) ⟨t, 0, none⟩ 1 1 [x] rfl (fun j z hj => by
    rw [cl_one] at hj
    rw [add_lit, cell_row hb, Nat.zero_add]
    simpa [svc] using hj) (by omega) (by omega) (by omega)
  obtain ⟨g', h1, h2, h3, h4, h5⟩ := now_set (o := 2) hN b2 h.blk (h.d.ne h.blk (by decide))
  obtain ⟨a, c, e1, -⟩ := h1.form
  simp only [List.length_append, List.length_cons, List.length_nil, Nat.zero_add] at e1
  subst e1
  have hap : ∀ g, bU = some g → bD ≠ some g := fun g hg hg' => h.nd g hg' hg
  have hgp : bU ≠ some g' := fun hg => by
    rcases h4 with h4 | h4
    · exact hap g' hg h4
    · have := h.wd.lt g' hg; omega
  refine ⟨a, c, u', fun ty => hr, h5, g', ⟨h2, h.e.fr h3 (fun g hg hs => ?_), h.we.fr h3 (fun g hg hs => ?_), h1, h.wd.fr h3 (fun g hg hs => ?_), ?_, ?_⟩, h3, h4⟩
  · exact hs.elim ((h.e.ne h.blk (by decide) g hg).2) (h.e.apart h.d (by decide) g hg)
  · exact hs.elim ((h.we.ne h.blk (by decide) g hg).2) (h.we.apart h.d (by decide) g hg)
  · exact hs.elim ((h.wd.ne h.blk (by decide) g hg).2) (hap g hg)
  · exact h.ne
  · intro g hg
    injection hg with hg
    subst hg
    exact hgp
theorem ShX.pushUs (h : ShX w sx E W D U mk vE vW vD vU bE bW bD bU) (x : SV) (b2 : Below w.heap.size w u) (t : Nat) (hb : u.heap[t]? = some (.cells #[x.val] 25 (0, 0))) (hn : U.length ≤ 1000) :
    ∃ a c u', (∀ ty, (Builtin.append_ #[36, 36] ty #[vU, .slice (some ⟨t, 0, none⟩) 1 1]).run Tryz.prog u = .ok (.slice a (U.length + 1) c) u') ∧ u'.heap[sx]? = some (.cells #[vE, vW, vD, vU, .int .i64 mk] 38 (0, 0)) ∧
      ∃ g', ShX (u'.setCell ⟨sx, 3, none⟩ (.slice a (U.length + 1) c)) sx E W D (U ++ [x]) mk vE vW vD (.slice a (U.length + 1) c) bE bW bD (some g') ∧ Fr (fun j => j = sx ∨ bU = some j) w (u'.setCell ⟨sx, 3, none⟩ (.slice a (U.length + 1) c)) ∧ (bU = some g' ∨ w.heap.size ≤ g') := by
  obtain ⟨i0, hi0, hz0, hz1, hz2⟩ := info_parts infoLs
  obtain ⟨v', u', hr, hN⟩ := run_pushF sz_svc (P := Tryz.prog) _ 36 0 25 i0 _ 24 Tryz.underlying36 hi0 hz0 hz1 rfl hz2 bU vU U (h.wd.fr (Fr.of_below (S := fun _ => False) b2) (fun _ _ h => h)) ⟨t, 0, none⟩ 1 1 [x] rfl (fun j z hj => by
    rw [cl_one] at hj
    rw [add_lit, cell_row hb, Nat.zero_add]
    simpa [svc] using hj) (by omega) (by omega) (by omega)
  obtain ⟨g', h1, h2, h3, h4, h5⟩ := now_set (o := 3) hN b2 h.blk (h.wd.ne h.blk (by decide))
  obtain ⟨a, c, e1, -⟩ := h1.form
  simp only [List.length_append, List.length_cons, List.length_nil, Nat.zero_add] at e1
  subst e1
  have hap : ∀ g, bD = some g → bU ≠ some g := fun g hg hg' => h.nd g hg hg'
  have hgp : bD ≠ some g' := fun hg => by
    rcases h4 with h4 | h4
    · exact hap g' hg h4
    · have := h.d.lt g' hg; omega
  refine ⟨a, c, u', fun ty => hr, h5, g', ⟨h2, h.e.fr h3 (fun g hg hs => ?_), h.we.fr h3 (fun g hg hs => ?_), h.d.fr h3 (fun g hg hs => ?_), h1, ?_, ?_⟩, h3, h4⟩
  · exact hs.elim ((h.e.ne h.blk (by decide) g hg).2) (h.e.apart h.wd (by decide) g hg)
  · exact hs.elim ((h.we.ne h.blk (by decide) g hg).2) (h.we.apart h.wd (by decide) g hg)
  · exact hs.elim ((h.d.ne h.blk (by decide) g hg).2) (hap g hg)
  · exact h.ne
  · intro g hg hg2
    injection hg2 with hg2
    subst hg2
    exact hgp hg
end
/-- The shelf as an object. -/
def shO (sx : Nat) (E W D U : List SV) (mk : Int) : Thg := fun w S => ∃ vE vW vD vU bE bW bD bU, ShX w sx E W D U mk vE vW vD vU bE bW bD bU ∧ ∀ g, S g ↔ SB sx bE bW bD bU g
theorem frm_sh (sx : Nat) (E W D U : List SV) (mk : Int) : Frm (shO sx E W D U mk) := by
  refine ⟨fun w w' S T h hF hS => ?_, fun w S h j hj => ?_⟩
  · obtain ⟨vE, vW, vD, vU, bE, bW, bD, bU, h1, h2⟩ := h
    exact ⟨vE, vW, vD, vU, bE, bW, bD, bU, h1.fr hF (fun k hk => hS k ((h2 k).2 hk)), h2⟩
  · obtain ⟨vE, vW, vD, vU, bE, bW, bD, bU, h1, h2⟩ := h
    exact h1.old j ((h2 j).1 hj)
/-- Two objects that one call changes. -/
theorem MO.two {w0 w : World} {K : Nat → Prop} {F : Nat → Thg} (h : MO w0 w K F) (i j : Nat) (hij : i ≠ j) : ∃ S1 S2, F i w S1 ∧ F j w S2 ∧ (∀ k, S1 k → ¬ S2 k) ∧ ∀ (G1 G2 : Thg) w' (S1' S2' : Nat → Prop), Frm G1 → Frm G2 → G1 w' S1' → G2 w' S2' → (∀ k, S1' k → ¬ S2' k) → (∀ k, S1' k → S1 k ∨ w.heap.size ≤ k) → (∀ k, S2' k → S2 k ∨ w.heap.size ≤ k) → Fr (fun k => S1 k ∨ S2 k) w w' → MO w0 w' K (setO (setO F i G1) j G2) ∧ KP K w w' := by
  classical
  obtain ⟨T, hx, hk⟩ := h.tags
  obtain ⟨S1, a1, a2⟩ := hx i
  obtain ⟨S2, b1, b2⟩ := hx j
  have hs := h.base.size
  refine ⟨S1, S2, a1, b1, fun k h1 h2 => by have := (a2 k h1).1; have := (b2 k h2).1; omega, fun G1 G2 w' S1' S2' f1 f2 g1 g2 d l1 l2 hF => ?_⟩
  have o1 := (h.frm i).old _ _ a1
  have o2 := (h.frm j).old _ _ b1
  refine ⟨⟨⟨fun k => if w.heap.size ≤ k then (if S2' k then j + 1 else i + 1) else T k, fun m => ?_, fun k hk' => ?_⟩, h.base.trans (hF.below hs (fun k hk => hk.elim (fun h => (a2 k h).2) (fun h => (b2 k h).2))), fun k hk => Nat.lt_of_lt_of_le (h.old k hk) hF.size, fun m => ?_⟩, fun k hk' => hF.block k (h.old k hk') (fun hS => ?_)⟩
  · by_cases e2 : m = j
    · subst e2
      rw [setO_same]
      refine ⟨S2', g2, fun k hk => ?_⟩
      simp only
      rcases l2 k hk with h6 | h6
      · rw [if_neg (by have := o2 k h6; omega)]
        exact b2 k h6
      · rw [if_pos h6, if_pos hk]
        exact ⟨rfl, by omega⟩
    · rw [setO_other _ _ e2]
      by_cases e1 : m = i
      · subst e1
        rw [setO_same]
        refine ⟨S1', g1, fun k hk => ?_⟩
        simp only
        rcases l1 k hk with h6 | h6
        · rw [if_neg (by have := o1 k h6; omega)]
          exact a2 k h6
        · rw [if_pos h6, if_neg (d k hk)]
          exact ⟨rfl, by omega⟩
      · rw [setO_other _ _ e1]
        obtain ⟨S, h3, h4⟩ := hx m
        refine ⟨S, (h.frm m).fr _ _ S _ h3 hF (fun k hk hs => ?_), fun k hk => ?_⟩
        · have := (h4 k hk).1
          rcases hs with hs | hs
          · have := (a2 k hs).1; omega
          · have := (b2 k hs).1; omega
        · have := (h.frm m).old _ _ h3 k hk
          simp only
          rw [if_neg (by omega)]
          exact h4 k hk
  · have := h.old k hk'
    simp only
    rw [if_neg (by omega)]
    exact hk k hk'
  · by_cases e2 : m = j
    · subst e2; rw [setO_same]; exact f2
    · rw [setO_other _ _ e2]
      by_cases e1 : m = i
      · subst e1; rw [setO_same]; exact f1
      · rw [setO_other _ _ e1]; exact h.frm m
  · have := hk k hk'
    rcases hS with hS | hS
    · have := (a2 k hS).1; omega
    · have := (b2 k hS).1; omega

end Go.Proofs.YtilidolbplglcaaGreatDoor

/-! Ya -/
namespace Go.Proofs.YtilidolbplglcaaGreatDoor
open Go.RowKit
set_option linter.unusedVariables false

theorem setCells_splice {g : Nat} {t : TypeId} : ∀ (vs : List Value) (o : Nat) (w : World) (cur : List Value), w.heap[g]? = some (.cells cur.toArray t (0, 0)) → o + vs.length ≤ cur.length → (w.setCells g o vs).heap[g]? = some (.cells (cur.take o ++ vs ++ cur.drop (o + vs.length)).toArray t (0, 0))
  | [], o, w, cur, h, _ => by simpa [World.setCells] using h
  | v :: vs, o, w, cur, h, hl => by
    rw [List.length_cons] at hl
    rw [World.setCells]
    have h1 := set_row h o v
    simp only [List.setIfInBounds_toArray] at h1
    have h2 := setCells_splice vs (o + 1) _ _ h1 (by rw [List.length_set]; omega)
    rw [h2]
    congr 3
    rw [List.set_eq_take_append_cons_drop, if_pos (by omega)]
    have l1 : (cur.take o).length = o := by rw [List.length_take]; omega
    have e1 : (cur.take o ++ v :: cur.drop (o + 1)).take (o + 1) = cur.take o ++ [v] := by
      rw [List.take_append, l1, show o + 1 - o = 1 by omega, List.take_of_length_le (l := cur.take o) (by omega)]
      simp
    have e2 : (cur.take o ++ v :: cur.drop (o + 1)).drop (o + 1 + vs.length) = cur.drop (o + (vs.length + 1)) := by
      rw [List.drop_append, l1, List.drop_eq_nil_of_le (by omega), show o + 1 + vs.length - o = vs.length + 1 by omega, List.nil_append, List.drop_succ_cons, List.drop_drop]
      congr 1
      omega
    rw [e1, e2, List.length_cons]
    simp
section
variable {α : Type} {f : α → List Value} {k : Nat}
theorem cl_set (hz : Sz f k) {xs : List α} {i : Nat} (y : α) (hi : i < xs.length) : cl f (xs.set i y) = (cl f xs).take (i * k) ++ f y ++ (cl f xs).drop (i * k + k) := by
  rw [List.set_eq_take_append_cons_drop, if_pos hi, cl_app, cl_cons, cl_take hz, show i * k + k = (i + 1) * k by rw [Nat.add_mul, Nat.one_mul], cl_drop hz, List.append_assoc]
theorem RowF.setN {w : World} {g N cap : Nat} {e : TypeId} {xs : List α} (h : RowF f k w g N cap e xs) (hz : Sz f k) (i : Nat) (hi : i < N) (y : α) : RowF f k (w.setCells g (i * k) (f y)) g N cap e (xs.set i y) := by
  obtain ⟨cur, hh, ht, hl, hn, hm, hs⟩ := h
  have hNk : i * k + k ≤ N * k := by
    have : (i + 1) * k ≤ N * k := Nat.mul_le_mul_right _ (by omega)
    rwa [Nat.add_mul, Nat.one_mul] at this
  have hck : N * k ≤ cap * k := Nat.mul_le_mul_right _ hn
  have hy := (hz y).1
  have hsp := setCells_splice (f y) (i * k) w cur hh (by rw [hy, hs]; omega)
  rw [hy] at hsp
  refine ⟨_, hsp, ?_, by simpa using hl, hn, hm, ?_⟩
  · rw [cl_set hz y (by omega), ← ht]
    have l1 : (cur.take (i * k)).length = i * k := by rw [List.length_take]; omega
    have l2 : (cur.take (i * k) ++ f y).length = i * k + k := by rw [List.length_append, l1, hy]
    rw [List.take_append, l2, List.take_of_length_le (by omega), List.take_take, Nat.min_eq_left (by omega), List.drop_take]
  · rw [List.length_append, List.length_append, List.length_take, List.length_drop, hy, hs]
    omega
end
/-- A shelf and a list that is written: S has the list's blocks. -/
structure EsS (w wr : World) (sx : Nat) (E W D U : List SV) (mk : Int) (vE vW vD vU : Value) (bE bW bD bU : Option Nat) (S : Nat → Prop) (β : Option Nat) (B : Nat → Prop) : Prop where
  X : ShX wr sx E W D U mk vE vW vD vU bE bW bD bU
  fr : Fr (fun k => β = some k ∨ B k) w wr
  sb : ∀ k, SB sx bE bW bD bU k → B k ∨ w.heap.size ≤ k
  dj : ∀ k, S k → ¬ SB sx bE bW bD bU k
  sl : ∀ k, S k → k < wr.heap.size
  so : ∀ k, S k → β = some k ∨ w.heap.size ≤ k
section
variable {w wr w' u : World} {sx : Nat} {E W D U E' W' D' U' : List SV} {mk mk' : Int} {vE vW vD vU vE' vW' vD' vU' : Value} {bE bW bD bU bE' bW' bD' bU' : Option Nat} {S S2 T : Nat → Prop} {β : Option Nat} {B : Nat → Prop}
/-- The list is written. -/
theorem EsS.list (h : EsS w wr sx E W D U mk vE vW vD vU bE bW bD bU S β B) (hF : Fr T wr w') (hT : ∀ k, T k → S k) (h2 : ∀ k, S2 k → S k ∨ wr.heap.size ≤ k) (h3 : ∀ k, S2 k → k < w'.heap.size) : EsS w w' sx E W D U mk vE vW vD vU bE bW bD bU S2 β B := by
  have hz := h.fr.size
  refine ⟨h.X.fr hF (fun k hk ht => h.dj k (hT k ht) hk), (h.fr.mono (fun _ _ hk => hk)).next hF (fun k hk ht => ?_), h.sb, fun k hk hs => ?_, h3, fun k hk => ?_⟩
  · rcases h.so k (hT k ht) with h4 | h4
    · exact .inl h4
    · omega
  · rcases h2 k hk with h4 | h4
    · exact h.dj k h4 hs
    · have := h.X.old k hs; omega
  · rcases h2 k hk with h4 | h4
    · exact h.so k h4
    · exact .inr (by omega)
/-- The shelf is written. -/
theorem EsS.shelf (h : EsS w wr sx E W D U mk vE vW vD vU bE bW bD bU S β B) (hX : ShX w' sx E' W' D' U' mk' vE' vW' vD' vU' bE' bW' bD' bU') (hF : Fr T wr w') (hT : ∀ k, T k → SB sx bE bW bD bU k) (hB : ∀ k, SB sx bE' bW' bD' bU' k → SB sx bE bW bD bU k ∨ wr.heap.size ≤ k) : EsS w w' sx E' W' D' U' mk' vE' vW' vD' vU' bE' bW' bD' bU' S β B := by
  have hz := h.fr.size
  refine ⟨hX, h.fr.next hF (fun k hk ht => ?_), fun k hk => ?_, fun k hk hs => ?_, fun k hk => Nat.lt_of_lt_of_le (h.sl k hk) hF.size, h.so⟩
  · rcases h.sb k (hT k ht) with h4 | h4
    · exact .inr h4
    · omega
  · rcases hB k hk with h4 | h4
    · exact h.sb k h4
    · exact .inr (by omega)
  · rcases hB k hs with h4 | h4
    · exact h.dj k hk h4
    · have := h.sl k hk; omega
end

end Go.Proofs.YtilidolbplglcaaGreatDoor

/-! Yb -/
namespace Go.Proofs.YtilidolbplglcaaGreatDoor
open Go.RowKit
set_option linter.unusedVariables false

section
variable {w w7 : World} {sx : Nat} {E W D U : List SV} {mk : Int} {vE vW vD vU : Value} {bE bW bD bU β : Option Nat} {S B : Nat → Prop}
set_option maxRecDepth 100000 in
/-- A copy of a list is put onto the shelf. -/
theorem EsS.cpE {aW : Option Addr} {nW cW : Nat} (h : EsS w w7 sx E W D U mk vE (.slice aW nW cW) vD vU bE bW bD bU S β B) (hlW : W.length = nW) (hnW : nW ≤ 30) {v : Value} {ys : List Ed} (hv : Rs edc 6 w7 S v ys) (hn : ys.length ≤ 2932031007500) :
    ∃ (u1 : SV) (W2 W4 : World) (a4 : Option Addr) (c4 : Nat) (S2 : Nat → Prop) (b2' : Option Nat),
      (∀ ty, (Builtin.append_ #[22, 22] ty #[.slice (some ⟨w7.heap.size, 0, none⟩) 0 0, v]).run Tryz.prog (w7.drew.alloc (.cells #[] 48)) = .ok u1.val W2) ∧
      (∀ ty, (Builtin.append_ #[35, 35] ty #[.slice aW nW cW, .slice (some ⟨W2.heap.size, 0, none⟩) 1 1]).run Tryz.prog (W2.alloc (.cells #[u1.val] 22)) = .ok (.slice a4 (nW + 1) c4) W4) ∧
      (∀ X : World, (X = w7.drew ∨ X = w7.drew.alloc (.cells #[] 48) ∨ X = W2 ∨ X = W2.alloc (.cells #[u1.val] 22) ∨ X = W4) → X.cell? ⟨sx, 1, none⟩ = some (.slice aW nW cW) ∧ X.frozen? ⟨sx, 1, none⟩ = false) ∧
      EsS w (W4.setCell ⟨sx, 1, none⟩ (.slice a4 (nW + 1) c4)) sx E (W ++ [u1]) D U mk vE (.slice a4 (nW + 1) c4) vD vU bE b2' bD bU S2 β B ∧ Rs edc 6 (W4.setCell ⟨sx, 1, none⟩ (.slice a4 (nW + 1) c4)) (fun k => w7.heap.size ≤ k ∧ S2 k) u1.val ys ∧ (∀ k, S k → S2 k) ∧ Fr (SB sx bE bW bD bU) w7 (W4.setCell ⟨sx, 1, none⟩ (.slice a4 (nW + 1) c4)) := by
  have bA : Below w7.heap.size w7 (w7.drew.alloc (.cells #[] 48)) := ((Below.refl _ _).drew).alloc (Nat.le_refl _) _
  have hg : (w7.drew.alloc (.cells #[] 48)).heap[w7.heap.size]? = some (.cells #[] 48 (0, 0)) := heap_alloc_new w7.drew _
  obtain ⟨i0, hi0, hz0, hz1, hz2⟩ := info_parts infoEd
  obtain ⟨v', W2, hr, g1, hSF, hg1, hF12⟩ := run_copyF szEd (P := Tryz.prog) _ 22 48 i0 _ 48 Tryz.underlying22 hi0 hz0 hz1 rfl hz2 w7.heap.size hg v ys (hv.fr (Fr.of_below (S := fun _ => False) bA) (fun _ _ h => h)).rd (by omega) (by omega)
  obtain ⟨ca, cc, rfl, -⟩ := hSF.form
  have hszA : (w7.drew.alloc (.cells #[] 48)).heap.size = w7.heap.size + 1 := by simp
  have F07 : Fr (fun _ => False) w7 W2 := (Fr.of_below (S := fun _ => False) bA).next hF12 (fun k hk he => by omega)
  have hg7 : w7.heap.size ≤ g1 := by rcases hg1 with h1 | h1 <;> omega
  have hgl := hSF.lt g1 rfl
  have ESm := h.list (S2 := fun k => S k ∨ k = g1) F07 (fun _ h => h.elim) (fun k hk => hk.imp id (fun h => by omega)) (fun k hk => by
    rcases hk with hk | hk
    · exact Nat.lt_of_lt_of_le (h.sl k hk) F07.size
    · rw [hk]; exact hgl)
  obtain ⟨a4, c4, W4, hap, k2, g4, k3, k4, k5⟩ := ESm.X.pushWs (u := W2.alloc (.cells #[SV.val (ca, ys.length, cc)] 22)) (ca, ys.length, cc) ((Below.refl _ _).alloc (Nat.le_refl _) _) W2.heap.size (heap_alloc_new W2 _) (by omega)
  rw [hlW] at hap k3 k4
  have r1 : Rs edc 6 W2 (fun k => w7.heap.size ≤ k ∧ (S k ∨ k = g1)) (SV.val (ca, ys.length, cc)) ys := (hSF.rs szEd).mono (fun b hb => by injection hb with hb; exact ⟨by omega, .inr hb.symm⟩)
  refine ⟨(ca, ys.length, cc), W2, W4, a4, c4, fun k => S k ∨ k = g1, some g4, hr, hap, ?_, ESm.shelf k3 k4 (fun k hk => hk.elim .inl (fun h => .inr (.inr (.inl h)))) ?_, r1.fr k4 (fun b hb hs => ESm.dj b hb.2 (hs.elim .inl (fun h => .inr (.inr (.inl h))))), fun k hk => .inl hk, ?_⟩
  · have kk : ∀ X : World, X.heap[sx]? = w7.heap[sx]? → X.cell? ⟨sx, 1, none⟩ = some (.slice aW nW cW) ∧ X.frozen? ⟨sx, 1, none⟩ = false := fun X hX => by
      have hb := hX.trans h.X.blk
      exact ⟨by rw [cell_row hb]; rfl, frozen_row hb _⟩
    have lsx := block_lt h.X.blk
    have h2 : W2.heap[sx]? = w7.heap[sx]? := F07.block sx lsx (fun h => h)
    rintro X (rfl | rfl | rfl | rfl | rfl)
    · exact kk _ rfl
    · exact kk _ (bA.block sx lsx)
    · exact kk _ h2
    · refine kk _ (Eq.trans ?_ h2)
      exact ((Below.refl W2.heap.size W2).alloc (Nat.le_refl _) _ : Below W2.heap.size W2 (W2.alloc (.cells #[SV.val (ca, ys.length, cc)] 22))).block sx (Nat.lt_of_lt_of_le lsx F07.size)
    · refine kk _ (k2.trans ?_)
      exact h.X.blk.symm
  · intro k hk
    revert k hk
    rintro k (hk | hk | hk | hk | hk)
    · exact .inl (.inl hk)
    · exact .inl (.inr (.inl hk))
    · injection hk with hk
      subst hk
      exact k5.imp (fun h => .inr (.inr (.inl h))) id
    · exact .inl (.inr (.inr (.inr (.inl hk))))
    · exact .inl (.inr (.inr (.inr (.inr hk))))

  · exact (F07.mono (fun _ _ h => h.elim)).next k4 (fun k hk hs => hs.elim .inl (fun h => .inr (.inr (.inl h))))
end
section
variable {w : World} {sx : Nat} {E W D U : List SV} {mk : Int} {vE vW vD vU : Value} {bE bW bD bU β : Option Nat} {v : Value} {xs : List Ed}
/-- What is left behind. -/
def PostE (w w' : World) (sx : Nat) (E W D U : List SV) (mk : Int) (vE vW vD vU : Value) (bE bW bD bU β : Option Nat) (v : Value) (n : Nat) : Prop :=
  ∃ (x g u1 u2 : SV) (S' : Nat → Prop) (v1' v2' : Value) (b1' b2' : Option Nat), v = x.val ∧ EsS w w' sx (E ++ [x] ++ [g]) (W ++ [u1] ++ [u2]) D U (mk + 1) v1' v2' vD vU b1' b2' bD bU S' β (SB sx bE bW bD bU) ∧ Rs edc 6 w' S' x.val (List.replicate n (⟨-(mk + 1), ⟨0, 0, 0, 0, 0⟩⟩ : Ed)) ∧ Rs edc 6 w' S' g.val (List.replicate (n + 3) (⟨-(mk + 1), ⟨0, 0, 0, 0, 0⟩⟩ : Ed)) ∧ Rs edc 6 w' S' u1.val (List.replicate n (⟨-(mk + 1), ⟨0, 0, 0, 0, 0⟩⟩ : Ed)) ∧ Rs edc 6 w' S' u2.val (List.replicate (n + 3) (⟨-(mk + 1), ⟨0, 0, 0, 0, 0⟩⟩ : Ed))
set_option maxRecDepth 100000 in
set_option maxHeartbeats 8000000 in
theorem sedits_any (hX : ShX w sx E W D U mk vE vW vD vU bE bW bD bU) (hL : SF edc 6 w 48 β v xs) (hdj : ∀ g, β = some g → ¬ SB sx bE bW bD bU g) (hE : E.length ≤ 20) (hW : W.length ≤ 20) (hmk : 0 ≤ mk ∧ mk ≤ 1000) (hn : xs.length ≤ 2932031007402) :
    Calls Tryz.prog 9 #[.pointer (some ⟨sx, 0, none⟩), v] w fun e w' => e = .returned (.tuple #[]) ∧ PostE w w' sx E W D U mk vE vW vD vU bE bW bD bU β v xs.length := by
  obtain ⟨a, c, rfl, -⟩ := hL.form
  obtain ⟨aE, cE, hvE, -⟩ := hX.e.form
  obtain ⟨aW, cW, hvW, -⟩ := hX.we.form
  subst hvE hvW
  obtain ⟨n, hl⟩ : ∃ n, xs.length = n := ⟨_, rfl⟩
  obtain ⟨nE, hlE⟩ : ∃ n, E.length = n := ⟨_, rfl⟩
  obtain ⟨nW, hlW⟩ : ∃ n, W.length = n := ⟨_, rfl⟩
  have HL := hd hl
  have HLE := hd hlE
  have HLW := hd hlW
  rw [hl] at hn hL ⊢
  rw [hlE] at hE hX
  rw [hlW] at hW hX
  have ES0 : EsS w w sx E W D U mk (.slice aE nE cE) (.slice aW nW cW) vD vU bE bW bD bU (fun k => β = some k) β (SB sx bE bW bD bU) := ⟨hX, Fr.refl _ _, fun k hk => .inl hk, hdj, fun k hk => hL.lt k hk, fun k hk => .inl hk⟩
  obtain ⟨m1, m2⟩ := hX.mark (mk + 1)
  have ES1 := hd (ES0.shelf m1 m2 (fun k hk => .inl hk) (fun k hk => .inl hk))
  have HL1 := hd (And.intro (hL.fr m2 (fun g hg he => hdj g hg (.inl he))) (fun g (hg : β = some g) => hL.lt g hg))
  have b0 := cell_row hX.blk 0
  have b4 := cell_row hX.blk 4
  have f4 := frozen_row hX.blk 4
  simp at b0 b4
  have lsx := block_lt hX.blk
  have i30 : ¬ ((30 : Int) < (nE : Int)) := by omega
  have wm : wrap64 (mk + 1) = mk + 1 := by rw [wrap64]; omega
  have wn : wrap64 (-(mk + 1)) = -(mk + 1) := by rw [wrap64]; omega
  have HNX := hd (And.intro hn (And.intro hE hW))
  clear hX hL hdj ES0 m1 m2 hl hlE hlW hn hE hW hmk
  go_enter Tryz.func9, Tryz.ntmps9
  go_upto_region 2 with fail
  generalize w.setCell ⟨sx, 4, none⟩ (.int .i64 (mk + 1)) = w1 at *
  clear b0 b4 f4 lsx wm i30
  have b4 := cell_row ES1.out.X.blk 4
  simp at b4
  have lsx := block_lt ES1.out.X.blk
  have bA : Below w1.heap.size w1 (w1.alloc (.cells #[.int .i64 (-(mk + 1)), .int .i64 0, .int .i64 0, .int .u8 0, .int .i64 0, .int .i64 0] 48)) := (Below.refl _ _).alloc (Nat.le_refl _) _
  have hmb := heap_alloc_new w1 (.cells #[.int .i64 (-(mk + 1)), .int .i64 0, .int .i64 0, .int .u8 0, .int .i64 0, .int .i64 0] 48)
  have hz1 := ES1.out.fr.size
  have ES2 := hd (ES1.out.list (S2 := fun k => β = some k ∨ k = w1.heap.size) (Fr.of_below (S := fun _ => False) bA) (fun _ h => h.elim) (fun k hk => hk.imp id (fun h => by omega)) (fun k hk => by
    rcases hk with hk | hk
    · have := HL1.out.2 k hk; have := bA.size; omega
    · rw [hk]; exact block_lt hmb))
  have HL2 := hd (And.intro (HL1.out.1.fr (Fr.of_below (S := fun _ => False) bA) (fun _ _ h => h)) hmb)
  have HMB : Hid (∀ g, β = some g → w1.heap.size ≠ g) := fun g hg => by have := HL1.out.2 g hg; omega
  go_upto_region 4 with fail
  clear b4 lsx bA hmb hz1 ES1 wn
  generalize w1.alloc (.cells #[.int .i64 (-(mk + 1)), .int .i64 0, .int .i64 0, .int .u8 0, .int .i64 0, .int .i64 0] 48) = w2 at *
  generalize w1.heap.size = mb at *
  go_loopw [5] (fun iv wr => ∃ i : Nat, i ≤ n ∧ iv = .int .i64 (i : Int) ∧ Hid (EsS w wr sx E W D U (mk + 1) (.slice aE nE cE) (.slice aW nW cW) vD vU bE bW bD bU (fun k => β = some k ∨ k = mb) β (SB sx bE bW bD bU) ∧ SF edc 6 wr 48 β (.slice a n c) (List.replicate i (⟨-(mk + 1), ⟨0, 0, 0, 0, 0⟩⟩ : Ed) ++ xs.drop i) ∧ wr.heap[mb]? = some (.cells #[.int .i64 (-(mk + 1)), .int .i64 0, .int .i64 0, .int .u8 0, .int .i64 0, .int .i64 0] 48 (0, 0)))) (fun iv _ => n - (intOf iv).toNat)
  case atStart => exact ⟨0, Nat.zero_le _, rfl, ES2.out, by simpa using HL2.out.1, HL2.out.2⟩
  case round =>
    clear ES2 HL2
    obtain ⟨i, hi, rfl, HR⟩ := hrel
    by_cases hin : i < n
    · have hix : i < xs.length := by have := HL.out; omega
      obtain ⟨hES, hSF, hM⟩ := HR.out
      cases β with
      | none =>
        exfalso
        obtain ⟨e1, -⟩ := hSF
        injection e1 with _ e2 _
        omega
      | some g =>
        obtain ⟨cap, e1, hRow⟩ := hSF
        injection e1 with e1 e2 e3
        subst e1 e3
        have hlen : (List.replicate i (⟨-(mk + 1), ⟨0, 0, 0, 0, 0⟩⟩ : Ed) ++ xs.drop i).length = n := by rw [List.length_append, List.length_replicate, List.length_drop]; have := HL.out; omega
        have hil : i < (List.replicate i (⟨-(mk + 1), ⟨0, 0, 0, 0, 0⟩⟩ : Ed) ++ xs.drop i).length := by omega
        have lg := hRow.lt
        have c0 := hRow.cell szEd i 0 hil (by omega)
        have c1 := hRow.cell szEd i 1 hil (by omega)
        have c2 := hRow.cell szEd i 2 hil (by omega)
        have c3 := hRow.cell szEd i 3 hil (by omega)
        have c4 := hRow.cell szEd i 4 hil (by omega)
        have c5 := hRow.cell szEd i 5 hil (by omega)
        obtain ⟨⟨zt, ⟨zk, zp, zc, zl, zs⟩⟩, hz⟩ : ∃ z, (List.replicate i (⟨-(mk + 1), ⟨0, 0, 0, 0, 0⟩⟩ : Ed) ++ xs.drop i)[i] = z := ⟨_, rfl⟩
        rw [hz] at c0 c1 c2 c3 c4 c5
        simp only [edc, opc, List.getElem?_cons_zero, List.getElem?_cons_succ, Nat.add_zero] at c0 c1 c2 c3 c4 c5
        rw [hlen] at hRow
        obtain ⟨cur, hcur, -⟩ := id hRow
        have f0 := frozen_row hcur (i * 6)
        have f1 := frozen_row hcur (i * 6 + 1)
        have f2 := frozen_row hcur (i * 6 + 2)
        have f3 := frozen_row hcur (i * 6 + 3)
        have f4 := frozen_row hcur (i * 6 + 4)
        have f5 := frozen_row hcur (i * 6 + 5)
        have m0 := fun j => cell_row hM j
        have m1 := m0 0
        have m2 := m0 1
        have m3 := m0 2
        have m4 := m0 3
        have m5 := m0 4
        have m6 := m0 5
        simp at m1 m2 m3 m4 m5 m6
        have lmb := block_lt hM
        have hNX := hRow.setN szEd i hin (⟨-(mk + 1), ⟨0, 0, 0, 0, 0⟩⟩ : Ed)
        have hms := mark_step xs i (⟨-(mk + 1), ⟨0, 0, 0, 0, 0⟩⟩ : Ed) hix
        rw [hms] at hNX
        have hlen2 : (List.replicate (i + 1) (⟨-(mk + 1), ⟨0, 0, 0, 0, 0⟩⟩ : Ed) ++ xs.drop (i + 1)).length = n := by rw [List.length_append, List.length_replicate, List.length_drop]; have := HL.out; omega
        have hF := Fr.setCells g (edc (⟨-(mk + 1), ⟨0, 0, 0, 0, 0⟩⟩ : Ed)) (i * 6) wr
        have Z : Hid (EsS w (wr.setCells g (i * 6) (edc (⟨-(mk + 1), ⟨0, 0, 0, 0, 0⟩⟩ : Ed))) sx E W D U (mk + 1) (.slice aE nE cE) (.slice aW nW cW) vD vU bE bW bD bU (fun k => some g = some k ∨ k = mb) (some g) (SB sx bE bW bD bU) ∧ SF edc 6 (wr.setCells g (i * 6) (edc (⟨-(mk + 1), ⟨0, 0, 0, 0, 0⟩⟩ : Ed))) 48 (some g) (.slice (some ⟨g, 0, none⟩) n c) (List.replicate (i + 1) (⟨-(mk + 1), ⟨0, 0, 0, 0, 0⟩⟩ : Ed) ++ xs.drop (i + 1)) ∧ (wr.setCells g (i * 6) (edc (⟨-(mk + 1), ⟨0, 0, 0, 0, 0⟩⟩ : Ed))).heap[mb]? = some (.cells #[.int .i64 (-(mk + 1)), .int .i64 0, .int .i64 0, .int .u8 0, .int .i64 0, .int .i64 0] 48 (0, 0))) := by
          refine ⟨hES.list hF (fun k hk => .inl (by rw [hk])) (fun k hk => .inl hk) (fun k hk => Nat.lt_of_lt_of_le (hES.sl k hk) hF.size), ⟨c, by rw [hlen2], by rw [hlen2]; exact hNX⟩, hF.keeps hM (HMB.out g rfl)⟩
        have i1 := gq4 hin
        have w1 := wrn hin (by have := HNX.out.1; omega)
        have hme := gq3 hin
        clear HR hRow hNX hms hlen hlen2 hil hz hES hM hF hcur m0
        go_wp2_with fail
        exact ⟨⟨i + 1, hin, by first | go_num | (rw [w1]; go_num), Z⟩, by first | exact meas hme | (rw [w1]; exact meas hme)⟩
    · obtain rfl : i = n := by omega
      have i3 : ¬ ((i : Int) < (i : Int)) := by omega
      have HF : Hid (EsS w wr sx E W D U (mk + 1) (.slice aE nE cE) (.slice aW nW cW) vD vU bE bW bD bU (fun k => β = some k ∨ k = mb) β (SB sx bE bW bD bU) ∧ SF edc 6 wr 48 β (.slice a i c) (List.replicate i (⟨-(mk + 1), ⟨0, 0, 0, 0, 0⟩⟩ : Ed)) ∧ wr.heap[mb]? = some (.cells #[.int .i64 (-(mk + 1)), .int .i64 0, .int .i64 0, .int .u8 0, .int .i64 0, .int .i64 0] 48 (0, 0))) := by
        have h := HR.out
        rw [List.drop_eq_nil_of_le (by have := HL.out; omega), List.append_nil] at h
        exact h
      clear HR
      -- s.E gets the list
      obtain ⟨a3, c3, u3, hap, k2, g3, k3, k4, k5⟩ := HF.out.1.X.pushEs (u := wr.alloc (.cells #[.slice a i c] 22)) (a, i, c) ((Below.refl _ _).alloc (Nat.le_refl _) _) wr.heap.size (heap_alloc_new wr _) (by rw [HLE.out]; have := HNX.out.2.1; omega)
      rw [HLE.out] at hap k3 k4
      have ES7 := hd (HF.out.1.shelf k3 k4 (fun k hk => hk.elim .inl (fun h => .inr (.inl h))) (by
        rintro k (hk | hk | hk | hk | hk)
        · exact .inl (.inl hk)
        · injection hk with hk
          subst hk
          exact k5.imp (fun h => .inr (.inl h)) id
        · exact .inl (.inr (.inr (.inl hk)))
        · exact .inl (.inr (.inr (.inr (.inl hk))))
        · exact .inl (.inr (.inr (.inr (.inr hk))))
      ))
      have HL7 : Hid (SF edc 6 (u3.setCell ⟨sx, 0, none⟩ (.slice a3 (nE + 1) c3)) 48 β (.slice a i c) (List.replicate i (⟨-(mk + 1), ⟨0, 0, 0, 0, 0⟩⟩ : Ed)) ∧ (u3.setCell ⟨sx, 0, none⟩ (.slice a3 (nE + 1) c3)).heap[mb]? = some (.cells #[.int .i64 (-(mk + 1)), .int .i64 0, .int .i64 0, .int .u8 0, .int .i64 0, .int .i64 0] 48 (0, 0))) := by
        have hno : ∀ g, (β = some g ∨ g = mb) → ¬ (g = sx ∨ bE = some g) := fun g hg h => HF.out.1.dj g hg (h.elim .inl (fun h => .inr (.inl h)))
        exact ⟨HF.out.2.1.fr k4 (fun g hg => hno g (.inl hg)), k4.keeps HF.out.2.2 (hno mb (.inr rfl))⟩
      have e0 := cell_row HF.out.1.X.blk 0
      have q0 := cell_row k2 0
      have f0 := frozen_row k2 0
      simp at e0 q0
      have lsx := block_lt HF.out.1.X.blk
      have lsu := block_lt k2
      have HAP := hd hap
      clear hap k2 k3 k4 k5 HF
      go_upto_region 8 with (at_builtin; refine wpList_append_k _ rfl _ _ 35 35 rfl _ _ rfl rfl (HAP.out _) ?_)
      clear e0 q0 f0 lsx lsu HAP
      generalize u3.setCell ⟨sx, 0, none⟩ (.slice a3 (nE + 1) c3) = w7 at *
      have HS1 := hd ES7.out.fr.size
      have HBW : Hid (∀ g, β = some g → g < w.heap.size) := HL1.out.2
      have rl : Rs edc 6 w7 (fun k => β = some k ∨ k = mb) (.slice a i c) (List.replicate i (⟨-(mk + 1), ⟨0, 0, 0, 0, 0⟩⟩ : Ed)) := (HL7.out.1.rs szEd).mono (fun b hb => .inl hb)
      obtain ⟨u1, W2, W4, a4, c4, S2, b8, hA1, hA2, hG, h8, r8, hS12, F78⟩ := ES7.out.cpE HLW.out (by have := HNX.out.2.2; omega) rl (by rw [List.length_replicate]; have := HNX.out.1; omega)
      have E8 := hd (And.intro h8 (And.intro r8 (And.intro hS12 (And.intro (HL7.out.1.fr F78 (fun g hg => ES7.out.dj g (.inl hg))) (F78.keeps HL7.out.2 (ES7.out.dj mb (.inr rfl)))))))
      have HS7 : Hid (w.heap.size ≤ w7.heap.size) := HS1.out
      clear h8 r8 hS12 F78 rl HL7 ES7 HS1
      refine shE8 _ w7 sx (.slice a i c) (.slice aW nW cW) u1.val (.slice a4 (nW + 1) c4) W2 W4 rfl rfl (by simp) ⟨_, _, _, rfl⟩ ⟨_, _, _, rfl⟩ ?g8 hA1 hA2 ?k8
      case g8 =>
        intro s hs
        rcases s with _ | _ | _ | _ | _ | s
        · exact hG _ (.inl rfl)
        · exact hG _ (.inr (.inl rfl))
        · exact hG _ (.inr (.inr (.inl rfl)))
        · exact hG _ (.inr (.inr (.inr (.inl rfl))))
        · exact hG _ (.inr (.inr (.inr (.inr rfl))))
        · omega
      case k8 =>
        intro V8
        clear hA1 hA2 hG
        rename_i K0 hK0
        refine hK0 _ _ ?_
        clear hK0
        simp only [List.range, List.range.loop, List.map_cons, List.map_nil, slshE8, List.getD_cons_zero, List.getD_cons_succ, puts, List.foldl_cons, List.foldl_nil, Act.put, List.setIfInBounds_toArray, List.set_cons_succ, List.set_cons_zero]
        generalize W4.setCell ⟨sx, 1, none⟩ (.slice a4 (nW + 1) c4) = w8 at *
        obtain ⟨h8, r8, hS12, hL8, hM8⟩ := E8.out
        have bA : Below w8.heap.size w8 (w8.alloc (.cells #[.int .i64 (-(mk + 1)), .int .i64 0, .int .i64 0, .int .u8 0, .int .i64 0, .int .i64 0, .int .i64 (-(mk + 1)), .int .i64 0, .int .i64 0, .int .u8 0, .int .i64 0, .int .i64 0, .int .i64 (-(mk + 1)), .int .i64 0, .int .i64 0, .int .u8 0, .int .i64 0, .int .i64 0] 48)) := (Below.refl _ _).alloc (Nat.le_refl _) _
        have hnew := heap_alloc_new w8 (.cells #[.int .i64 (-(mk + 1)), .int .i64 0, .int .i64 0, .int .u8 0, .int .i64 0, .int .i64 0, .int .i64 (-(mk + 1)), .int .i64 0, .int .i64 0, .int .u8 0, .int .i64 0, .int .i64 0, .int .i64 (-(mk + 1)), .int .i64 0, .int .i64 0, .int .u8 0, .int .i64 0, .int .i64 0] 48)
        obtain ⟨i0, hi0, hz0, hz1, hz2⟩ := info_parts infoEd
        have hSA := hL8.fr (Fr.of_below (S := fun _ => False) bA) (fun _ _ h => h)
        obtain ⟨v9, w9, hap, hN⟩ := run_pushF szEd (P := Tryz.prog) _ 22 0 48 i0 _ 48 Tryz.underlying22 hi0 hz0 hz1 rfl hz2 β _ _ hSA ⟨w8.heap.size, 0, none⟩ 3 3 (List.replicate 3 (⟨-(mk + 1), ⟨0, 0, 0, 0, 0⟩⟩ : Ed)) rfl (fun j z hj => by
          rw [add_lit, cell_row hnew, Nat.zero_add, List.getElem?_toArray]
          exact hj) (by omega) (by rw [List.length_replicate]; have := HNX.out.1; omega) (by rw [List.length_replicate]; have := HNX.out.1; omega)
        have hap2 : ∀ ty, (Builtin.append_ #[22, 22] ty #[.slice a i c, .slice (some ⟨w8.heap.size, 0, none⟩) 3 3]).run Tryz.prog (w8.alloc (.cells #[.int .i64 (-(mk + 1)), .int .i64 0, .int .i64 0, .int .u8 0, .int .i64 0, .int .i64 0, .int .i64 (-(mk + 1)), .int .i64 0, .int .i64 0, .int .u8 0, .int .i64 0, .int .i64 0, .int .i64 (-(mk + 1)), .int .i64 0, .int .i64 0, .int .u8 0, .int .i64 0, .int .i64 0] 48)) = .ok v9 w9 := fun ty => hap
        obtain ⟨S9, r1, r2, r3, r4, r5⟩ := NowF.marks szEd hSA hN
        obtain ⟨va, vc, e9, -⟩ := id r2
        rw [List.length_replicate] at e9
        subst e9
        have F89 : Fr (fun k => β = some k) w8 w9 := (Fr.of_below bA).trans r4
        have hz8 := bA.size
        have ES9 := h8.list (S2 := fun k => S2 k ∨ S9 k) F89 (fun k hk => hS12 k (.inl hk)) (fun k hk => by
          rcases hk with hk | hk
          · exact .inl hk
          · rcases r3 k hk with h | h
            · exact .inl (hS12 k (.inl h))
            · exact .inr (by omega)) (fun k hk => by
          rcases hk with hk | hk
          · exact Nat.lt_of_lt_of_le (h8.sl k hk) F89.size
          · exact r5 k hk)
        have r8' := r8.fr F89 (fun b hb he => by have := HBW.out b he; have := HS7.out; omega)
        have E9 := hd (And.intro ES9 (And.intro (r1.mono (T := fun k => S2 k ∨ S9 k) (fun b hb => .inr hb)) (And.intro (r2.mono (T := fun k => S2 k ∨ S9 k) (fun b hb => .inr hb)) (r8'.mono (T := fun k => S2 k ∨ S9 k) (fun b hb => .inl hb.2)))))
        have m0 := fun j => cell_row hM8 j
        have m1 := m0 0
        have m2 := m0 1
        have m3 := m0 2
        have m4 := m0 3
        have m5 := m0 4
        have m6 := m0 5
        simp at m1 m2 m3 m4 m5 m6
        have lmb := block_lt hM8
        have HAP9 := hd hap2
        clear hap hap2 hN hSA hnew bA r1 r2 r3 r4 r5 hi0 hz0 hz1 hz2 r8 r8' h8 hS12 hL8 hM8 ES9 E8 F89 hz8 m0 HS7
        go_upto_region 10 with (at_builtin; refine wpList_append_k _ rfl _ _ 22 22 rfl _ _ rfl rfl (HAP9.out _) ?_)
        clear HAP9 lmb m1 m2 m3 m4 m5 m6
        obtain ⟨h9, l9, gg9, uu9⟩ := E9.out
        have hl9 : (E ++ [((a, i, c) : SV)]).length = nE + 1 := by rw [List.length_append, HLE.out]; rfl
        obtain ⟨a10, c10, u10, hap, k2, g10, k3, k4, k5⟩ := h9.X.pushEs (u := w9.alloc (.cells #[.slice va (i + 3) vc] 22)) (va, i + 3, vc) ((Below.refl _ _).alloc (Nat.le_refl _) _) w9.heap.size (heap_alloc_new w9 _) (by rw [hl9]; have := HNX.out.2.1; omega)
        rw [hl9] at hap k3 k4
        have hno : ∀ g, (S2 g ∨ S9 g) → ¬ (g = sx ∨ some g3 = some g) := fun g hg h => h9.dj g hg (h.elim .inl (fun h => .inr (.inl h)))
        have E10 := hd (And.intro (h9.shelf k3 k4 (fun k hk => hk.elim .inl (fun h => .inr (.inl h))) (by
          rintro k (hk | hk | hk | hk | hk)
          · exact .inl (.inl hk)
          · injection hk with hk
            subst hk
            exact k5.imp (fun h => .inr (.inl h)) id
          · exact .inl (.inr (.inr (.inl hk)))
          · exact .inl (.inr (.inr (.inr (.inl hk))))
          · exact .inl (.inr (.inr (.inr (.inr hk))))
      )) (And.intro (l9.fr k4 hno) (And.intro (gg9.fr k4 hno) (uu9.fr k4 hno))))
        have e0 := cell_row h9.X.blk 0
        have q0 := cell_row k2 0
        have f0 := frozen_row k2 0
        simp at e0 q0
        have lsx := block_lt h9.X.blk
        have lsu := block_lt k2
        have HAP := hd hap
        clear hap k2 k3 k4 k5 h9 l9 gg9 uu9 hno E9 hl9
        go_upto_region 11 with (at_builtin; refine wpList_append_k _ rfl _ _ 35 35 rfl _ _ rfl rfl (HAP.out _) ?_)
        clear e0 q0 f0 lsx lsu HAP
        generalize u10.setCell ⟨sx, 0, none⟩ (.slice a10 (nE + 1 + 1) c10) = w10 at *
        obtain ⟨h10, l10, gg10, uu10⟩ := E10.out
        have hl10 : (W ++ [u1]).length = nW + 1 := by rw [List.length_append, HLW.out]; rfl
        obtain ⟨u2, X2, X4, a12, c12, S12, b12, hA1, hA2, hG, h12, r12, hS, F12⟩ := h10.cpE hl10 (by have := HNX.out.2.2; omega) gg10 (by rw [List.length_replicate]; have := HNX.out.1; omega)
        have Z : Hid (PostE w (X4.setCell ⟨sx, 1, none⟩ (.slice a12 (nW + 1 + 1) c12)) sx E W D U mk (.slice aE nE cE) (.slice aW nW cW) vD vU bE bW bD bU β (.slice a i c) i) :=
          ⟨(a, i, c), (va, i + 3, vc), u1, u2, S12, _, _, _, _, rfl, h12, (l10.fr F12 (fun b hb => h10.dj b hb)).mono hS, (gg10.fr F12 (fun b hb => h10.dj b hb)).mono hS, (uu10.fr F12 (fun b hb => h10.dj b hb)).mono hS, r12.mono (fun b hb => hb.2)⟩
        clear h12 r12 hS F12 h10 l10 gg10 uu10 E10 hl10
        refine shE11 _ w10 sx (.slice va (i + 3) vc) (.slice a4 (nW + 1) c4) u2.val (.slice a12 (nW + 1 + 1) c12) X2 X4 rfl rfl (by simp) ⟨_, _, _, rfl⟩ ⟨_, _, _, rfl⟩ ?g11 hA1 hA2 ?k11
        case g11 =>
          intro s hs
          rcases s with _ | _ | _ | _ | _ | s
          · exact hG _ (.inl rfl)
          · exact hG _ (.inr (.inl rfl))
          · exact hG _ (.inr (.inr (.inl rfl)))
          · exact hG _ (.inr (.inr (.inr (.inl rfl))))
          · exact hG _ (.inr (.inr (.inr (.inr rfl))))
          · omega
        case k11 =>
          intro V11
          clear hA1 hA2 hG
          go_wp2_with fail
          refine bodyPost_end (results_none rfl _ _ _) rfl ?_
          exact ⟨rfl, Z.out⟩
end

end Go.Proofs.YtilidolbplglcaaGreatDoor
