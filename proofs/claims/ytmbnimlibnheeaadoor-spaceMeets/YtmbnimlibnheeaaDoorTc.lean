/-
  A side in memory: its parts.
-/
import Derived.Test.YtmbnimlibnheeaaDoorTb
namespace Go.Proofs.YtmbnimlibnheeaaDoor
open Go.RowKit Go.Lib
set_option linter.unusedVariables false
variable {T : Nat → Prop}

/-- A side at block x: its text d, its space p at block z, what it made and took, what is under way W. -/
structure SC (T : Nat → Prop) (w : World) (x z : Nat) (d : List El) (p : Sp) (made took base : Int) (W : List Pc) (vt : Value) (aw : Option Addr) (nw cw : Nat) (vg : Value) (βt βg : Option Nat) (G : List El) : Prop where
  box : w.heap[x]? = some (.cells #[vt, .pointer (some ⟨z, 0, none⟩), .int .i64 made, .int .i64 took, .slice aw nw cw, .int .i64 base, vg] 58 (0, 0))
  tx : T x
  te : SE w βt vt d
  tt : ∀ g, βt = some g → T g
  sp : SpT T w z p
  wy : Way T w aw nw cw W
  wn : aw = none → cw = 0
  gn : SE w βg vg G
  gt : ∀ g, βg = some g → T g
  ne : ∀ g, βg = some g → βt ≠ some g

section
variable {w w' : World} {x z : Nat} {d : List El} {p : Sp} {made took base : Int} {W : List Pc} {vt : Value} {aw : Option Addr} {nw cw : Nat} {vg : Value} {βt βg : Option Nat} {G : List El} {S : Nat → Prop}
theorem SC.tg (h : SC T w x z d p made took base W vt aw nw cw vg βt βg G) : Tg w x 58 := ⟨_, h.box⟩
theorem SC.fr (h : SC T w x z d p made took base W vt aw nw cw vg βt βg G) (hF : Fr S w w') (hS : ∀ k, T k → ¬ S k) : SC T w' x z d p made took base W vt aw nw cw vg βt βg G :=
  ⟨hF.keeps h.box (hS _ h.tx), h.tx, h.te.fr hF (fun g hg => hS _ (h.tt g hg)), h.tt, h.sp.fr hF (fun k hk => hS _ hk.1), h.wy.fr hF (fun k hk _ => hS _ hk), h.wn, h.gn.fr hF (fun g hg => hS _ (h.gt g hg)), h.gt, h.ne⟩
theorem SC.below (h : SC T w x z d p made took base W vt aw nw cw vg βt βg G) (hb : Below w.heap.size w w') : SC T w' x z d p made took base W vt aw nw cw vg βt βg G :=
  h.fr (S := fun _ => False) (Fr.of_below hb) (fun _ _ h => h)
theorem SC.mono {T' : Nat → Prop} (h : SC T w x z d p made took base W vt aw nw cw vg βt βg G) (hT : ∀ k, T k → T' k) : SC T' w x z d p made took base W vt aw nw cw vg βt βg G :=
  ⟨h.box, hT _ h.tx, h.te, fun g hg => hT _ (h.tt g hg), h.sp.mono hT, h.wy.mono hT, h.wn, h.gn, fun g hg => hT _ (h.gt g hg), h.ne⟩
theorem SC.lt (h : SC T w x z d p made took base W vt aw nw cw vg βt βg G) : x < w.heap.size := block_lt h.box
theorem SC.cells (h : SC T w x z d p made took base W vt aw nw cw vg βt βg G) :
    (w.cell? ⟨x, 0, none⟩ = some vt ∧ w.cell? ⟨x, 1, none⟩ = some (.pointer (some ⟨z, 0, none⟩)) ∧ w.cell? ⟨x, 2, none⟩ = some (.int .i64 made) ∧ w.cell? ⟨x, 3, none⟩ = some (.int .i64 took) ∧ w.cell? ⟨x, 4, none⟩ = some (.slice aw nw cw) ∧ w.cell? ⟨x, 5, none⟩ = some (.int .i64 base) ∧ w.cell? ⟨x, 6, none⟩ = some vg) ∧ ∀ i, w.frozen? ⟨x, i, none⟩ = false := by
  refine ⟨⟨?_, ?_, ?_, ?_, ?_, ?_, ?_⟩, fun i => frozen_row h.box i⟩ <;> (rw [cell_row h.box]; rfl)
/-- A change of the side's own block leaves all its other blocks. -/
theorem SC.own (h : SC T w x z d p made took base W vt aw nw cw vg βt βg G) (i : Nat) (v : Value) : Fr (· = x) w (w.setCell ⟨x, i, none⟩ v) ∧ SE (w.setCell ⟨x, i, none⟩ v) βt vt d ∧ SpT T (w.setCell ⟨x, i, none⟩ v) z p ∧ Way T (w.setCell ⟨x, i, none⟩ v) aw nw cw W ∧ SE (w.setCell ⟨x, i, none⟩ v) βg vg G := by
  have hF : Fr (· = x) w (w.setCell ⟨x, i, none⟩ v) := Fr.setCell _ _ _ rfl
  exact ⟨hF, h.te.fr hF (fun g hg => (h.te.tg hg).ne h.tg (by decide)), h.sp.fr hF (fun k hk => hk.not h.tg (by decide) (by decide) (by decide)), h.wy.fr hF (fun k _ hk => hk.ne h.tg (by decide)), h.gn.fr hF (fun g hg => (h.gn.tg hg).ne h.tg (by decide))⟩
theorem SC.setMade (h : SC T w x z d p made took base W vt aw nw cw vg βt βg G) (m : Int) : SC T (w.setCell ⟨x, 2, none⟩ (.int .i64 m)) x z d p m took base W vt aw nw cw vg βt βg G := by
  obtain ⟨hF, h1, h2, h3, h4⟩ := h.own 2 (.int .i64 m)
  refine ⟨?_, h.tx, h1, h.tt, h2, h3, h.wn, h4, h.gt, h.ne⟩
  have := set_row h.box 2 (.int .i64 m)
  simpa using this
theorem SC.setTook (h : SC T w x z d p made took base W vt aw nw cw vg βt βg G) (m : Int) : SC T (w.setCell ⟨x, 3, none⟩ (.int .i64 m)) x z d p made m base W vt aw nw cw vg βt βg G := by
  obtain ⟨hF, h1, h2, h3, h4⟩ := h.own 3 (.int .i64 m)
  refine ⟨?_, h.tx, h1, h.tt, h2, h3, h.wn, h4, h.gt, h.ne⟩
  have := set_row h.box 3 (.int .i64 m)
  simpa using this
/-- A new text, of a block of its own. -/
theorem SC.setText (h : SC T w x z d p made took base W vt aw nw cw vg βt βg G) {v : Value} {d' : List El} {g : Nat} (hd' : SE w (some g) v d') (hg : T g) (hne : βg ≠ some g) : SC T (w.setCell ⟨x, 0, none⟩ v) x z d' p made took base W v aw nw cw vg (some g) βg G := by
  obtain ⟨hF, h1, h2, h3, h4⟩ := h.own 0 v
  refine ⟨?_, h.tx, hd'.fr hF (fun k hk => (hd'.tg hk).ne h.tg (by decide)), fun k hk => by injection hk with hk; subst hk; exact hg, h2, h3, h.wn, h4, h.gt, fun k hk he => hne (he ▸ hk)⟩
  have := set_row h.box 0 v
  simpa using this
/-- The way is another one. -/
theorem SC.setWay (h : SC T w x z d p made took base W vt aw nw cw vg βt βg G) {a : Option Addr} {n c : Nat} {W' : List Pc} (hw : Way T w a n c W') (hn : a = none → c = 0) : SC T (w.setCell ⟨x, 4, none⟩ (.slice a n c)) x z d p made took base W' vt a n c vg βt βg G := by
  obtain ⟨hF, h1, h2, h3, h4⟩ := h.own 4 (.slice a n c)
  refine ⟨?_, h.tx, h1, h.tt, h2, hw.fr hF (fun k _ hk => hk.ne h.tg (by decide)), hn, h4, h.gt, h.ne⟩
  have := set_row h.box 4 (.slice a n c)
  simpa using this
/-- What is gone is another list. -/
theorem SC.setGone (h : SC T w x z d p made took base W vt aw nw cw vg βt βg G) {v : Value} {G' : List El} {g : Nat} (hg' : SE w (some g) v G') (hg : T g) (hne : βt ≠ some g) : SC T (w.setCell ⟨x, 6, none⟩ v) x z d p made took base W vt aw nw cw v βt (some g) G' := by
  obtain ⟨hF, h1, h2, h3, h4⟩ := h.own 6 v
  refine ⟨?_, h.tx, h1, h.tt, h2, h3, h.wn, hg'.fr hF (fun k hk => (hg'.tg hk).ne h.tg (by decide)), fun k hk => by injection hk with hk; subst hk; exact hg, fun k hk he => hne (by rw [he, hk])⟩
  have := set_row h.box 6 v
  simpa using this
end

/-- The side's space after a call on it. -/
theorem SC.space {T' : Nat → Prop} {w w' : World} {x z : Nat} {d : List El} {p p' : Sp} {made took base : Int} {W : List Pc} {vt : Value} {aw : Option Addr} {nw cw : Nat} {vg : Value} {βt βg : Option Nat} {G : List El} (h : SC T w x z d p made took base W vt aw nw cw vg βt βg G) {S S' : Nat → Prop} (hS : ∀ k, S k → SpS T w k) (hA : SpAt w' z p' S') (hF : Fr S w w') (hT : ∀ k, T k → T' k) (hT' : ∀ k, S' k → T' k) : SC T' w' x z d p' made took base W vt aw nw cw vg βt βg G := by
  have hn : ∀ k t, Tg w k t → t ≠ 69 → t ≠ 3 → t ≠ 29 → ¬ S k := fun k t hk h1 h2 h3 hs => (hS k hs).not hk h1 h2 h3 rfl
  exact ⟨hF.keeps h.box (hn _ _ h.tg (by decide) (by decide) (by decide)), hT _ h.tx, h.te.fr hF (fun g hg => hn _ _ (h.te.tg hg) (by decide) (by decide) (by decide)), fun g hg => hT _ (h.tt g hg), hA.t hT', (h.wy.fr hF (fun k _ hk => hn _ _ hk (by decide) (by decide) (by decide))).mono hT, h.wn, h.gn.fr hF (fun g hg => hn _ _ (h.gn.tg hg) (by decide) (by decide) (by decide)), fun g hg => hT _ (h.gt g hg), h.ne⟩

/-- Blocks of T, and those between n and m. -/
def TB (T : Nat → Prop) (n m : Nat) : Nat → Prop := fun k => T k ∨ (n ≤ k ∧ k < m)

/-- What is made or crosses: its numbers. -/
def VO (o : OpE) : Prop := 1 ≤ o.cl ∧ o.cl ≤ 64 ∧ 1 ≤ o.sq ∧ o.sq ≤ 64 ∧ ((o.kind = 0 ∧ o.ch = 0) ∨ (o.kind = 1 ∧ 32 ≤ o.ch ∧ o.ch ≤ 126) ∨ (o.kind = 2 ∧ o.ch = 0))
theorem VO.ok {o : OpE} (h : VO o) : OkOp o := by
  obtain ⟨-, -, -, -, h⟩ := h
  unfold OkOp
  omega
theorem VO.shift {a : OpE} (h : VO a) (b : OpE) (f : Bool) : VO (shiftP a b f) := by
  unfold shiftP
  split
  · exact h
  · split
    · exact ⟨h.1, h.2.1, h.2.2.1, h.2.2.2.1, .inl ⟨rfl, rfl⟩⟩
    · split
      · exact h
      · exact h
theorem VO.thr (l : List (Int × OpE)) : ∀ (o : OpE) (f : Bool), VO o → VO (thrQ o l f).1 := by
  induction l with
  | nil => intro o f h; exact h
  | cons x l ih => intro o f h; exact ih _ _ (h.shift _ _)
theorem VO.fits {o : OpE} {n : Nat} (h : VO o) (hf : FitO n o) (hn : n < 4096) : fitsP n o = 0 ∧ validP o = 0 := by
  obtain ⟨k, p, c, l, s⟩ := o
  obtain ⟨h1, h2, h3, h4, h5⟩ := h
  simp only at h1 h2 h3 h4 h5
  have a1 : inR l 1 64 = true := by simp [inR]; omega
  have a2 : inR s 1 64 = true := by simp [inR]; omega
  have a5 : inR (n : Int) 0 4096 = true := by simp [inR]; omega
  rcases hf with ⟨e1, e2, e3⟩ | ⟨e1, q, e2, hq⟩ | ⟨e1, q, e2, hq⟩
  · simp only at e1 e2 e3
    subst e1 e2 e3
    have hv : validP ⟨0, 0, 0, l, s⟩ = 0 := by simp [validP, a1, a2, holdP, pointP]
    exact ⟨by rw [fitsP, if_neg (by rw [hv]; omega), if_neg (by rw [a5]; simp), if_neg (by simp)], hv⟩
  · simp only at e1 e2
    subst e1 e2
    have a3 : holdP 1 c = true := by simp [holdP, inR]; omega
    have a4 : pointP 1 q = true := by simp [pointP, inR]; omega
    have hv : validP ⟨1, q, c, l, s⟩ = 0 := by simp [validP, a1, a2, a3, a4]
    exact ⟨by rw [fitsP, if_neg (by rw [hv]; omega), if_neg (by rw [a5]; simp; omega), if_neg (by simp; omega)], hv⟩
  · simp only at e1 e2
    subst e1 e2
    have hc : c = 0 := by omega
    subst hc
    have a4 : pointP 2 q = true := by simp [pointP, inR]; omega
    have hv : validP ⟨2, q, 0, l, s⟩ = 0 := by simp [validP, a1, a2, holdP, a4]
    exact ⟨by rw [fitsP, if_neg (by rw [hv]; omega), if_neg (by rw [a5]; simp), if_neg (by simp; omega)], hv⟩
theorem putP_apply {d : List El} {o : OpE} (hf : FitO d.length o) : applyP d o = putP d o := by
  obtain ⟨k, p, c, l, s⟩ := o
  rcases hf with ⟨e1, e2, e3⟩ | ⟨e1, q, e2, hq⟩ | ⟨e1, q, e2, hq⟩
  · simp only at e1 e2 e3
    subst e1 e2 e3
    simp [applyP, putP]
  · simp only at e1 e2
    subst e1 e2
    rw [putP_ins, insertIdx_parts _ _ _ hq]
    simp [applyP]
  · simp only at e1 e2
    subst e1 e2
    rw [putP_del, List.eraseIdx_eq_take_drop_succ]
    simp [applyP]

/-- A side, as the law has it. -/
def SA (B : Nat) (T : Nat → Prop) (w : World) (x : Nat) (sd : Sd) (base : Int) : Prop :=
  ∃ z vt aw nw cw vg βt βg G, SC T w x z sd.d ⟨sd.f, sd.q, sd.made⟩ sd.made sd.took base sd.way vt aw nw cw vg βt βg G ∧ (∀ pc ∈ sd.way, VO pc.o) ∧ G.length ≤ sd.made ∧ ∀ k, T k → B ≤ k ∧ k < w.heap.size

end Go.Proofs.YtmbnimlibnheeaaDoor
