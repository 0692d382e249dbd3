/-
  A line behind a line of the call's own.
-/
import Derived.Test.YtmkgkgdngjmcmabDoorNa
namespace Go.Proofs.YtmkgkgdngjmcmabDoor
open Go.RowKit Go.Lib
set_option linter.unusedVariables false

theorem wpList_append_g {P : Program} (w : World) {ops : Array Oper} {rest : List Oper} {o : Oper} {a : Act} {Q : Exit → Act → World → Prop} (hw : Region.wanted o (yielded ops a.tmps) = true) (d s : Operand) (t t' : TypeId)
    (ho : o.op = .call { callee := .builtin .append, args := #[d, s], argTypes := #[t, t'] }) (v u : Value) (hd' : a.eval d = v) (hs : a.eval s = u) {v' : Value} {w' : World}
    (hr : (Builtin.append_ #[t, t'] o.type #[v, u]).run P w = .ok v' w') (h : wpList P ops Q rest (a.put o.dst v') w') : wpList P ops Q (o :: rest) a w := by
  unfold wpList
  rw [if_pos hw]
  refine .inl ?_
  unfold Oper.wp
  simp [execOp, ho, resolve, invoke, builtin, hd', hs, hr, Result.andThen]
  exact h

theorem append_none (w : World) (ty : TypeId) (g n cap c : Nat) (hn : n ≤ cap) :
    (Builtin.append_ #[24, 24] ty #[.slice (some ⟨g, 0, none⟩) n cap, .slice none 0 c]).run Tryd.prog w = (Builtin.append_ #[24, 24] ty #[.slice (some ⟨g, 0, none⟩) n cap, .slice (some ⟨0, 0, none⟩) 0 c]).run Tryd.prog w := by
  obtain ⟨i0, hi0, hz0, hz1, hz2⟩ := info_parts Tryd.infoO
  simp [Builtin.append_, run_underlying Tryd.underlying24, sizeOf, typeInfo, hi0, Builtin.lenOf, Builtin.firstCells, loadCells, loadCellsFrom, hn]

theorem append_takeO (L : List Value) (xs ys : List OpE) (n m : Nat) (hx : xs.length = n) (hy : ys.length = m) (hL : n * 5 ≤ L.length) (ht : L.take (n * 5) = cO xs) :
    (splice L (n * 5) (cO ys)).take ((n + m) * 5) = cO (xs ++ ys) := by
  have h := splice_take_end L (n * 5) (cO ys) hL
  rw [show n * 5 + (cO ys).length = (n + m) * 5 from by rw [cO_len, hy]; omega, ht] at h
  rw [h, cO_app]

theorem app_at (w : World) (g n cap : Nat) (xs ys : List OpE) (hR : RowO w g n cap xs) (A : Addr) (m c : Nat) (h1 : ys.length = m) (hnews : ∀ j u, (cO ys)[j]? = some u → w.cell? (A.add j) = some u) (hs : n + m ≤ 4194304) :
    ∃ g' cg w', (∀ ty, (Builtin.append_ #[24, 24] ty #[.slice (some ⟨g, 0, none⟩) n cap, .slice (some A) m c]).run Tryd.prog w = .ok (.slice (some ⟨g', 0, none⟩) (n + m) cg) w') ∧ RowO w' g' (n + m) cg (xs ++ ys) ∧ (g' = g ∨ w.heap.size ≤ g') ∧ Fr (· = g) w w' := by
  obtain ⟨i0, hi0, hz0, hz1, hz2⟩ := info_parts Tryd.infoO
  obtain ⟨cur, hh, htk, hvl, hnc, hcm, hcs⟩ := hR
  have hl : (cO ys).length = m * i0.size := by rw [hz1, cO_len, h1]
  have hl5 : (cO ys).length = m * 5 := by rw [cO_len, h1]
  by_cases hroom : n + m ≤ cap
  · have hr := fun ty => run_append_room (P := Tryd.prog) w 24 ty 23 i0 Tryd.underlying24 hi0 g n cap cur.toArray hh A m c (cO ys) hl hnews (cO_one' _) hroom (by rw [hz1, hl5]; simp [hcs]; omega)
    refine ⟨_, _, _, hr, ?_, .inl rfl, Fr.setRow _ _ _ rfl⟩
    rw [hz1]
    refine ⟨splice cur (n * 5) (cO ys), ?_, append_takeO cur xs ys n m hvl h1 (by omega) htk, by simp; omega, hroom, hcm, ?_⟩
    · have := setRow_heap w g cur.toArray (splice cur (n * 5) (cO ys)).toArray 23 _ hh
      simpa [splice] using this
    · rw [length_splice _ _ _ (by omega), hcs]
  · have holds : ∀ j u, (cO xs)[j]? = some u → w.cell? ((⟨g, 0, none⟩ : Addr).add j) = some u := row_cellsO hh htk
    have hr := fun ty => run_append_grow (P := Tryd.prog) w 24 ty 23 i0 _ Tryd.underlying24 hi0 hz0 ⟨g, 0, none⟩ n cap (cO xs) (by rw [hz1, cO_len, hvl]) holds A m c (cO ys) hl hnews (by omega) (by omega) (growslice_fits_wide (by omega) (by rw [hz2]; omega))
    have hG1 := grownCap_ge w (n + m) cap 23
    have hG2 := grownCap_le_maxLen w (n + m) cap 23 (by unfold maxLen; omega)
    generalize grownCap w (n + m) cap 23 = G at hr hG1 hG2
    refine ⟨_, _, _, hr, ?_, .inr (Nat.le_refl _), (Fr.drew _ w).trans (Fr.alloc _ _ _)⟩
    refine ⟨((cO xs).toArray ++ (cO ys).toArray ++ Builtin.zeroCells #[.int .i64 0, .int .i64 0, .int .u8 0, .int .i64 0, .int .i64 0] (G - (n + m))).toList, ?_, ?_, by simp; omega, hG1, hG2, ?_⟩
    · rw [show w.heap.size = w.drew.heap.size from rfl, heap_alloc_new]
      rfl
    · rw [Array.toList_append, Array.toList_append, List.toList_toArray, List.toList_toArray]
      have : (cO xs ++ cO ys).length = (n + m) * 5 := by rw [List.length_append, cO_len, hl5, hvl]; omega
      rw [← this, List.take_left, cO_app]
    · rw [Array.toList_append, Array.toList_append, List.length_append, List.length_append, zero_lenO, List.toList_toArray, List.toList_toArray, cO_len, hl5, hvl]
      omega

/-- append of a line onto a row of the call's own. -/
theorem appO {w0 w : World} {v : Value} {xs ys : List OpE} {a : Option Addr} {n m c : Nat} (hB : Below w0.heap.size w0 w) (h : OwnO w w0.heap.size v xs) (hy : IsO w a m c ys) (hn : xs.length = n) (hs : n + m ≤ 4194304) :
    ∃ g cg w', (∀ ty, (Builtin.append_ #[24, 24] ty #[v, .slice a m c]).run Tryd.prog w = .ok (.slice (some ⟨g, 0, none⟩) (n + m) cg) w') ∧ RowO w' g (n + m) cg (xs ++ ys) ∧ w0.heap.size ≤ g ∧ Below w0.heap.size w0 w' := by
  subst hn
  obtain ⟨g, cap, hg, rfl, hR⟩ := h
  have fin : ∀ g' cg w', RowO w' g' (xs.length + m) cg (xs ++ ys) → (g' = g ∨ w.heap.size ≤ g') → Fr (· = g) w w' → RowO w' g' (xs.length + m) cg (xs ++ ys) ∧ w0.heap.size ≤ g' ∧ Below w0.heap.size w0 w' := by
    intro g' cg w' k1 k2 k3
    refine ⟨k1, ?_, hB.trans (k3.below hB.size (fun k hk => by omega))⟩
    have := hB.size
    omega
  cases a with
  | none =>
    have hm : m = 0 := by
      apply Classical.byContradiction
      intro hm
      obtain ⟨b, off, e, _⟩ := hy.2.2.2 (by omega)
      cases e
    subst hm
    obtain rfl := List.eq_nil_of_length_eq_zero hy.1
    obtain ⟨g', cg, w', k1, k2, k3, k4⟩ := app_at w g _ cap xs [] hR ⟨0, 0, none⟩ 0 c rfl (fun j u hj => by simp [cO_nil] at hj) hs
    exact ⟨g', cg, w', fun ty => (append_none w ty g _ cap c hR.isO.2.1).trans (k1 ty), fin g' cg w' k2 k3 k4⟩
  | some A =>
    obtain ⟨g', cg, w', k1, k2, k3, k4⟩ := app_at w g _ cap xs ys hR A m c hy.1 (fun j u hj => by
      have hj' : j < (cO ys).length := (List.getElem?_eq_some_iff.mp hj).1
      rw [cO_len, hy.1] at hj'
      obtain ⟨b, off, e, _, hc⟩ := hy.2.2.2 (by omega)
      obtain rfl := Option.some.inj e
      rw [add_lit]
      exact hc j u hj) hs
    exact ⟨g', cg, w', k1, fin g' cg w' k2 k3 k4⟩

end Go.Proofs.YtmkgkgdngjmcmabDoor
