/-
  A part of a row that is one's own: what the builtins make of it, whatever else lies in the row.
-/
import Derived.Test.YtlmgogonghafeabIp
import Derived.Lib.Overlaps
import Derived.Lib.AppendZerosOnto
namespace Go.Proofs.Ytlmgogonghafeab
open Go.RowKit Go.Lib
set_option linter.unusedVariables false

/-- No cell of a row of n is frozen. -/
def Free (fz : Nat × Nat) (n : Nat) : Prop := fz.2 = 0 ∨ n ≤ fz.1
theorem frozen_free {w : World} {g n : Nat} {cur : Array Value} {t : TypeId} {fz : Nat × Nat} (h : w.heap[g]? = some (.cells cur t fz)) (hf : Free fz n) (i : Nat) (hi : i < n) : w.frozen? ⟨g, i, none⟩ = false := by
  obtain ⟨lo, hi'⟩ := fz
  simp only [World.frozen?, h, Bool.and_eq_false_iff, decide_eq_false_iff_not]
  rcases hf with hf | hf
  · right
    simp only at hf
    omega
  · left
    simp only at hf
    omega

theorem run_storeM (P : Program) (g o : Nat) (t : TypeId) (fz : Nat × Nat) : ∀ (vs : List Value) (i : Nat) (cur : Array Value) (w : World), w.heap[g]? = some (.cells cur t fz) → Free fz cur.size → o + i + vs.length ≤ cur.size → (∀ v ∈ vs, v.oneCell' = true) →
    (storeCells ⟨g, o, none⟩ vs i).run P w = .ok () (w.setRow g (cur.toList.take (o + i) ++ vs ++ cur.toList.drop (o + i + vs.length)).toArray)
  | [], i, cur, w, hg, _, _, _ => by
    simp only [storeCells, List.append_nil, List.length_nil, Nat.add_zero, List.take_append_drop, Array.toArray_toList]
    rw [setRow_self w g cur t fz hg]
    rfl
  | v :: rest, i, cur, w, hg, hfz, hl, h1 => by
    have hi : o + i < cur.size := by simp at hl; omega
    have hadd : (⟨g, o, none⟩ : Addr).add i = ⟨g, o + i, none⟩ := by unfold Addr.add; split <;> simp_all
    have hcell : w.cell? ⟨g, o + i, none⟩ = some cur[o + i] := by simp [World.cell?, hg, hi]
    have hfro : w.frozen? ⟨g, o + i, none⟩ = false := frozen_free hg hfz _ hi
    have hst : (store ((⟨g, o, none⟩ : Addr).add i) v).run P w = .ok () (w.setRow g (cur.setIfInBounds (o + i) v)) := by
      rw [hadd, run_store P w _ v _ (h1 v (by simp)), hcell]
      simp [hfro, setCell_eq_setRow w g (o + i) cur t fz v hg]
    have ih := run_storeM P g o t fz rest (i + 1) (cur.setIfInBounds (o + i) v) (w.setRow g (cur.setIfInBounds (o + i) v)) (setRow_heap w g cur _ t _ hg) (by simpa using hfz) (by simp at hl ⊢; omega) (fun x hx => h1 x (by simp [hx]))
    simp only [storeCells, Sem.run_bind, hst, Result.andThen_ok, ih, setRow_setRow]
    congr 3
    have e := list_seg_step cur.toList (o + i) v rest (by simp at hl ⊢; omega)
    simpa [Array.toList_setIfInBounds, Nat.add_assoc] using e

section
variable {P : Program}
theorem run_copyM (w : World) (dT sT ty elem : TypeId) (g o dLen dCap : Nat) (a : Addr) (sLen sCap n : Nat) (cur : List Value) (t : TypeId) (fz : Nat × Nat) (cs : List Value)
    (hu : P.underlying dT = some (.slice elem)) (hs : (P.info? elem).map (·.size) = some 1)
    (hg : w.heap[g]? = some (.cells cur.toArray t fz)) (hfz : Free fz cur.length) (hn : n = Nat.min sLen dLen) (hcl : cs.length = n)
    (hsrc : ∀ j v, cs[j]? = some v → w.cell? (a.add j) = some v) (hfit : o + cs.length ≤ cur.length) (h1 : ∀ v ∈ cs, v.oneCell' = true) :
    (Builtin.copy_ #[dT, sT] ty #[.slice (some ⟨g, o, none⟩) dLen dCap, .slice (some a) sLen sCap]).run P w = .ok (goInt n) (w.setRow g (splice cur o cs).toArray) := by
  have hl := run_loadCells_list (P := P) w a cs hsrc
  rw [hcl] at hl
  have hst := run_storeM P g o t fz cs 0 cur.toArray w hg (by simpa using hfz) (by simpa using hfit) h1
  cases hq : P.info? elem with
  | none => simp [hq] at hs
  | some i =>
    have hi : i.size = 1 := by simpa [hq] using hs
    simp [Builtin.copy_, run_underlying hu, Builtin.lenOf, Builtin.firstCells, sizeOf, typeInfo, hq, hi, ← hn, hl, hst, splice]

theorem run_clearM (w : World) (t ty e : TypeId) (i : TypeInfo) (z : Value) (ht : P.underlying t = some (.slice e)) (hi : P.info? e = some i) (hz : i.zero = some z) (z0 : Value) (hzs : (Builtin.zeroCells z.cells 1).toList = [z0]) (h1 : z0.oneCell' = true)
    (g o cap : Nat) (cur : List Value) (fz : Nat × Nat) (hg : w.heap[g]? = some (.cells cur.toArray e fz)) (hfz : Free fz cur.length) (hfit : o + 1 ≤ cur.length) :
    (Builtin.clear_ #[t] ty #[.slice (some ⟨g, o, none⟩) 1 cap]).run P w = .ok (.tuple #[]) (w.setRow g (splice cur o [z0]).toArray) := by
  have hst := run_storeM P g o e fz [z0] 0 cur.toArray w hg (by simpa using hfz) (by simpa using hfit) (by intro v hv; simp at hv; subst hv; exact h1)
  simp [Builtin.clear_, run_underlying ht, zeroValue, typeInfo, hi, hz, hzs, hst, splice]

theorem run_appendM (w : World) (t ty e : TypeId) (i : TypeInfo) (ht : P.underlying t = some (.slice e)) (hi : P.info? e = some i) (hs : i.size = 1)
    (g o sLen sCap : Nat) (cur : List Value) (fz : Nat × Nat) (hg : w.heap[g]? = some (.cells cur.toArray e fz)) (hfz : Free fz cur.length)
    (a : Addr) (m c : Nat) (news : List Value) (hl : news.length = m) (hnews : ∀ j u, news[j]? = some u → w.cell? (a.add j) = some u) (h1 : ∀ u ∈ news, u.oneCell' = true)
    (hroom : sLen + m ≤ sCap) (hfit : o + sLen + news.length ≤ cur.length) :
    (Builtin.append_ #[t, t] ty #[.slice (some ⟨g, o, none⟩) sLen sCap, .slice (some a) m c]).run P w =
      .ok (.slice (some ⟨g, o, none⟩) (sLen + m) sCap) (w.setRow g (splice cur (o + sLen) news).toArray) := by
  have hf := run_firstCells_some (P := P) w i.size m a m c news (by rw [hs, hl]; omega) hnews
  have hst := run_storeM P g (o + sLen) e fz news 0 cur.toArray w hg (by simpa using hfz) (by simpa using hfit) h1
  simp only [Nat.add_zero] at hst
  rw [hs] at hf
  simp [Builtin.append_, run_underlying ht, sizeOf, typeInfo, hi, hs, Builtin.lenOf, hroom, add_lit, hf, hst, splice]
end

theorem splice_mid {α : Type} (A B B' C : List α) (h : B.length = B'.length) : splice (A ++ (B ++ C)) A.length B' = A ++ (B' ++ C) := by
  unfold splice
  rw [List.take_left, ← h, ← List.append_assoc A B C, ← List.length_append, List.drop_left]

/-- Put in within the part: behind the two copies. -/
theorem splice_in {α : Type} (L A ds S R : List α) (d s0 x : α) : splice (splice (L ++ ((A ++ d :: ds) ++ ((s0 :: S) ++ R))) (L.length + A.length + 1) (d :: ds)) (L.length + A.length) [x] = L ++ ((A ++ x :: d :: ds) ++ (S ++ R)) := by
  have e1 : L ++ ((A ++ d :: ds) ++ ((s0 :: S) ++ R)) = (L ++ A ++ [d]) ++ ((ds ++ [s0]) ++ (S ++ R)) := by simp
  have l1 : L.length + A.length + 1 = (L ++ A ++ [d]).length := by simp; omega
  rw [e1, l1, splice_mid _ _ _ _ (by simp)]
  have e2 : (L ++ A ++ [d]) ++ ((d :: ds) ++ (S ++ R)) = (L ++ A) ++ ([d] ++ ((d :: ds) ++ (S ++ R))) := by simp
  rw [e2, show L.length + A.length = (L ++ A).length by simp, splice_mid _ _ _ _ (by simp)]
  simp

/-- Taken out within the part: behind the append and the clear. -/
theorem splice_out {α : Type} (L A ds T : List α) (y z : α) : splice (splice (L ++ ((A ++ y :: ds) ++ T)) (L.length + A.length) ds) (L.length + (A.length + ds.length)) [z] = L ++ ((A ++ ds) ++ (z :: T)) := by
  obtain ⟨B, l, hB, hl⟩ : ∃ B l, y :: ds = B ++ [l] ∧ B.length = ds.length := ⟨(y :: ds).dropLast, (y :: ds).getLast (by simp), (List.dropLast_concat_getLast (by simp)).symm, by simp⟩
  have e1 : L ++ ((A ++ y :: ds) ++ T) = (L ++ A) ++ (B ++ ([l] ++ T)) := by rw [hB]; simp
  rw [e1, show L.length + A.length = (L ++ A).length by simp, splice_mid _ _ _ _ hl]
  have e2 : (L ++ A) ++ (ds ++ ([l] ++ T)) = (L ++ A ++ ds) ++ ([l] ++ T) := by simp
  rw [e2, show L.length + (A.length + ds.length) = (L ++ A ++ ds).length by simp, splice_mid _ _ _ _ (by simp)]
  simp

/-- A part of the row at g: L cells ahead, xs, S cells of room, R behind. -/
def Seg (w : World) (g : Nat) (e : TypeId) (fz : Nat × Nat) (L xs S R : List Value) : Prop :=
  w.heap[g]? = some (.cells (L ++ (xs ++ (S ++ R))).toArray e fz) ∧ Free fz (L.length + (xs.length + (S.length + R.length)))
theorem Seg.lt {w : World} {g : Nat} {e : TypeId} {fz : Nat × Nat} {L xs S R : List Value} (h : Seg w g e fz L xs S R) : g < w.heap.size := block_lt h.1
theorem Seg.cells {w : World} {g : Nat} {e : TypeId} {fz : Nat × Nat} {L xs S R : List Value} (h : Seg w g e fz L xs S R) (i : Nat) (hi : i ≤ xs.length) : ∀ j v, (xs.drop i)[j]? = some v → w.cell? ((⟨g, L.length + i, none⟩ : Addr).add j) = some v := by
  intro j v hj
  rw [add_lit, cell_rowF h.1, List.getElem?_toArray, List.getElem?_append_right (by omega), show L.length + i + j - L.length = i + j by omega]
  rw [List.getElem?_drop] at hj
  have hlt := (List.getElem?_eq_some_iff.1 hj).1
  rw [List.getElem?_append_left hlt]
  exact hj
theorem Seg.fr {w w' : World} {g : Nat} {e : TypeId} {fz : Nat × Nat} {L xs S R : List Value} {Q : Nat → Prop} (h : Seg w g e fz L xs S R) (hF : Fr Q w w') (hS : ¬ Q g) : Seg w' g e fz L xs S R := ⟨hF.keeps h.1 hS, h.2⟩
end Go.Proofs.Ytlmgogonghafeab
