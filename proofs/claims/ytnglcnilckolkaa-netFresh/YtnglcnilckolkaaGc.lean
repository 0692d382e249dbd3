/-
  NetFresh: grownGrams, what holds on its way.
-/
import Derived.Test.YtnglcnilckolkaaGb
namespace Go.Proofs.Ytnglcnilckolkaa
open Go.RowKit
set_option linter.unusedVariables false

theorem cO_split (xs : List It) (k : Nat) (hk : k < xs.length) : cO xs = cO (xs.take k) ++ (opc xs[k] ++ cO (xs.drop (k + 1))) := by
  rw [← cO_cons, ← cO_app]
  congr 1
  rw [← List.drop_eq_getElem_cons hk, List.take_append_drop]

theorem set_app (A B : List Value) (n j : Nat) (v : Value) (h : A.length = n) : (A ++ B).set (n + j) v = A ++ B.set j v := by
  rw [List.set_append_right _ _ (by omega), show n + j - A.length = j by omega]

theorem cO_set (xs : List It) (k : Nat) (x : It) (hk : k < xs.length) :
    ((((cO xs).set (k * 4) (.int .i64 x.d.f)).set (k * 4 + 1) (.int .i64 x.d.t)).set (k * 4 + 2) (.slice x.a x.d.b.length x.c)).set (k * 4 + 3) (.bool x.d.s) = cO (xs.set k x) := by
  have hl : (cO (xs.take k)).length = k * 4 := by rw [cO_len, List.length_take]; congr 1; omega
  have es : xs.set k x = xs.take k ++ x :: xs.drop (k + 1) := by rw [List.set_eq_take_append_cons_drop, if_pos hk]
  rw [es, cO_app, cO_cons, cO_split xs k hk]
  have h0 : (cO (xs.take k) ++ (opc xs[k] ++ cO (xs.drop (k + 1)))).set (k * 4) (.int .i64 x.d.f) = cO (xs.take k) ++ (opc xs[k] ++ cO (xs.drop (k + 1))).set 0 (.int .i64 x.d.f) := set_app _ _ (k * 4) 0 _ hl
  rw [h0, set_app _ _ (k * 4) 1 _ hl, set_app _ _ (k * 4) 2 _ hl, set_app _ _ (k * 4) 3 _ hl]
  simp [opc]

/-- nil, or a row of room c that begins with the datagrams ys. -/
def TO (w : World) (γ : Option Nat) (c : Nat) (ys : List It) : Prop :=
  match γ with
  | none => c = 0 ∧ ys = []
  | some g => RowO w g ys.length c ys

theorem TO.sb {w : World} {γ : Option Nat} {c : Nat} {xs : List It} (h : TO w γ c xs) : SO w γ (.slice (at0 γ) xs.length c) xs := by
  cases γ with
  | none => obtain ⟨rfl, rfl⟩ := h; exact ⟨rfl, rfl⟩
  | some g => exact ⟨c, rfl, h⟩
theorem SO.tr {w : World} {γ : Option Nat} {v : Value} {xs : List It} (h : SO w γ v xs) : ∃ c, v = .slice (at0 γ) xs.length c ∧ TO w γ c xs := by
  cases γ with
  | none =>
    obtain ⟨rfl, rfl⟩ := h
    exact ⟨0, rfl, rfl, rfl⟩
  | some g =>
    obtain ⟨cap, rfl, hR⟩ := h
    exact ⟨cap, rfl, hR⟩
theorem TO.fr {S : Nat → Prop} {w w' : World} {γ : Option Nat} {c : Nat} {ys : List It} (h : TO w γ c ys) (hF : Fr S w w') (hS : ∀ g, γ = some g → ¬ S g) : TO w' γ c ys := by
  cases γ with
  | none => exact h
  | some g => exact RowO.fr h hF (hS g rfl)
theorem TO.ty {w : World} {γ : Option Nat} {c : Nat} {ys : List It} (h : TO w γ c ys) : ∀ g, γ = some g → ∃ cur, w.heap[g]? = some (.cells cur 37 (0, 0)) := by
  rintro g rfl
  obtain ⟨cur, hh, _⟩ := h
  exact ⟨_, hh⟩
theorem TO.lt {w : World} {γ : Option Nat} {c : Nat} {ys : List It} (h : TO w γ c ys) : ∀ g, γ = some g → g < w.heap.size := by
  rintro g rfl
  exact RowO.lt h
theorem TO.cap {w : World} {γ : Option Nat} {c : Nat} {ys : List It} (h : TO w γ c ys) : ys.length ≤ c ∧ c ≤ 9223372036854775807 := by
  cases γ with
  | none => obtain ⟨rfl, rfl⟩ := h; exact ⟨Nat.le_refl _, by omega⟩
  | some g => obtain ⟨cur, -, -, -, h1, h2, -⟩ := h; exact ⟨h1, h2⟩
theorem TO.at {w : World} {γ : Option Nat} {c : Nat} {ys : List It} (h : TO w γ c ys) (k : Nat) (hk : k < ys.length) (x : It) (hx : ys[k]? = some x) : ∃ g, γ = some g ∧ w.cell? ⟨g, k * 4, none⟩ = some (.int .i64 x.d.f) ∧ w.cell? ⟨g, k * 4 + 1, none⟩ = some (.int .i64 x.d.t) ∧ w.cell? ⟨g, k * 4 + 2, none⟩ = some (.slice x.a x.d.b.length x.c) ∧ w.cell? ⟨g, k * 4 + 3, none⟩ = some (.bool x.d.s) ∧ ∀ i, w.frozen? ⟨g, i, none⟩ = false := by
  cases γ with
  | none => obtain ⟨rfl, rfl⟩ := h; simp at hk
  | some g =>
    have h' : RowO w g ys.length c ys := h
    obtain ⟨h0, h1, h2, h3⟩ := h'.isO.at k hk hk
    have ex : ys[k] = x := by rw [List.getElem?_eq_getElem hk] at hx; exact Option.some.inj hx
    rw [ex, Nat.zero_add] at h0 h1 h2 h3
    refine ⟨g, rfl, h0, h1, h2, h3, fun i => ?_⟩
    obtain ⟨cur, hh, _⟩ := h'
    exact frozen_row hh i
theorem TO.set {w : World} {g : Nat} {c : Nat} {ys : List It} (h : TO w (some g) c ys) (k : Nat) (hk : k < ys.length) (x : It) : TO ((((w.setCell ⟨g, k * 4, none⟩ (.int .i64 x.d.f)).setCell ⟨g, k * 4 + 1, none⟩ (.int .i64 x.d.t)).setCell ⟨g, k * 4 + 2, none⟩ (.slice x.a x.d.b.length x.c)).setCell ⟨g, k * 4 + 3, none⟩ (.bool x.d.s)) (some g) c (ys.set k x) := by
  obtain ⟨cur, hh, ht, hl, hn, hm, hs⟩ := h
  refine ⟨(((cur.set (k * 4) (.int .i64 x.d.f)).set (k * 4 + 1) (.int .i64 x.d.t)).set (k * 4 + 2) (.slice x.a x.d.b.length x.c)).set (k * 4 + 3) (.bool x.d.s), ?_, ?_, by simp, by simpa using hn, hm, by simpa using hs⟩
  · have h1 := set_row hh (k * 4) (.int .i64 x.d.f)
    have h2 := set_row h1 (k * 4 + 1) (.int .i64 x.d.t)
    have h3 := set_row h2 (k * 4 + 2) (.slice x.a x.d.b.length x.c)
    have h4 := set_row h3 (k * 4 + 3) (.bool x.d.s)
    simpa using h4
  · rw [List.length_set, List.take_set, List.take_set, List.take_set, List.take_set, ht, cO_set ys k x hk]

/-- append of one element onto nil or a row of its own. -/
theorem run_pushO2 (w : World) (β : Option Nat) (v : Value) (xs : List It) (hv : SO w β v xs) (vb : Nat) (x : It) (hb : w.heap[vb]? = some (.cells (opc x).toArray 37 (0, 0))) (hn : xs.length ≤ 4096) :
    ∃ v' w', (∀ ty, (Builtin.append_ #[43, 43] ty #[v, .slice (some ⟨vb, 0, none⟩) 1 1]).run Try.prog w = .ok v' w') ∧ ∃ g' c', v' = .slice (some ⟨g', 0, none⟩) (xs.length + 1) c' ∧ TO w' (some g') c' (xs ++ [x]) ∧ ((β = some g' ∧ Fr (· = g') w w') ∨ (g' = w.heap.size ∧ Fr (fun _ => False) w w')) := by
  obtain ⟨i0, hi0, hz0, hz1, hz2⟩ := info_parts Try.infoO
  have hl : (opc x).length = 1 * i0.size := by rw [hz1]; rfl
  have hnews : ∀ j u, (opc x)[j]? = some u → w.cell? ((⟨vb, 0, none⟩ : Addr).add j) = some u := fun j u hj => by
    rw [add_lit, Nat.zero_add, cell_row hb, List.getElem?_toArray]
    exact hj
  have h1 : ∀ u ∈ opc x, u.oneCell' = true := by rw [← cO_one]; exact cO_one' _
  have newrow : ∀ G, xs.length + 1 ≤ G → G ≤ 9223372036854775807 → RowO (w.drew.alloc (.cells ((cO xs).toArray ++ (opc x).toArray ++ Builtin.zeroCells #[.int .i64 0, .int .i64 0, .slice none 0 0, .bool false] (G - (xs.length + 1))) 37)) w.heap.size (xs.length + 1) G (xs ++ [x]) := by
    intro G hG1 hG2
    refine ⟨((cO xs).toArray ++ (opc x).toArray ++ Builtin.zeroCells #[.int .i64 0, .int .i64 0, .slice none 0 0, .bool false] (G - (xs.length + 1))).toList, ?_, ?_, by simp, hG1, hG2, ?_⟩
    · rw [show w.heap.size = w.drew.heap.size from rfl, heap_alloc_new]
    · rw [Array.toList_append, Array.toList_append, List.toList_toArray, List.toList_toArray]
      have : (cO xs ++ opc x).length = (xs.length + 1) * 4 := by rw [List.length_append, cO_len]; simp [opc]; omega
      rw [← this, List.take_left, cO_app, cO_one]
    · rw [Array.toList_append, Array.toList_append, List.length_append, List.length_append, zero_lenO, List.toList_toArray, List.toList_toArray, cO_len]
      simp [opc]
      omega
  cases β with
  | none =>
    obtain ⟨rfl, rfl⟩ := hv
    have hr := fun ty => run_append_nil (P := Try.prog) w 43 ty 37 i0 _ Try.underlying43 hi0 hz0 ⟨vb, 0, none⟩ 1 1 (opc x) hl hnews (by omega) (by omega) (by rw [hz2]; omega)
    have hG1 := grownCap_ge w 1 0 37
    have hG2 := grownCap_le_maxLen w 1 0 37 (by unfold maxLen; omega)
    generalize grownCap w 1 0 37 = G at hr hG1 hG2
    refine ⟨_, _, hr, w.heap.size, G, rfl, ?_, .inr ⟨rfl, (Fr.drew _ w).trans (Fr.alloc _ _ _)⟩⟩
    have := newrow G hG1 hG2
    simp [cO_nil] at this
    unfold TO
    simpa [Value.cells] using this
  | some g =>
    obtain ⟨cap, rfl, cur, hh, htk, hvl, hnc, hcm, hcs⟩ := hv
    by_cases hroom : xs.length + 1 ≤ cap
    · have hr := fun ty => run_append_room (P := Try.prog) w 43 ty 37 i0 Try.underlying43 hi0 g xs.length cap cur.toArray hh ⟨vb, 0, none⟩ 1 1 (opc x) hl hnews h1 hroom (by rw [hz1]; simp [opc, hcs]; omega)
      refine ⟨_, _, hr, g, cap, rfl, ?_, .inl ⟨rfl, Fr.setRow _ _ _ rfl⟩⟩
      rw [hz1]
      refine ⟨splice cur (xs.length * 4) (opc x), ?_, by simpa using push_takeO cur xs x xs.length rfl (by omega) htk, rfl, by simpa using hroom, hcm, ?_⟩
      · have := setRow_heap w g cur.toArray (splice cur (xs.length * 4) (opc x)).toArray 37 _ hh
        simpa [splice] using this
      · rw [length_splice _ _ _ (by simp [opc]; omega), hcs]
    · have holds : ∀ j u, (cO xs)[j]? = some u → w.cell? ((⟨g, 0, none⟩ : Addr).add j) = some u := by
        exact row_cellsO hh htk
      have hr := fun ty => run_append_grow (P := Try.prog) w 43 ty 37 i0 _ Try.underlying43 hi0 hz0 ⟨g, 0, none⟩ xs.length cap (cO xs) (by rw [hz1, cO_len]) holds ⟨vb, 0, none⟩ 1 1 (opc x) hl hnews (by omega) (by omega) (growslice_fits (by omega) (by rw [hz2]; omega))
      have hG1 := grownCap_ge w (xs.length + 1) cap 37
      have hG2 := grownCap_le_maxLen w (xs.length + 1) cap 37 (by unfold maxLen; omega)
      generalize grownCap w (xs.length + 1) cap 37 = G at hr hG1 hG2
      refine ⟨_, _, hr, w.heap.size, G, rfl, ?_, .inr ⟨rfl, (Fr.drew _ w).trans (Fr.alloc _ _ _)⟩⟩
      have := newrow G hG1 hG2
      unfold TO
      simpa [Value.cells] using this

/-- append of one datagram: the same row, or a new one and all as it was. -/
theorem run_pushD (w : World) (β : Option Nat) (c n : Nat) (xs : List It) (hT : TO w β c xs) (hl : xs.length = n) (x : It) (hn : n ≤ 4096) :
    ∃ g' c' w3, (∀ ty, (Builtin.append_ #[43, 43] ty #[.slice (at0 β) n c, .slice (some ⟨w.heap.size, 0, none⟩) 1 1]).run Try.prog (w.alloc (.cells (opc x).toArray 37)) = .ok (.slice (some ⟨g', 0, none⟩) (n + 1) c') w3) ∧
      TO w3 (some g') c' (xs ++ [x]) ∧ ((β = some g' ∧ Fr (· = g') w w3) ∨ (w.heap.size ≤ g' ∧ Fr (fun _ => False) w w3)) := by
  subst hl
  have B1 : Below w.heap.size w (w.alloc (.cells (opc x).toArray 37)) := (Below.refl _ _).alloc (Nat.le_refl _) _
  have F1 : Fr (fun _ => False) w (w.alloc (.cells (opc x).toArray 37)) := Fr.of_below B1
  have hS := (hT.fr F1 (fun _ _ h => h)).sb
  obtain ⟨v', w3, hr, g', c', rfl, hS', hF⟩ := run_pushO2 (w.alloc (.cells (opc x).toArray 37)) β _ xs hS w.heap.size x (heap_alloc_new _ _) hn
  refine ⟨g', c', w3, hr, hS', ?_⟩
  rcases hF with ⟨hM, hF⟩ | ⟨hM, hF⟩
  · exact .inl ⟨hM, (F1.mono (fun _ _ h => h.elim)).trans hF⟩
  · exact .inr ⟨by rw [hM]; simp, F1.trans hF⟩

/-- Lists of datagrams by number, each nil or in a block of its own. -/
def DB (w : World) (K : Nat) (Γ : Nat → Option Nat) (C : Nat → Nat) (X : Nat → List It) : Prop := (∀ i j g, i < K → j < K → Γ i = some g → Γ j = some g → i = j) ∧ ∀ i, i < K → TO w (Γ i) (C i) (X i)

theorem DB.upd {w w' : World} {K : Nat} {Γ : Nat → Option Nat} {C D : Nat → Nat} {X Y : Nat → List It} (h : DB w K Γ C X) (i : Nat) (hi : i < K) (hF : Fr (fun k => Γ i = some k) w w') (hR : TO w' (Γ i) (D i) (Y i)) (hY : ∀ j, j ≠ i → Y j = X j) (hD : ∀ j, j ≠ i → D j = C j) : DB w' K Γ D Y := by
  refine ⟨h.1, fun j hj => ?_⟩
  by_cases e : j = i
  · subst e; exact hR
  · rw [hY j e, hD j e]
    exact (h.2 j hj).fr hF (fun g eg eg' => e (h.1 j i g hj hi eg eg'))
theorem DB.fr {S : Nat → Prop} {w w' : World} {K : Nat} {Γ : Nat → Option Nat} {C : Nat → Nat} {X : Nat → List It} (h : DB w K Γ C X) (hF : Fr S w w') (hS : ∀ i, i < K → ∀ g, Γ i = some g → ¬ S g) : DB w' K Γ C X := ⟨h.1, fun j hj => (h.2 j hj).fr hF (hS j hj)⟩


def mkD (i k : Nat) : It := ⟨⟨-1 - 1000 * (i : Int) - (k : Int), 0, [], false⟩, none, 0, none⟩
def mkDs (n i : Nat) : List It := (List.range n).map (mkD i)
def tlD (i k : Nat) : It := ⟨⟨0, 1 + 1000 * (i : Int) + (k : Int), [], false⟩, none, 0, none⟩
def tlDs (i k : Nat) : List It := (List.range k).map (tlD i)
theorem mkDs_len (n i : Nat) : (mkDs n i).length = n := by simp [mkDs]
theorem tlDs_len (i k : Nat) : (tlDs i k).length = k := by simp [tlDs]
theorem tlDs_snoc (i k : Nat) : tlDs i k ++ [tlD i k] = tlDs i (k + 1) := by simp [tlDs, List.range_succ]
theorem markD_step (X : List It) (i k : Nat) (hk : k < X.length) : (mkDs k i ++ X.drop k).set k (mkD i k) = mkDs (k + 1) i ++ X.drop (k + 1) := by
  rw [List.set_append_right _ _ (by rw [mkDs_len]; exact Nat.le_refl _), mkDs_len, Nat.sub_self, List.drop_eq_getElem_cons hk, List.set_cons_zero]
  simp [mkDs, List.range_succ]

/-- The list of the lists: its cells. -/
def LD (w : World) (gL K : Nat) (V : Nat → Value) : Prop := ∃ cur : Array Value, w.heap[gL]? = some (.cells cur 43 (0, 0)) ∧ ∀ i, i < K → cur[i]? = some (V i)
theorem LD.cell {w : World} {gL K : Nat} {V : Nat → Value} (h : LD w gL K V) (i : Nat) (hi : i < K) : w.cell? ⟨gL, i, none⟩ = some (V i) := by
  obtain ⟨cur, h1, h2⟩ := h
  rw [cell_row h1]
  exact h2 i hi
theorem LD.fr {S : Nat → Prop} {w w' : World} {gL K : Nat} {V : Nat → Value} (h : LD w gL K V) (hF : Fr S w w') (hS : ¬ S gL) : LD w' gL K V := by
  obtain ⟨cur, h1, h2⟩ := h
  exact ⟨cur, hF.keeps h1 hS, h2⟩
theorem LD.row {w : World} {gL K : Nat} {V : Nat → Value} (h : LD w gL K V) {γ : Option Nat} {c : Nat} {ys : List It} (hT : TO w γ c ys) : γ ≠ some gL := by
  intro e
  obtain ⟨cur, h1, h2⟩ := h
  obtain ⟨cur', h3⟩ := hT.ty gL e
  exact ne_ty h1 h3 (by decide) rfl

/-- What holds while the lists are marked. -/
def MReD (w wr : World) (gL K : Nat) (Γ : Nat → Option Nat) (N C : Nat → Nat) (T : Nat → List It) (i : Nat) : Prop :=
  DB wr K Γ C (fun j => if j < i then mkDs (N j) j else T j) ∧ LD wr gL K (VV Γ N C) ∧ BFr w wr K Γ


theorem Try.infoGs : (Try.prog.info? 43).map (fun i => (i.zero, i.size, i.bytes)) = some (some (.slice none 0 0), 1, 24) := by kernel_rfl

/-- append of one list onto a list of lists. -/
theorem grams_push {wr : World} {β : Option Nat} {v : Value} {vs : List Value} (h : SRow wr 43 β v vs) (hn : vs.length ≤ 10000) (a : Option Addr) (n c : Nat) :
    ∃ v' w3 β', (∀ ty, (Builtin.append_ #[73, 73] ty #[v, .slice (some ⟨wr.heap.size, 0, none⟩) 1 1]).run Try.prog (wr.alloc (.cells #[.slice a n c] 43)) = .ok v' w3) ∧
      SRow w3 43 β' v' (vs ++ [.slice a n c]) ∧ (β' = β ∨ ∃ g, β' = some g ∧ wr.heap.size ≤ g) ∧ Fr (fun k => β = some k) wr w3 := by
  obtain ⟨i0, hi0, hz0, hz1, hz2⟩ := info_parts Try.infoGs
  have B1 : Below wr.heap.size wr (wr.alloc (.cells #[.slice a n c] 43)) := (Below.refl _ _).alloc (Nat.le_refl _) _
  have hnews : ∀ j u, [Value.slice a n c][j]? = some u → (wr.alloc (.cells #[.slice a n c] 43)).cell? ((⟨wr.heap.size, 0, none⟩ : Addr).add j) = some u := by
    intro j u hj
    rw [add_lit, Nat.zero_add, cell_row (heap_alloc_new _ _)]
    simpa using hj
  obtain ⟨g', cap', w3, hr, hP, hF⟩ := run_push (P := Try.prog) (wr.alloc (.cells #[.slice a n c] 43)) 73 0 43 i0 (.slice none 0 0) 24 Try.underlying73 hi0 hz0 hz1 rfl hz2 β v vs (h.fr (S := fun _ => False) (Fr.of_below B1) (fun _ _ h => h)) ⟨wr.heap.size, 0, none⟩ 1 1 [.slice a n c] rfl hnews (by intro u hu; simp at hu; subst hu; rfl) (by omega) (by omega) (by omega)
  have hl : (vs ++ [Value.slice a n c]).length = vs.length + 1 := by simp
  refine ⟨_, w3, some g', fun ty => ?_, ⟨cap', by rw [hl], by rw [hl]; exact hP⟩, ?_, ?_⟩
  · have : ∀ ty, Builtin.append_ #[73, 73] ty #[v, .slice (some ⟨wr.heap.size, 0, none⟩) 1 1] = Builtin.append_ #[73, 73] 0 #[v, .slice (some ⟨wr.heap.size, 0, none⟩) 1 1] := fun _ => rfl
    rw [this ty]
    exact hr
  · rcases hF with ⟨hF, _⟩ | ⟨hF, _⟩
    · exact .inl hF.symm
    · exact .inr ⟨g', rfl, by rw [hF]; simp⟩
  · rcases hF with ⟨hF1, hF2⟩ | ⟨hF1, hF2⟩
    · exact (Fr.of_below B1).trans (hF2.mono (fun k _ e => by rw [e]; exact hF1))
    · exact (Fr.of_below B1).trans (hF2.mono (fun k _ e => e.elim))

/-- What holds while one list is lengthened. -/
def IReD (wo wq : World) (γ : Option Nat) (n i : Nat) (x : Value) (k : Nat) : Prop :=
  ∃ (P : List It) (c' : Nat) (β : Option Nat) (c : Nat), x = .slice (at0 β) (n + k) c ∧ TO wq β c (mkDs n i ++ tlDs i k) ∧ TO wq γ c' (mkDs n i ++ P) ∧ Fr (fun q => γ = some q) wo wq ∧ (β = γ ∨ ∃ g, β = some g ∧ wo.heap.size ≤ g)

theorem IReD.push {wo wq : World} {γ : Option Nat} {n i k : Nat} {x : Value} (h : IReD wo wq γ n i x k) (hb : ∀ g, γ = some g → g < wo.heap.size) (hn : n + k ≤ 4000) :
    ∃ x' w3, (∀ ty, (Builtin.append_ #[43, 43] ty #[x, .slice (some ⟨wq.heap.size, 0, none⟩) 1 1]).run Try.prog (wq.alloc (.cells (opc (tlD i k)).toArray 37)) = .ok x' w3) ∧ IReD wo w3 γ n i x' (k + 1) := by
  obtain ⟨P, c', β, c, rfl, h1, h2, h3, h4⟩ := h
  have hl : (mkDs n i ++ tlDs i k).length = n + k := by rw [List.length_append, mkDs_len, tlDs_len]
  obtain ⟨g', cc, w3, hr, hR, hF⟩ := run_pushD _ β c (n + k) _ h1 hl (tlD i k) (by omega)
  rw [List.append_assoc, tlDs_snoc] at hR
  refine ⟨_, w3, hr, ?_⟩
  rcases hF with ⟨rfl, hF⟩ | ⟨hg, hF⟩
  · rcases h4 with rfl | ⟨g2, e2, h4⟩
    · exact ⟨tlDs i (k + 1), cc, _, cc, rfl, hR, hR, h3.trans (hF.mono (fun q _ e => by rw [e])), .inl rfl⟩
    · obtain rfl := Option.some.inj e2
      exact ⟨P, c', _, cc, rfl, hR, h2.fr hF (fun g eg e => by have := hb g eg; omega), h3.next hF (fun q hq e => by omega), .inr ⟨_, rfl, h4⟩⟩
  · exact ⟨P, c', some g', cc, rfl, hR, h2.fr hF (fun _ _ h => h), h3.next hF (fun q hq e => e.elim), .inr ⟨g', rfl, Nat.le_trans h3.size hg⟩⟩

/-- What holds while the lists are lengthened. -/
def GReD (w wr : World) (gL K : Nat) (Γ : Nat → Option Nat) (N C : Nat → Nat) (gv : Value) (i : Nat) : Prop :=
  ∃ (P : Nat → List It) (C' : Nat → Nat) (H : Nat → Option Nat) (D : Nat → Nat) (vs : List Value) (β : Option Nat), DB wr K Γ C' (fun j => mkDs (N j) j ++ P j) ∧ LD wr gL K (VV Γ N C) ∧ BFr w wr K Γ ∧ SRow wr 43 β gv vs ∧ vs.length = i ∧
    (∀ j, j < i → vs[j]? = some (.slice (at0 (H j)) (N j + 64) (D j)) ∧ TO wr (H j) (D j) (mkDs (N j) j ++ tlDs j 64) ∧ (H j = Γ j ∨ ∃ g, H j = some g ∧ w.heap.size ≤ g)) ∧ (∀ j, i ≤ j → P j = [] ∧ C' j = C j) ∧ (∀ g, β = some g → w.heap.size ≤ g)

theorem GReD.step {w wr wq : World} {gL K : Nat} {Γ : Nat → Option Nat} {N C : Nat → Nat} {gv : Value} {i : Nat} {x : Value} (h : GReD w wr gL K Γ N C gv i) (hi : i < K) (hq : IReD wr wq (Γ i) (N i) i x 64) (hB : ∀ j, j < K → ∀ g, Γ j = some g → g < w.heap.size) (hgL : gL < w.heap.size) (hK : K ≤ 1000) :
    ∃ (a : Option Addr) (c : Nat) (v' : Value) (w3 : World), x = .slice a (N i + 64) c ∧ (∀ ty, (Builtin.append_ #[73, 73] ty #[gv, .slice (some ⟨wq.heap.size, 0, none⟩) 1 1]).run Try.prog (wq.alloc (.cells #[.slice a (N i + 64) c] 43)) = .ok v' w3) ∧ GReD w w3 gL K Γ N C v' (i + 1) := by
  obtain ⟨P, C', H, D, vs, β, t1, t2, t3, t4, t5, t6, t7, t8⟩ := h
  obtain ⟨Q, cc, β1, c, rfl, q1, q2, q3, q4⟩ := hq
  have hsz : w.heap.size ≤ wr.heap.size := t3.size
  have hTi := t1.2 i hi
  have S1 : SRow wq 43 β gv vs := t4.fr q3 (fun g e e' => by
    obtain ⟨c1, h1⟩ := t4.ty g e
    obtain ⟨c2, h2⟩ := hTi.ty g e'
    exact ne_ty h1 h2 (by decide) rfl)
  have L1 : LD wq gL K (VV Γ N C) := t2.fr q3 (t2.row hTi)
  obtain ⟨v', w3, β', hr, S2, hβ, F2⟩ := grams_push S1 (by omega) (at0 β1) (N i + 64) c
  have U := t1.upd (D := fun j => if j = i then cc else C' j) (Y := fun j => mkDs (N j) j ++ (if j = i then Q else P j)) i hi q3 (by simpa using q2) (fun j hj => by simp [hj]) (fun j hj => by simp [hj])
  have away : ∀ {γ : Option Nat} {c0 : Nat} {ys : List It}, TO wq γ c0 ys → TO w3 γ c0 ys := fun hT => hT.fr F2 (fun g e e' => by
    obtain ⟨c1, h1⟩ := S1.ty g e'
    obtain ⟨c2, h2⟩ := hT.ty g e
    exact ne_ty h1 h2 (by decide) rfl)
  refine ⟨at0 β1, c, v', w3, rfl, hr, fun j => if j = i then Q else P j, fun j => if j = i then cc else C' j, fun j => if j = i then β1 else H j, fun j => if j = i then c else D j, _, β', ?_, ?_, ?_, S2, by simp [t5], ?_, ?_, ?_⟩
  · exact ⟨U.1, fun j hj => away (U.2 j hj)⟩
  · exact L1.fr F2 (fun e => by have := t8 _ e; omega)
  · exact (t3.trans (q3.mono (fun k _ e => ⟨i, hi, e⟩))).next F2 (fun k hk e => by have := t8 _ e; omega)
  · intro j hj
    by_cases e : j = i
    · subst e
      simp only [if_true]
      refine ⟨?_, away q1, ?_⟩
      · rw [List.getElem?_append_right (by omega), t5, Nat.sub_self]; rfl
      · rcases q4 with q4 | ⟨g, e, q4⟩
        · exact .inl q4
        · exact .inr ⟨g, e, Nat.le_trans hsz q4⟩
    · obtain ⟨m1, m2, m3⟩ := t6 j (by omega)
      simp only [if_neg e]
      refine ⟨?_, away (m2.fr q3 (fun g eg eq => ?_)), m3⟩
      · rw [List.getElem?_append_left (by omega)]; exact m1
      · rcases m3 with m3 | ⟨g2, e2, m3⟩
        · exact e (t1.1 j i g (by omega) hi (m3 ▸ eg) eq)
        · obtain rfl : g2 = g := Option.some.inj (e2.symm.trans eg)
          have := hB i hi _ eq
          omega
  · intro j hj
    have : j ≠ i := by omega
    simp only [if_neg this]
    exact t7 j (by omega)
  · intro gg hg
    rcases hβ with hβ | ⟨g2, hβ, hg2⟩
    · exact t8 gg (hβ ▸ hg)
    · obtain rfl : g2 = gg := Option.some.inj (hβ.symm.trans hg)
      have := q3.size
      omega


end Go.Proofs.Ytnglcnilckolkaa
