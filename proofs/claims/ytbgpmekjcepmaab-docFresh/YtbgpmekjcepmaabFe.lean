/-
  DocFresh: grownElems, the marks.
-/
import Derived.Test.YtbgpmekjcepmaabFd
namespace Go.Proofs.Ytbgpmekjcepmaab
open Go.RowKit
set_option linter.unusedVariables false

/-- append of one element: the same row, or a new one and all as it was. -/
theorem run_pushE2 (w : World) (g cap : Nat) (xs : List El) (hR : RowE w g xs.length cap xs) (vb : Nat) (x : El) (hb : w.heap[vb]? = some (.cells (elc x).toArray 46 (0, 0))) (hn : xs.length ≤ 4096) :
    ∃ g' cap' w', (∀ ty, (Builtin.append_ #[22, 22] ty #[.slice (some ⟨g, 0, none⟩) xs.length cap, .slice (some ⟨vb, 0, none⟩) 1 1]).run Try.prog w = .ok (.slice (some ⟨g', 0, none⟩) (xs.length + 1) cap') w') ∧
      RowE w' g' (xs.length + 1) cap' (xs ++ [x]) ∧ ((g' = g ∧ cap' = cap ∧ Fr (· = g) w w') ∨ (g' = w.heap.size ∧ Fr (fun _ => False) w w')) := by
  obtain ⟨i0, hi0, hz0, hz1, hz2⟩ := info_parts Try.infoE
  have hl : (elc x).length = 1 * i0.size := by rw [hz1]; rfl
  have hnews : ∀ j u, (elc x)[j]? = some u → w.cell? ((⟨vb, 0, none⟩ : Addr).add j) = some u := fun j u hj => by
    rw [add_lit, Nat.zero_add, cell_row hb, List.getElem?_toArray]
    exact hj
  have h1 : ∀ u ∈ elc x, u.oneCell' = true := by rw [← cE_one]; exact cE_one' _
  obtain ⟨cur, hh, htk, hvl, hnc, hcm, hcs⟩ := hR
  by_cases hroom : xs.length + 1 ≤ cap
  · have hr := fun ty => run_append_room (P := Try.prog) w 22 ty 46 i0 Try.underlying22 hi0 g xs.length cap cur.toArray hh ⟨vb, 0, none⟩ 1 1 (elc x) hl hnews h1 hroom (by rw [hz1]; simp [elc, hcs]; omega)
    refine ⟨g, cap, _, hr, ?_, .inl ⟨rfl, rfl, Fr.setRow _ _ _ rfl⟩⟩
    rw [hz1]
    refine ⟨splice cur (xs.length * 3) (elc x), ?_, push_take cur xs x xs.length rfl (by omega) htk, by simp, hroom, hcm, ?_⟩
    · have := setRow_heap w g cur.toArray (splice cur (xs.length * 3) (elc x)).toArray 46 _ hh
      simpa [splice] using this
    · rw [length_splice _ _ _ (by simp [elc]; omega), hcs]
  · have holds : ∀ j u, (cE xs)[j]? = some u → w.cell? ((⟨g, 0, none⟩ : Addr).add j) = some u := by
      have := row_cells hh htk rfl 0 (Nat.zero_le _)
      simpa using this
    have hr := fun ty => run_append_grow (P := Try.prog) w 22 ty 46 i0 _ Try.underlying22 hi0 hz0 ⟨g, 0, none⟩ xs.length cap (cE xs) (by rw [hz1, cE_len]) holds ⟨vb, 0, none⟩ 1 1 (elc x) hl hnews (by omega) (by omega) (growslice_fits (by omega) (by rw [hz2]; omega))
    have hG1 := grownCap_ge w (xs.length + 1) cap 46
    have hG2 := grownCap_le_maxLen w (xs.length + 1) cap 46 (by unfold maxLen; omega)
    generalize grownCap w (xs.length + 1) cap 46 = G at hr hG1 hG2
    refine ⟨w.heap.size, G, _, hr, ?_, .inr ⟨rfl, (Fr.drew _ w).trans (Fr.alloc _ _ _)⟩⟩
    refine ⟨((cE xs).toArray ++ (elc x).toArray ++ Builtin.zeroCells #[.int .u8 0, .int .i64 0, .int .i64 0] (G - (xs.length + 1))).toList, ?_, ?_, by simp, hG1, hG2, ?_⟩
    · rw [show w.heap.size = w.drew.heap.size from rfl, heap_alloc_new]
      simp [Value.cells]
    · rw [Array.toList_append, Array.toList_append, List.toList_toArray, List.toList_toArray]
      have : (cE xs ++ elc x).length = (xs.length + 1) * 3 := by rw [List.length_append, cE_len]; simp [elc]; omega
      rw [← this, List.take_left, cE_app, cE_one]
    · rw [Array.toList_append, Array.toList_append, List.length_append, List.length_append, zero_len, List.toList_toArray, List.toList_toArray, cE_len]
      simp [elc]
      omega

/-- Texts by number, each in a block of its own. -/
def TB (w : World) (K : Nat) (B C : Nat → Nat) (X : Nat → List El) : Prop := (∀ i j, i < K → j < K → B i = B j → i = j) ∧ ∀ i, i < K → RowE w (B i) (X i).length (C i) (X i)

theorem TB.upd {w w' : World} {K : Nat} {B C : Nat → Nat} {X Y : Nat → List El} (h : TB w K B C X) (i : Nat) (hi : i < K) (hF : Fr (· = B i) w w') (hR : RowE w' (B i) (Y i).length (C i) (Y i)) (hY : ∀ j, j ≠ i → Y j = X j) : TB w' K B C Y := by
  refine ⟨h.1, fun j hj => ?_⟩
  by_cases e : j = i
  · subst e; exact hR
  · rw [hY j e]
    exact (h.2 j hj).fr hF (fun eq => e (h.1 j i hj hi eq))
theorem TB.below {w w' : World} {K : Nat} {B C : Nat → Nat} {X : Nat → List El} (h : TB w K B C X) (hb : Below w.heap.size w w') : TB w' K B C X := ⟨h.1, fun j hj => (h.2 j hj).fr (S := fun _ => False) (Fr.of_below hb) (fun h => h)⟩
theorem TB.tfr {t : TypeId} {w w' : World} {K : Nat} {B C : Nat → Nat} {X : Nat → List El} (h : TB w K B C X) (hF : TFr t w w') (hne : 46 ≠ t) : TB w' K B C X := ⟨h.1, fun j hj => (h.2 j hj).tfr hF hne⟩

def mkE (i k : Nat) : El := (0, -1 - (i : Int), (k : Int))
def mkT (n i : Nat) : List El := (List.range n).map (mkE i)
def tlE (i k : Nat) : El := (0, -1000 - (i : Int), (k : Int))
def tlT (i k : Nat) : List El := (List.range k).map (tlE i)

/-- The list of the texts: its cells. -/
def LC (w : World) (gL K : Nat) (B N C : Nat → Nat) : Prop := ∃ cur : Array Value, w.heap[gL]? = some (.cells cur 22 (0, 0)) ∧ ∀ i, i < K → cur[i]? = some (.slice (some ⟨B i, 0, none⟩) (N i) (C i))
theorem LC.cell {w : World} {gL K : Nat} {B N C : Nat → Nat} (h : LC w gL K B N C) (i : Nat) (hi : i < K) : w.cell? ⟨gL, i, none⟩ = some (.slice (some ⟨B i, 0, none⟩) (N i) (C i)) := by
  obtain ⟨cur, h1, h2⟩ := h
  rw [cell_row h1]
  exact h2 i hi
theorem LC.fr {w w' : World} {gL K : Nat} {B N C : Nat → Nat} (h : LC w gL K B N C) {g : Nat} (hF : Fr (· = g) w w') {cur2 : Array Value} (hg : w.heap[g]? = some (.cells cur2 46 (0, 0))) : LC w' gL K B N C := by
  obtain ⟨cur, h1, h2⟩ := h
  refine ⟨cur, hF.keeps h1 (fun e => ?_), h2⟩
  subst e
  rw [hg] at h1
  have := Option.some.inj h1
  injection this with e1 e2
  exact absurd e2 (by decide)
theorem LC.below {w w' : World} {gL K : Nat} {B N C : Nat → Nat} (h : LC w gL K B N C) (hb : Below w.heap.size w w') : LC w' gL K B N C := by
  obtain ⟨cur, h1, h2⟩ := h
  exact ⟨cur, below_keep hb h1, h2⟩

/-- Only texts of the list, and new blocks. -/
def BFr (w w' : World) (K : Nat) (B : Nat → Nat) : Prop := Fr (fun k => ∃ j, j < K ∧ B j = k) w w'

/-- What holds while the texts are marked. -/
def MRel (w wr : World) (gL K : Nat) (B N C : Nat → Nat) (T : Nat → List El) (i : Nat) : Prop :=
  TB wr K B C (fun j => if j < i then mkT (N j) j else T j) ∧ LC wr gL K B N C ∧ BFr w wr K B

/-- append of one text onto a list of texts: what stays. -/
theorem texts_push2 {wr : World} {β : Option Nat} {v : Value} {vs : List Value} (h : SRow wr 22 β v vs) (hn : vs.length ≤ 10000) (a : Option Addr) (n c : Nat) :
    ∃ v' w3 β', (∀ ty, (Builtin.append_ #[54, 54] ty #[v, .slice (some ⟨wr.heap.size, 0, none⟩) 1 1]).run Try.prog (wr.alloc (.cells #[.slice a n c] 22)) = .ok v' w3) ∧
      SRow w3 22 β' v' (vs ++ [.slice a n c]) ∧ (β' = β ∨ ∃ g, β' = some g ∧ wr.heap.size ≤ g) ∧ Fr (fun k => β = some k) wr w3 ∧ TFr 22 wr w3 := by
  obtain ⟨i0, hi0, hz0, hz1, hz2⟩ := info_parts Try.infoL
  have B1 : Below wr.heap.size wr (wr.alloc (.cells #[.slice a n c] 22)) := (Below.refl _ _).alloc (Nat.le_refl _) _
  have hnews : ∀ j u, [Value.slice a n c][j]? = some u → (wr.alloc (.cells #[.slice a n c] 22)).cell? ((⟨wr.heap.size, 0, none⟩ : Addr).add j) = some u := by
    intro j u hj
    rw [add_lit, Nat.zero_add, cell_row (heap_alloc_new _ _)]
    simpa using hj
  obtain ⟨g', cap', w3, hr, hP, hF⟩ := run_push (P := Try.prog) (wr.alloc (.cells #[.slice a n c] 22)) 54 0 22 i0 (.slice none 0 0) 24 Try.underlying54 hi0 hz0 hz1 rfl hz2 β v vs (h.below B1) ⟨wr.heap.size, 0, none⟩ 1 1 [.slice a n c] rfl hnews (by intro u hu; simp at hu; subst hu; rfl) (by omega) (by omega) (by omega)
  have hl : (vs ++ [Value.slice a n c]).length = vs.length + 1 := by simp
  refine ⟨_, w3, some g', fun ty => ?_, ⟨cap', by rw [hl], by rw [hl]; exact hP⟩, ?_, ?_, ?_⟩
  · have : ∀ ty, Builtin.append_ #[54, 54] ty #[v, .slice (some ⟨wr.heap.size, 0, none⟩) 1 1] = Builtin.append_ #[54, 54] 0 #[v, .slice (some ⟨wr.heap.size, 0, none⟩) 1 1] := fun _ => rfl
    rw [this ty]
    exact hr
  · rcases hF with ⟨hF, _⟩ | ⟨hF, _⟩
    · exact .inl hF.symm
    · exact .inr ⟨g', rfl, by rw [hF]; simp⟩
  · rcases hF with ⟨hF1, hF2⟩ | ⟨hF1, hF2⟩
    · exact (Fr.of_below B1).trans (hF2.mono (fun k _ e => by rw [e]; exact hF1))
    · exact (Fr.of_below B1).trans (hF2.mono (fun k _ e => e.elim))
  · rcases hF with ⟨hF1, hF2⟩ | ⟨hF1, hF2⟩
    · refine ⟨fun k => k = g', (Fr.of_below B1).trans hF2, ?_⟩
      rintro g rfl
      subst hF1
      obtain ⟨cap, -, cur, hh, -⟩ := h
      exact ⟨cur, hh⟩
    · exact ⟨fun _ => False, (Fr.of_below B1).trans hF2, fun g h => h.elim⟩

theorem mkT_len (n i : Nat) : (mkT n i).length = n := by simp [mkT]
theorem tlT_len (i k : Nat) : (tlT i k).length = k := by simp [tlT]
theorem tlT_snoc (i k : Nat) : tlT i k ++ [tlE i k] = tlT i (k + 1) := by simp [tlT, List.range_succ]

/-- What holds while one text is lengthened. -/
def IRel (wo wq : World) (b n ci i : Nat) (x : Value) (k : Nat) : Prop :=
  ∃ (P : List El) (g c : Nat), x = .slice (some ⟨g, 0, none⟩) (n + k) c ∧ RowE wq g (n + k) c (mkT n i ++ tlT i k) ∧ RowE wq b (mkT n i ++ P).length ci (mkT n i ++ P) ∧ Fr (· = b) wo wq ∧ ((g = b ∧ c = ci) ∨ wo.heap.size ≤ g)

theorem IRel.push {wo wq : World} {b n ci i k : Nat} {x : Value} (h : IRel wo wq b n ci i x k) (hb : b < wo.heap.size) (hn : n + k ≤ 4000) :
    ∃ x' w3, (∀ ty, (Builtin.append_ #[22, 22] ty #[x, .slice (some ⟨wq.heap.size, 0, none⟩) 1 1]).run Try.prog (wq.alloc (.cells (elc (tlE i k)).toArray 46)) = .ok x' w3) ∧ IRel wo w3 b n ci i x' (k + 1) ∧ TFr 46 wq w3 := by
  obtain ⟨P, g, c, rfl, h1, h2, h3, h4⟩ := h
  have B1 : Below wq.heap.size wq (wq.alloc (.cells (elc (tlE i k)).toArray 46)) := (Below.refl _ _).alloc (Nat.le_refl _) _
  have hl : (mkT n i ++ tlT i k).length = n + k := by rw [List.length_append, mkT_len, tlT_len]
  have h1' : RowE (wq.alloc (.cells (elc (tlE i k)).toArray 46)) g (mkT n i ++ tlT i k).length c (mkT n i ++ tlT i k) := by
    rw [hl]
    exact h1.fr (S := fun _ => False) (Fr.of_below B1) (fun h => h)
  have h2' := h2.fr (S := fun _ => False) (Fr.of_below B1) (fun h => h)
  obtain ⟨g', c', w3, hr, hR, hF⟩ := run_pushE2 _ g c _ h1' wq.heap.size (tlE i k) (heap_alloc_new _ _) (by omega)
  rw [hl] at hr hR
  rw [List.append_assoc, tlT_snoc] at hR
  have F1 : Fr (fun _ => False) wq (wq.alloc (.cells (elc (tlE i k)).toArray 46)) := Fr.of_below B1
  refine ⟨_, w3, hr, ?_, ?_⟩
  · rcases hF with ⟨rfl, rfl, hF⟩ | ⟨rfl, hF⟩
    · rcases h4 with ⟨rfl, rfl⟩ | h4
      · refine ⟨tlT i (k + 1), g', c', rfl, hR, ?_, (h3.next F1 (fun q _ e => e.elim)).trans hF, .inl ⟨rfl, rfl⟩⟩
        have : (mkT n i ++ tlT i (k + 1)).length = n + k + 1 := by rw [List.length_append, mkT_len, tlT_len]; omega
        rw [this]
        exact hR
      · refine ⟨P, g', c', rfl, hR, h2'.fr hF (fun e => by omega), (h3.next F1 (fun q _ e => e.elim)).next hF (fun q hq e => by omega), .inr h4⟩
    · refine ⟨P, _, c', rfl, hR, h2'.fr hF (fun e => e), (h3.next F1 (fun q _ e => e.elim)).next hF (fun q hq e => e.elim), .inr ?_⟩
      have := h3.size
      have := B1.size
      omega
  · rcases hF with ⟨rfl, rfl, hF⟩ | ⟨rfl, hF⟩
    · refine ⟨fun q => q = g', (F1.mono (fun q _ e => e.elim)).trans hF, ?_⟩
      rintro q rfl
      obtain ⟨cur, hh, _⟩ := h1
      exact ⟨_, hh⟩
    · exact ⟨fun _ => False, F1.trans hF, fun q e => e.elim⟩

/-- What holds while the texts are lengthened. -/
def GRel (w wr : World) (gL K : Nat) (B N C : Nat → Nat) (gv : Value) (i : Nat) : Prop :=
  ∃ (P : Nat → List El) (H D : Nat → Nat) (vs : List Value) (β : Option Nat), TB wr K B C (fun j => mkT (N j) j ++ P j) ∧ LC wr gL K B N C ∧ BFr w wr K B ∧ SRow wr 22 β gv vs ∧ vs.length = i ∧
    (∀ j, j < i → vs[j]? = some (.slice (some ⟨H j, 0, none⟩) (N j + 64) (D j)) ∧ RowE wr (H j) (N j + 64) (D j) (mkT (N j) j ++ tlT j 64) ∧ (H j = B j ∨ w.heap.size ≤ H j)) ∧ (∀ j, i ≤ j → P j = []) ∧ (∀ g, β = some g → w.heap.size ≤ g)

theorem GRel.step {w wr wq : World} {gL K : Nat} {B N C : Nat → Nat} {gv : Value} {i : Nat} {x : Value} (h : GRel w wr gL K B N C gv i) (hi : i < K) (hq : IRel wr wq (B i) (N i) (C i) i x 64) (hB : ∀ j, j < K → B j < w.heap.size) (hgL : gL < w.heap.size) (hK : K ≤ 1000) :
    ∃ (g c : Nat) (v' : Value) (w3 : World), x = .slice (some ⟨g, 0, none⟩) (N i + 64) c ∧ (∀ ty, (Builtin.append_ #[54, 54] ty #[gv, .slice (some ⟨wq.heap.size, 0, none⟩) 1 1]).run Try.prog (wq.alloc (.cells #[.slice (some ⟨g, 0, none⟩) (N i + 64) c] 22)) = .ok v' w3) ∧ GRel w w3 gL K B N C v' (i + 1) := by
  obtain ⟨P, H, D, vs, β, t1, t2, t3, t4, t5, t6, t7, t8⟩ := h
  obtain ⟨Q, g, c, rfl, q1, q2, q3, q4⟩ := hq
  have hBi := hB i hi
  have hsz : w.heap.size ≤ wr.heap.size := t3.size
  have rowB : ∃ cur2, wr.heap[B i]? = some (.cells cur2 46 (0, 0)) := by
    obtain ⟨cur, hh, _⟩ := t1.2 i hi
    exact ⟨_, hh⟩
  obtain ⟨cur2, hcur2⟩ := rowB
  have TF : TFr 46 wr wq := ⟨fun k => k = B i, q3, fun k e => by rw [e]; exact ⟨cur2, hcur2⟩⟩
  have S1 : SRow wq 22 β gv vs := t4.tfr TF (by decide)
  have L1 : LC wq gL K B N C := t2.fr q3 hcur2
  obtain ⟨v', w3, β', hr, S2, hβ, F2, T2⟩ := texts_push2 S1 (by omega) (some ⟨g, 0, none⟩) (N i + 64) c
  refine ⟨g, c, v', w3, rfl, hr, fun j => if j = i then Q else P j, fun j => if j = i then g else H j, fun j => if j = i then c else D j, _, β', ?_, ?_, ?_, S2, by simp [t5], ?_, ?_, ?_⟩
  · have u := t1.upd (Y := fun j => mkT (N j) j ++ (if j = i then Q else P j)) i hi q3 (by simpa using q2) (fun j hj => by simp [hj])
    exact u.tfr T2 (by decide)
  · obtain ⟨cur, l1, l2⟩ := L1
    exact ⟨cur, F2.keeps l1 (fun e => by have := t8 _ e; omega), l2⟩
  · exact (t3.trans (q3.mono (fun k _ e => ⟨i, hi, e.symm⟩))).next F2 (fun k hk e => by have := t8 _ e; omega)
  · intro j hj
    by_cases e : j = i
    · subst e
      simp only [if_true]
      refine ⟨?_, q1.tfr T2 (by decide), ?_⟩
      · rw [List.getElem?_append_right (by omega), t5, Nat.sub_self]; rfl
      · rcases q4 with ⟨q4, _⟩ | q4
        · exact .inl q4
        · exact .inr (Nat.le_trans hsz q4)
    · obtain ⟨m1, m2, m3⟩ := t6 j (by omega)
      simp only [if_neg e]
      refine ⟨?_, (m2.fr q3 (fun eq => ?_)).tfr T2 (by decide), m3⟩
      · rw [List.getElem?_append_left (by omega)]; exact m1
      · rcases m3 with m3 | m3
        · exact e (t1.1 j i (by omega) hi (m3 ▸ eq))
        · omega
  · intro j hj
    have : j ≠ i := by omega
    simp only [if_neg this]
    exact t7 j (by omega)
  · intro gg hg
    rcases hβ with hβ | ⟨g2, hβ, hg2⟩
    · exact t8 gg (hβ ▸ hg)
    · obtain rfl : g2 = gg := Option.some.inj (hβ.symm.trans hg)
      have := q3.size
      omega

end Go.Proofs.Ytbgpmekjcepmaab
