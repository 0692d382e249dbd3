/-
  SpaceFresh: grownMarked, what holds in its loops.
-/
import Derived.Test.YtmbnimlibnheeaaDoorSh
namespace Go.Proofs.YtmbnimlibnheeaaDoor
open Go.RowKit Go.Lib
set_option linter.unusedVariables false

/-- Six cells written: an element. -/
def set6 (w : World) (g i : Nat) (m a b c d e : Int) : World :=
  (((((w.setCell ⟨g, i, none⟩ (.int .i64 m)).setCell ⟨g, i + 1, none⟩ (.int .i64 a)).setCell ⟨g, i + 2, none⟩ (.int .i64 b)).setCell ⟨g, i + 3, none⟩ (.int .u8 c)).setCell ⟨g, i + 4, none⟩ (.int .i64 d)).setCell ⟨g, i + 5, none⟩ (.int .i64 e)
theorem Fr.set6 (w : World) (g i : Nat) (m a b c d e : Int) : Fr (· = g) w (Go.Proofs.YtmbnimlibnheeaaDoor.set6 w g i m a b c d e) := by
  have h : ∀ (w : World) i u, Fr (· = g) w (w.setCell ⟨g, i, none⟩ u) := fun w i u => Fr.setCell w ⟨g, i, none⟩ u rfl
  exact (h _ _ _).trans ((h _ _ _).trans ((h _ _ _).trans ((h _ _ _).trans ((h _ _ _).trans (h _ _ _)))))

theorem cl_set6 (xs : List (Int × OpE)) : ∀ (k : Nat) (m a b c d e : Int), k < xs.length →
    ((((((cl mkd xs).set (k * 6) (.int .i64 m)).set (k * 6 + 1) (.int .i64 a)).set (k * 6 + 2) (.int .i64 b)).set (k * 6 + 3) (.int .u8 c)).set (k * 6 + 4) (.int .i64 d)).set (k * 6 + 5) (.int .i64 e) = cl mkd (xs.set k (m, ⟨a, b, c, d, e⟩)) := by
  induction xs with
  | nil => intro k m a b c d e h; simp at h
  | cons x xs ih =>
    intro k m a b c d e h
    cases k with
    | zero => simp [cl_cons, mkd]
    | succ k =>
      have := ih k m a b c d e (by simpa using h)
      rw [List.set_cons_succ, cl_cons, cl_cons, ← this]
      simp [mkd, Nat.add_mul, show ∀ n j, n + 6 + j = n + j + 6 from fun n j => by omega]

theorem RowF.set6 {w : World} {g N cap : Nat} {xs : List (Int × OpE)} (h : RowF mkd 6 w g N cap 39 xs) (k : Nat) (m a b c d e : Int) (hk : k < N) :
    RowF mkd 6 (Go.Proofs.YtmbnimlibnheeaaDoor.set6 w g (k * 6) m a b c d e) g N cap 39 (xs.set k (m, ⟨a, b, c, d, e⟩)) := by
  obtain ⟨cur, hh, ht, hl, hn, hm, hs⟩ := h
  refine ⟨(((((cur.set (k * 6) (.int .i64 m)).set (k * 6 + 1) (.int .i64 a)).set (k * 6 + 2) (.int .i64 b)).set (k * 6 + 3) (.int .u8 c)).set (k * 6 + 4) (.int .i64 d)).set (k * 6 + 5) (.int .i64 e), ?_, ?_, by simpa using hl, hn, hm, by simpa using hs⟩
  · have h1 := set_row hh (k * 6) (.int .i64 m)
    have h2 := set_row h1 (k * 6 + 1) (.int .i64 a)
    have h3 := set_row h2 (k * 6 + 2) (.int .i64 b)
    have h4 := set_row h3 (k * 6 + 3) (.int .u8 c)
    have h5 := set_row h4 (k * 6 + 4) (.int .i64 d)
    have h6 := set_row h5 (k * 6 + 5) (.int .i64 e)
    simpa [Go.Proofs.YtmbnimlibnheeaaDoor.set6] using h6
  · rw [List.take_set, List.take_set, List.take_set, List.take_set, List.take_set, List.take_set, ht, cl_set6 xs k m a b c d e (by omega)]

/-- The six cells of a place. -/
theorem RowF.at6 {w : World} {g N cap : Nat} {xs : List (Int × OpE)} (h : RowF mkd 6 w g N cap 39 xs) (k : Nat) (hk : k < N) {m a b c d e : Int} (hx : xs[k]? = some (m, ⟨a, b, c, d, e⟩)) :
    w.cell? ⟨g, k * 6, none⟩ = some (.int .i64 m) ∧ w.cell? ⟨g, k * 6 + 1, none⟩ = some (.int .i64 a) ∧ w.cell? ⟨g, k * 6 + 2, none⟩ = some (.int .i64 b) ∧ w.cell? ⟨g, k * 6 + 3, none⟩ = some (.int .u8 c) ∧ w.cell? ⟨g, k * 6 + 4, none⟩ = some (.int .i64 d) ∧ w.cell? ⟨g, k * 6 + 5, none⟩ = some (.int .i64 e) := by
  obtain ⟨hl, he⟩ := List.getElem?_eq_some_iff.1 hx
  have f := fun j hj => h.cell sz_mkd k j hl hj
  rw [he] at f
  exact ⟨by simpa [mkd] using f 0 (by omega), by simpa [mkd] using f 1 (by omega), by simpa [mkd] using f 2 (by omega), by simpa [mkd] using f 3 (by omega), by simpa [mkd] using f 4 (by omega), by simpa [mkd] using f 5 (by omega)⟩
theorem RowF.frz {α : Type} {f : α → List Value} {k : Nat} {w : World} {g N cap : Nat} {e : TypeId} {xs : List α} (h : RowF f k w g N cap e xs) (i : Nat) : w.frozen? ⟨g, i, none⟩ = false := by
  obtain ⟨cur, hh, _⟩ := h
  exact frozen_row hh i
theorem RowF.blk {α : Type} {f : α → List Value} {k : Nat} {w : World} {g N cap : Nat} {e : TypeId} {xs : List α} (h : RowF f k w g N cap e xs) : ∃ cur, w.heap[g]? = some (.cells cur e (0, 0)) := by
  obtain ⟨cur, hh, _⟩ := h
  exact ⟨_, hh⟩
theorem RowF.caps {α : Type} {f : α → List Value} {k : Nat} {w : World} {g N cap : Nat} {e : TypeId} {xs : List α} (h : RowF f k w g N cap e xs) : xs.length = N ∧ N ≤ cap ∧ cap ≤ 9223372036854775807 := by
  obtain ⟨cur, -, -, h1, h2, h3, -⟩ := h
  exact ⟨h1, h2, h3⟩
/-- The beginning of a row. -/
theorem RowF.front {α : Type} {f : α → List Value} {k : Nat} (hz : Sz f k) {w : World} {g N M cap : Nat} {e : TypeId} {xs ys : List α} (h : RowF f k w g M cap e (xs ++ ys)) (hn : xs.length = N) : RowF f k w g N cap e xs := by
  obtain ⟨cur, hh, ht, hl, h1, h2, h3⟩ := h
  rw [List.length_append] at hl
  refine ⟨cur, hh, ?_, hn, by omega, h2, h3⟩
  have := congrArg (List.take (N * k)) ht
  rw [List.take_take, Nat.min_eq_left (Nat.mul_le_mul_right _ (by omega)), cl_app, List.take_append_of_le_length (by rw [cl_len hz, hn]; exact Nat.le_refl _)] at this
  exact this.trans (List.take_of_length_le (by rw [cl_len hz, hn]; exact Nat.le_refl _))

/-- A slice in a list of slices. -/
abbrev SV := Option Addr × Nat × Nat
def svx (x : SV) : List Value := [.slice x.1 x.2.1 x.2.2]
theorem sz_svx : Sz svx 1 := fun x => ⟨rfl, fun v hv => by simp [svx] at hv; subst hv; rfl⟩
theorem Tryd.infoMs : (Tryd.prog.info? 30).map (fun i => (i.zero, i.size, i.bytes)) = some (some (.slice none 0 0), 1, 24) := by kernel_rfl
theorem push_sv (w : World) (β : Option Nat) (v : Value) (xs : List SV) (hv : SF svx 1 w 30 β v xs) (b : Nat) (x : SV) (hb : w.heap[b]? = some (.cells (svx x).toArray 30 (0, 0))) (hn : xs.length ≤ 100000) :
    ∃ v' w', (∀ ty, (Builtin.append_ #[80, 80] ty #[v, .slice (some ⟨b, 0, none⟩) 1 1]).run Tryd.prog w = .ok v' w') ∧ NowF svx 1 w w' 30 β v' (xs ++ [x]) := by
  obtain ⟨i0, hi0, hz0, hz1, hz2⟩ := info_parts Tryd.infoMs
  obtain ⟨v', w', hr, hN⟩ := run_pushF sz_svx (P := Tryd.prog) w 80 0 30 i0 _ 24 Tryd.underlying80 hi0 hz0 hz1 rfl hz2 β v xs hv ⟨b, 0, none⟩ 1 1 [x] rfl (fun j u hj => by
    rw [cl_one] at hj
    rw [add_lit, cell_row hb, List.getElem?_toArray, Nat.zero_add]
    exact hj) (by omega) (by omega) (by omega)
  exact ⟨v', w', fun ty => hr, hN⟩

abbrev mz (v : Int) : Int × OpE := (v, ⟨0, 0, 0, 0, 0⟩)
def mkE (i k : Nat) : Int × OpE := mz (-1 - 1000 * (i : Int) - (k : Int))
def mkT (n i : Nat) : List (Int × OpE) := (List.range n).map (mkE i)
def tlE (i k : Nat) : Int × OpE := mz (1 + 1000 * (i : Int) + (k : Int))
def tlT (i k : Nat) : List (Int × OpE) := (List.range k).map (tlE i)
theorem mkT_len (n i : Nat) : (mkT n i).length = n := by simp [mkT]
theorem tlT_len (i k : Nat) : (tlT i k).length = k := by simp [tlT]
theorem tlT_snoc (i k : Nat) : tlT i k ++ [tlE i k] = tlT i (k + 1) := by simp [tlT, List.range_succ]
theorem mkT_at {n i k : Nat} (h : k < n) : (mkT n i)[k]? = some (mkE i k) := by simp [mkT, h]
theorem grown_lo {n i k : Nat} (h : k < n) : (mkT n i ++ tlT i 64)[k]? = some (mkE i k) := by
  rw [List.getElem?_append_left (by rw [mkT_len]; exact h)]
  exact mkT_at h
theorem grown_hi {n i k : Nat} (h : n ≤ k) (h2 : k < n + 64) : (mkT n i ++ tlT i 64)[k]? = some (tlE i (k - n)) := by
  rw [List.getElem?_append_right (by rw [mkT_len]; exact h), mkT_len, tlT, List.getElem?_map, List.getElem?_range (by omega)]
  rfl

/-- The list of the lists: its cells. -/
def LC (w : World) (gL K : Nat) (B N C : Nat → Nat) : Prop := ∃ cur : Array Value, w.heap[gL]? = some (.cells cur 30 (0, 0)) ∧ ∀ i, i < K → cur[i]? = some (.slice (some ⟨B i, 0, none⟩) (N i) (C i))
theorem LC.cell {w : World} {gL K : Nat} {B N C : Nat → Nat} (h : LC w gL K B N C) (i : Nat) (hi : i < K) : w.cell? ⟨gL, i, none⟩ = some (.slice (some ⟨B i, 0, none⟩) (N i) (C i)) := by
  obtain ⟨cur, h1, h2⟩ := h
  rw [cell_row h1]
  exact h2 i hi
theorem LC.fr {S : Nat → Prop} {w w' : World} {gL K : Nat} {B N C : Nat → Nat} (h : LC w gL K B N C) (hF : Fr S w w') (hS : ¬ S gL) : LC w' gL K B N C := by
  obtain ⟨cur, h1, h2⟩ := h
  exact ⟨cur, hF.keeps h1 hS, h2⟩
theorem LC.ne {w : World} {gL K : Nat} {B N C : Nat → Nat} (h : LC w gL K B N C) {g : Nat} {cur2 : Array Value} (hg : w.heap[g]? = some (.cells cur2 39 (0, 0))) : gL ≠ g := by
  obtain ⟨cur, h1, -⟩ := h
  rintro rfl
  rw [hg] at h1
  have := Option.some.inj h1
  injection this with e1 e2
  exact absurd e2 (by decide)
theorem LC.lt {w : World} {gL K : Nat} {B N C : Nat → Nat} (h : LC w gL K B N C) : gL < w.heap.size := by
  obtain ⟨cur, h1, -⟩ := h
  exact block_lt h1

section
variable {w wr : World} {gL K : Nat} {B N C : Nat → Nat} {i k : Nat}

/-- While the lists are marked. -/
structure M1 (w wr : World) (gL K : Nat) (B N C : Nat → Nat) (i k : Nat) : Prop where
  inj : ∀ i j, i < K → j < K → B i = B j → i = j
  lc : LC wr gL K B N C
  row : ∀ j, j < K → ∃ X, RowF mkd 6 wr (B j) (N j) (C j) 39 X ∧ (j < i → X = mkT (N j) j) ∧ (j = i → ∀ q, q < k → X[q]? = some (mkE j q))
  fr : Fr (fun b => ∃ j, j < K ∧ B j = b) w wr

theorem M1.set (h : M1 w wr gL K B N C i k) (hi : i < K) (hk : k < N i) : M1 w (Go.Proofs.YtmbnimlibnheeaaDoor.set6 wr (B i) (k * 6) (-1 - 1000 * (i : Int) - (k : Int)) 0 0 0 0 0) gL K B N C i (k + 1) := by
  have hF := Fr.set6 wr (B i) (k * 6) (-1 - 1000 * (i : Int) - (k : Int)) 0 0 0 0 0
  obtain ⟨X, hX, -, hX2⟩ := h.row i hi
  obtain ⟨cur, hc⟩ := hX.blk
  refine ⟨h.inj, h.lc.fr hF (h.lc.ne hc), fun j hj => ?_, h.fr.trans (hF.mono (fun q _ e => ⟨i, hi, e.symm⟩))⟩
  by_cases e : j = i
  · subst e
    refine ⟨_, hX.set6 k _ _ _ _ _ _ hk, fun hlt => absurd hlt (Nat.lt_irrefl _), fun _ q hq => ?_⟩
    by_cases hqk : q = k
    · subst hqk
      rw [List.getElem?_set_self (by rw [hX.caps.1]; exact hk)]
      rfl
    · rw [List.getElem?_set_ne (Ne.symm hqk)]
      exact hX2 rfl q (by omega)
  · obtain ⟨Y, hY, hY1, -⟩ := h.row j hj
    exact ⟨Y, hY.fr hF (fun eq => e (h.inj j i hj hi eq)), hY1, fun eq => absurd eq e⟩
theorem M1.next (h : M1 w wr gL K B N C i (N i)) (hi : i < K) : M1 w wr gL K B N C (i + 1) 0 := by
  refine ⟨h.inj, h.lc, fun j hj => ?_, h.fr⟩
  obtain ⟨X, hX, h1, h2⟩ := h.row j hj
  refine ⟨X, hX, fun hlt => ?_, fun _ q hq => absurd hq (Nat.not_lt_zero _)⟩
  by_cases e : j = i
  · subst e
    refine List.ext_getElem? fun q => ?_
    by_cases hq : q < N j
    · rw [h2 rfl q hq, mkT_at hq]
    · rw [List.getElem?_eq_none (by rw [hX.caps.1]; omega), List.getElem?_eq_none (by rw [mkT_len]; omega)]
  · exact h1 (by omega)

/-- While they are lengthened. -/
structure GT (w wr : World) (gL K : Nat) (B N C : Nat → Nat) (i e : Nat) (τ H D : Nat → Nat) (vs : List SV) (β : Option Nat) (gv : Value) : Prop where
  lc : LC wr gL K B N C
  gl : gL < w.heap.size
  row : ∀ j, j < K → ∃ c, RowF mkd 6 wr (B j) (N j) c 39 (mkT (N j) j) ∧ τ (B j) = j + 1 ∧ (e ≤ j → c = C j)
  don : ∀ j, j < i → vs[j]? = some (some ⟨H j, 0, none⟩, N j + 64, D j) ∧ RowF mkd 6 wr (H j) (N j + 64) (D j) 39 (mkT (N j) j ++ tlT j 64) ∧ τ (H j) = j + 1
  g : SF svx 1 wr 30 β gv vs
  n : vs.length = i
  gn : ∀ g, β = some g → w.heap.size ≤ g
  fr : Fr (fun b => ∃ j, j < K ∧ B j = b) w wr
  lo : ∀ b, b < w.heap.size → τ b ≠ 0 → ∃ j, j < K ∧ B j = b

theorem M1.grow (h : M1 w wr gL K B N C K 0) (hgl : gL < w.heap.size) : ∃ τ H D, GT w wr gL K B N C 0 0 τ H D [] none (.slice none 0 0) := by
  classical
  refine ⟨fun b => if hb : ∃ j, j < K ∧ B j = b then hb.choose + 1 else 0, fun _ => 0, fun _ => 0, h.lc, hgl, fun j hj => ?_, fun j hj => absurd hj (Nat.not_lt_zero _), ⟨rfl, rfl⟩, rfl, (fun g hg => by cases hg), h.fr, fun b _ hb => ?_⟩
  · obtain ⟨X, hX, h1, -⟩ := h.row j hj
    rw [h1 hj] at hX
    refine ⟨C j, hX, ?_, fun _ => rfl⟩
    have hex : ∃ j', j' < K ∧ B j' = B j := ⟨j, hj, rfl⟩
    show (if hb : ∃ j', j' < K ∧ B j' = B j then hb.choose + 1 else 0) = j + 1
    rw [dif_pos hex]
    have := hex.choose_spec
    rw [h.inj _ _ this.1 hj this.2]
  · by_cases hex : ∃ j, j < K ∧ B j = b
    · exact hex
    · exact absurd (dif_neg hex) hb

/-- While one is lengthened. -/
structure GI (w wr : World) (gL K : Nat) (B N C : Nat → Nat) (i k : Nat) (x gv : Value) (τ H D : Nat → Nat) (vs : List SV) (β : Option Nat) (xb xc : Nat) : Prop where
  gt : GT w wr gL K B N C i (i + 1) τ H D vs β gv
  xv : x = .slice (some ⟨xb, 0, none⟩) (N i + k) xc
  xr : RowF mkd 6 wr xb (N i + k) xc 39 (mkT (N i) i ++ tlT i k)
  xt : τ xb = i + 1

def tagX (τ : Nat → Nat) (g t : Nat) : Nat → Nat := fun j => if j = g then t else τ j
theorem tagX_new (τ : Nat → Nat) (g t : Nat) : tagX τ g t g = t := by simp [tagX]
theorem tagX_ne (τ : Nat → Nat) {g t j : Nat} (h : j ≠ g) : tagX τ g t j = τ j := by simp [tagX, h]

variable {x gv : Value} {τ H D : Nat → Nat} {vs : List SV} {β : Option Nat} {xb xc : Nat}
theorem GT.start (h : GT w wr gL K B N C i i τ H D vs β gv) (hi : i < K) : GI w wr gL K B N C i 0 (.slice (some ⟨B i, 0, none⟩) (N i) (C i)) gv τ H D vs β (B i) (C i) := by
  obtain ⟨c, h1, h2, h3⟩ := h.row i hi
  obtain rfl := h3 (Nat.le_refl _)
  exact ⟨⟨h.lc, h.gl, fun j hj => (h.row j hj).imp fun c hc => ⟨hc.1, hc.2.1, fun hle => hc.2.2 (by omega)⟩, h.don, h.g, h.n, h.gn, h.fr, h.lo⟩, by simp, by simpa [tlT] using h1, h2⟩

/-- A step that writes rows of one list alone. -/
theorem GT.step {w3 : World} (h : GT w wr gL K B N C i (i + 1) τ H D vs β gv) (hi : i < K) {xb g' : Nat} (hx : τ xb = i + 1) (hxr : ∃ cur, wr.heap[xb]? = some (.cells cur 39 (0, 0))) (hF : Fr (· = xb) wr w3) (hg : g' = xb ∨ wr.heap.size ≤ g') (hB : ∃ c, RowF mkd 6 w3 (B i) (N i) c 39 (mkT (N i) i)) : GT w w3 gL K B N C i (i + 1) (tagX τ g' (i + 1)) H D vs β gv := by
  have hsz := h.fr.size
  obtain ⟨cur, hc⟩ := hxr
  have tag : ∀ j b cur', wr.heap[b]? = some (.cells cur' 39 (0, 0)) → τ b = j → tagX τ g' (i + 1) b = j := fun j b cur' hb ht => by
    by_cases e : b = g'
    · subst e
      rcases hg with rfl | hg
      · rw [tagX_new, ← hx, ht]
      · exact absurd (block_lt hb) (by omega)
    · rw [tagX_ne _ e, ht]
  refine ⟨h.lc.fr hF (h.lc.ne hc), h.gl, fun j hj => ?_, fun j hj => ?_, h.g.fr hF (fun g he e => ?_), h.n, h.gn, h.fr.next hF (fun b hb e => ?_), fun b hb ht => ?_⟩
  · obtain ⟨c, r1, r2, r3⟩ := h.row j hj
    obtain ⟨cur', hc'⟩ := r1.blk
    by_cases e : j = i
    · subst e
      obtain ⟨c', hB⟩ := hB
      exact ⟨c', hB, tag _ _ _ hc' r2, fun hle => by omega⟩
    · exact ⟨c, r1.fr hF (fun eq => e (by rw [eq] at r2; omega)), tag _ _ _ hc' r2, r3⟩
  · obtain ⟨d1, d2, d3⟩ := h.don j hj
    obtain ⟨cur', hc'⟩ := d2.blk
    exact ⟨d1, d2.fr hF (fun eq => by rw [eq] at d3; omega), tag _ _ _ hc' d3⟩
  · subst he
    obtain ⟨cur', hc'⟩ := h.g.blk
    subst e
    rw [hc] at hc'
    have := Option.some.inj hc'
    injection this with e1 e2
    exact absurd e2 (by decide)
  · subst e
    obtain ⟨j, hj, hj2⟩ := h.lo b hb (by omega)
    exact ⟨j, hj, hj2⟩
  · by_cases e : b = g'
    · subst e
      rcases hg with rfl | hg
      · exact h.lo b hb (by omega)
      · omega
    · rw [tagX_ne _ e] at ht
      exact h.lo b hb ht

theorem GI.push (h : GI w wr gL K B N C i k x gv τ H D vs β xb xc) (hi : i < K) (hn : N i + k ≤ 90000) :
    ∃ x' w3 τ' xb' xc', (∀ ty, (Builtin.append_ #[30, 30] ty #[x, .slice (some ⟨wr.heap.size, 0, none⟩) 1 1]).run Tryd.prog (wr.alloc (.cells (mkd (tlE i k)).toArray 39)) = .ok x' w3) ∧ GI w w3 gL K B N C i (k + 1) x' gv τ' H D vs β xb' xc' := by
  obtain ⟨hgt, rfl, hr, ht⟩ := h
  have F1 : Fr (fun _ => False) wr (wr.alloc (.cells (mkd (tlE i k)).toArray 39)) := Fr.alloc _ _ _
  have hl : (mkT (N i) i ++ tlT i k).length = N i + k := by rw [List.length_append, mkT_len, tlT_len]
  have hsf : SF mkd 6 (wr.alloc (.cells (mkd (tlE i k)).toArray 39)) 39 (some xb) (.slice (some ⟨xb, 0, none⟩) (N i + k) xc) (mkT (N i) i ++ tlT i k) := ⟨xc, by rw [hl], by rw [hl]; exact hr.fr F1 (fun h => h)⟩
  obtain ⟨v', w3, hrun, g', hS, hm⟩ := push_mk _ (some xb) _ _ hsf wr.heap.size (tlE i k) (heap_alloc_new _ _) (by rw [hl]; omega)
  obtain ⟨c', rfl, hR⟩ := hS
  rw [List.append_assoc, tlT_snoc] at hR
  have hl2 : (mkT (N i) i ++ tlT i (k + 1)).length = N i + (k + 1) := by rw [List.length_append, mkT_len, tlT_len]
  rw [hl2] at hR
  have hbw : (wr.alloc (.cells (mkd (tlE i k)).toArray 39)).heap.size = wr.heap.size + 1 := by simp
  obtain ⟨cb, b1, b2, -⟩ := hgt.row i hi
  have hF : Fr (· = xb) wr w3 := by
    rcases hm with ⟨e, hm⟩ | ⟨e, hm⟩
    · injection e with e
      subst e
      exact (F1.mono (fun _ _ h => h.elim)).trans hm
    · exact (F1.mono (fun _ _ h => h.elim)).trans (hm.mono (fun _ _ h => h.elim))
  have hg : g' = xb ∨ wr.heap.size ≤ g' := by
    rcases hm with ⟨e, -⟩ | ⟨e, -⟩
    · injection e with e
      exact .inl e.symm
    · exact .inr (by omega)
  refine ⟨_, w3, tagX τ g' (i + 1), g', c', hrun, hgt.step hi ht hr.blk hF hg ?_, by rw [List.append_assoc, tlT_snoc, hl2], hR, tagX_new _ _ _⟩
  by_cases e : B i = xb
  · rcases hm with ⟨e2, -⟩ | ⟨-, hm⟩
    · injection e2 with e2
      rw [e, e2]
      exact ⟨c', RowF.front sz_mkd hR (mkT_len _ _)⟩
    · exact ⟨cb, (b1.fr F1 (fun h => h)).fr hm (fun h => h)⟩
  · exact ⟨cb, b1.fr hF e⟩

/-- The list of the lengthened lists has one more. -/
theorem GI.next (h : GI w wr gL K B N C i 64 x gv τ H D vs β xb xc) (hi : i < K) (hK : K ≤ 1000) :
    ∃ v' w3 H' D' vs' β', x = .slice (some ⟨xb, 0, none⟩) (N i + 64) xc ∧ (∀ ty, (Builtin.append_ #[80, 80] ty #[gv, .slice (some ⟨wr.heap.size, 0, none⟩) 1 1]).run Tryd.prog (wr.alloc (.cells #[.slice (some ⟨xb, 0, none⟩) (N i + 64) xc] 30)) = .ok v' w3) ∧ GT w w3 gL K B N C (i + 1) (i + 1) τ H' D' vs' β' v' := by
  obtain ⟨hgt, rfl, hr, ht⟩ := h
  have F1 : Fr (fun _ => False) wr (wr.alloc (.cells #[.slice (some ⟨xb, 0, none⟩) (N i + 64) xc] 30)) := Fr.alloc _ _ _
  obtain ⟨v', w3, hrun, g', hS, hm⟩ := push_sv (wr.alloc (.cells #[.slice (some ⟨xb, 0, none⟩) (N i + 64) xc] 30)) β gv vs (hgt.g.fr F1 (fun _ _ h => h)) wr.heap.size (some ⟨xb, 0, none⟩, N i + 64, xc) (heap_alloc_new _ _) (by rw [hgt.n]; omega)
  have hbw : (wr.alloc (.cells #[.slice (some ⟨xb, 0, none⟩) (N i + 64) xc] 30)).heap.size = wr.heap.size + 1 := by simp
  have hws := hgt.fr.size
  have hF : Fr (fun b => β = some b) wr w3 := by
    rcases hm with ⟨e, hm⟩ | ⟨e, hm⟩
    · exact (F1.mono (fun _ _ h => h.elim)).trans (hm.mono (fun b _ hb => by rw [hb]; exact e))
    · exact (F1.mono (fun _ _ h => h.elim)).trans (hm.mono (fun _ _ h => h.elim))
  have nb : ∀ b cur, wr.heap[b]? = some (.cells cur 39 (0, 0)) → ¬ β = some b := fun b cur hb hbe => by
    subst hbe
    obtain ⟨cur', hc'⟩ := hgt.g.blk
    rw [hb] at hc'
    have := Option.some.inj hc'
    injection this with e1 e2
    exact absurd e2 (by decide)
  have keep : ∀ {g n c X}, RowF mkd 6 wr g n c 39 X → RowF mkd 6 w3 g n c 39 X := fun {g n c X} hX => by
    obtain ⟨cur, hc⟩ := hX.blk
    exact hX.fr hF (nb _ _ hc)
  refine ⟨v', w3, fun j => if j = i then xb else H j, fun j => if j = i then xc else D j, _, some g', rfl, hrun, ?_, hgt.gl, fun j hj => ?_, fun j hj => ?_, hS, by simp [hgt.n], fun g hg => ?_, ?_, hgt.lo⟩
  · exact hgt.lc.fr hF (fun hbe => by have := hgt.gn _ hbe; have := hgt.gl; omega)
  · obtain ⟨c, r1, r2, r3⟩ := hgt.row j hj
    exact ⟨c, keep r1, r2, r3⟩
  · by_cases e : j = i
    · subst e
      simp only [if_true]
      refine ⟨?_, keep hr, ht⟩
      rw [List.getElem?_append_right (by rw [hgt.n]; exact Nat.le_refl _), hgt.n, Nat.sub_self]
      rfl
    · obtain ⟨d1, d2, d3⟩ := hgt.don j (by omega)
      simp only [if_neg e]
      refine ⟨?_, keep d2, d3⟩
      rw [List.getElem?_append_left (by rw [hgt.n]; omega)]
      exact d1
  · injection hg with hg
    subst hg
    rcases hm with ⟨e, -⟩ | ⟨e, -⟩
    · exact hgt.gn _ e
    · omega
  · exact hgt.fr.next hF (fun b hb hbe => by have := hgt.gn _ hbe; omega)
end

end Go.Proofs.YtmbnimlibnheeaaDoor
