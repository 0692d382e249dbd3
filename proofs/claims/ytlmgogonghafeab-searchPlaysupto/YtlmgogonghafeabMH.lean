/-
  Texts put together: Ha Hb.
-/
import Derived.Test.YtlmgogonghafeabMT
/-! Ha -/
namespace Go.Proofs.Ytlmgogonghafeab
open Go.RowKit Go.Lib
set_option linter.unusedVariables false

/-- A slice value. -/
structure SV where
  a : Option Addr
  n : Nat
  c : Nat
def SV.val (s : SV) : Value := .slice s.a s.n s.c
def sv (s : SV) : List Value := [.slice s.a s.n s.c]
theorem sz_sv : Sz sv 1 := fun x => ⟨rfl, fun v hv => by simp [sv] at hv; subst hv; rfl⟩

section
variable {α : Type} {f : α → List Value} {k : Nat} {e : TypeId}

/-- The cells of block h begin with the list xs. -/
def HC (f : α → List Value) (k : Nat) (w : World) (h : Nat) (xs : List α) : Prop :=
  ∀ p (hp : p < xs.length) q, q < k → w.cell? ⟨h, p * k + q, none⟩ = (f xs[p])[q]?
theorem HC.fr {S : Nat → Prop} {w w' : World} {h : Nat} {xs : List α} (hc : HC f k w h xs) (hF : Fr S w w') (hl : h < w.heap.size) (hS : ¬ S h) : HC f k w' h xs :=
  fun p hp q hq => (hF.cell (p := ⟨h, p * k + q, none⟩) hl hS).trans (hc p hp q hq)
theorem HC.pre {w : World} {h : Nat} {xs ys : List α} (hc : HC f k w h (xs ++ ys)) : HC f k w h xs := fun p hp q hq => by
  have := hc p (by rw [List.length_append]; omega) q hq
  rwa [List.getElem_append_left hp] at this
theorem SF.hc {w : World} {g : Nat} {v : Value} {xs : List α} (h : SF f k w e (some g) v xs) (hz : Sz f k) : HC f k w g xs := by
  obtain ⟨cap, -, hR⟩ := h
  exact fun p hp q hq => hR.cell hz p q hp hq

/-- What a list is, seen through its slice value. -/
def HL (f : α → List Value) (k : Nat) (w : World) (β : Option Nat) (s : SV) (xs : List α) : Prop :=
  xs.length = s.n ∧ s.n ≤ s.c ∧ s.c ≤ 9223372036854775807 ∧ (0 < s.n → ∃ g, β = some g ∧ s.a = some ⟨g, 0, none⟩ ∧ g < w.heap.size ∧ HC f k w g xs)
theorem HL.fr {S : Nat → Prop} {w w' : World} {β : Option Nat} {s : SV} {xs : List α} (h : HL f k w β s xs) (hF : Fr S w w') (hS : ∀ g, β = some g → ¬ S g) : HL f k w' β s xs := by
  obtain ⟨h1, h2, h3, h4⟩ := h
  refine ⟨h1, h2, h3, fun h0 => ?_⟩
  obtain ⟨g, e1, e2, e3, e4⟩ := h4 h0
  exact ⟨g, e1, e2, Nat.lt_of_lt_of_le e3 hF.size, e4.fr hF e3 (hS g e1)⟩
theorem SF.hl {w : World} {β : Option Nat} {s : SV} {xs : List α} (h : SF f k w e β s.val xs) (hz : Sz f k) : HL f k w β s xs := by
  obtain ⟨a, n, c⟩ := s
  obtain ⟨a', c', hv, hlc, hc⟩ := h.form
  obtain ⟨rfl, rfl, rfl⟩ := Value.slice.inj hv
  refine ⟨rfl, hlc, hc, fun h0 => ?_⟩
  cases β with
  | none =>
    obtain ⟨-, rfl⟩ := h
    simp at h0
  | some g =>
    have hlt := h.lt g rfl
    have hC := h.hc hz
    obtain ⟨cap, hv2, -⟩ := h
    obtain ⟨rfl, -, -⟩ := Value.slice.inj hv2
    exact ⟨g, rfl, rfl, hlt, hC⟩
theorem HL.again {w w' : World} {g : Nat} {s : SV} {xs : List α} (h : HL f k w (some g) s xs) (hl : w.heap.size ≤ w'.heap.size) (hC : HC f k w' g xs) : HL f k w' (some g) s xs := by
  obtain ⟨h1, h2, h3, h4⟩ := h
  refine ⟨h1, h2, h3, fun h0 => ?_⟩
  obtain ⟨g', e1, e2, e3, e4⟩ := h4 h0
  cases e1
  exact ⟨g, rfl, e2, Nat.lt_of_lt_of_le e3 hl, hC⟩

/-- The list of the lists: its cells. -/
def LCs (w : World) (ss : TypeId) (gL K : Nat) (V : Nat → SV) : Prop := ∃ cur : Array Value, w.heap[gL]? = some (.cells cur ss (0, 0)) ∧ ∀ i, i < K → cur[i]? = some (V i).val
theorem LCs.cell {w : World} {ss : TypeId} {gL K : Nat} {V : Nat → SV} (h : LCs w ss gL K V) (i : Nat) (hi : i < K) : w.cell? ⟨gL, i, none⟩ = some (.slice (V i).a (V i).n (V i).c) := by
  obtain ⟨cur, h1, h2⟩ := h
  rw [cell_row h1]
  exact h2 i hi
theorem LCs.fr {S : Nat → Prop} {w w' : World} {ss : TypeId} {gL K : Nat} {V : Nat → SV} (h : LCs w ss gL K V) (hF : Fr S w w') (hS : ¬ S gL) : LCs w' ss gL K V := by
  obtain ⟨cur, h1, h2⟩ := h
  exact ⟨cur, hF.keeps h1 hS, h2⟩

/-- The lists as they are asked about: each its own row. -/
structure Lists (w : World) (ss : TypeId) (gL K : Nat) (B : Nat → Option Nat) (V : Nat → SV) : Prop where
  inj : ∀ i j g, i < K → j < K → B i = some g → B j = some g → i = j
  lt : ∀ i g, i < K → B i = some g → g < w.heap.size
  ng : ∀ i, i < K → B i ≠ some gL
  gl : gL < w.heap.size

/-- The marks of list i: the first n. -/
def mkL (mk : Nat → Nat → α) (n i : Nat) : List α := (List.range n).map (mk i)
theorem mkL_len (mk : Nat → Nat → α) (n i : Nat) : (mkL mk n i).length = n := by simp [mkL]
theorem mkL_snoc (mk : Nat → Nat → α) (n i : Nat) : mkL mk n i ++ [mk i n] = mkL mk (n + 1) i := by simp [mkL, List.range_succ]
theorem mkL_at (mk : Nat → Nat → α) (n i p : Nat) (h : p < (mkL mk n i).length) : (mkL mk n i)[p] = mk i p := by simp [mkL]
theorem mkL_set (mk : Nat → Nat → α) (i p : Nat) (T : List α) (h : p < T.length) : (mkL mk p i ++ T.drop p).set p (mk i p) = mkL mk (p + 1) i ++ T.drop (p + 1) := by
  rw [List.set_append_right _ _ (by rw [mkL_len]; exact Nat.le_refl _), mkL_len, Nat.sub_self, List.drop_eq_getElem_cons h, List.set_cons_zero, ← mkL_snoc, List.append_assoc]
  rfl
theorem mix_at (mk tl : Nat → Nat → α) (n i p : Nat) (h : p < (mkL mk n i ++ mkL tl 64 i).length) : (mkL mk n i ++ mkL tl 64 i)[p] = if p < n then mk i p else tl i (p - n) := by
  by_cases hp : p < n
  · rw [if_pos hp, List.getElem_append_left (by rw [mkL_len]; exact hp), mkL_at]
  · rw [if_neg hp, List.getElem_append_right (by rw [mkL_len]; omega), mkL_at]
    simp [mkL_len]

/-- What holds while the lists are marked. -/
def MkR (f : α → List Value) (k : Nat) (e ss : TypeId) (mk : Nat → Nat → α) (w wr : World) (gL K : Nat) (B : Nat → Option Nat) (V : Nat → SV) (T : Nat → List α) (i : Nat) : Prop :=
  (∀ j, j < K → SF f k wr e (B j) (V j).val (if j < i then mkL mk (T j).length j else T j)) ∧ LCs wr ss gL K V ∧ Fr (fun g => ∃ j, j < K ∧ B j = some g) w wr
/-- While one list is marked. -/
def WkR (f : α → List Value) (k : Nat) (e ss : TypeId) (mk : Nat → Nat → α) (wo wq : World) (gL K : Nat) (β : Option Nat) (s : SV) (V : Nat → SV) (T : List α) (i p : Nat) : Prop :=
  SF f k wq e β s.val (mkL mk p i ++ T.drop p) ∧ LCs wq ss gL K V ∧ Fr (fun g => β = some g) wo wq
theorem MkR.begin {mk : Nat → Nat → α} {w wr : World} {ss : TypeId} {gL K : Nat} {B : Nat → Option Nat} {V : Nat → SV} {T : Nat → List α} {i : Nat} (h : MkR f k e ss mk w wr gL K B V T i) (hi : i < K) : WkR f k e ss mk wr wr gL K (B i) (V i) V (T i) i 0 := by
  refine ⟨?_, h.2.1, Fr.refl _ _⟩
  have := h.1 i hi
  rw [if_neg (Nat.lt_irrefl _)] at this
  simpa [mkL] using this
theorem MkR.next {mk : Nat → Nat → α} {w wr wq : World} {ss : TypeId} {gL K : Nat} {B : Nat → Option Nat} {V : Nat → SV} {T : Nat → List α} {i p : Nat} (h : MkR f k e ss mk w wr gL K B V T i) (hL : Lists w ss gL K B V) (hi : i < K) (hq : WkR f k e ss mk wr wq gL K (B i) (V i) V (T i) i p) (hp : (T i).length ≤ p) (hp2 : p ≤ (T i).length) : MkR f k e ss mk w wq gL K B V T (i + 1) := by
  obtain rfl : p = (T i).length := by omega
  obtain ⟨q1, q2, q3⟩ := hq
  rw [List.drop_of_length_le (Nat.le_refl _), List.append_nil] at q1
  refine ⟨fun j hj => ?_, q2, h.2.2.trans (q3.mono (fun g _ hg => ⟨i, hi, hg⟩))⟩
  by_cases e1 : j = i
  · subst e1
    rw [if_pos (by omega)]
    exact q1
  · have := (h.1 j hj).fr q3 (fun g hg hg2 => e1 (hL.inj j i g hj hi hg hg2))
    by_cases e2 : j < i
    · rw [if_pos (by omega)]
      rw [if_pos e2] at this
      exact this
    · rw [if_neg (by omega)]
      rw [if_neg e2] at this
      exact this

/-- append of one element, written as the walk writes it. -/
def PushesF (f : α → List Value) (k : Nat) (e ss : TypeId) : Prop := ∀ (w : World) (β : Option Nat) (v : Value) (xs : List α) (x : α), SF f k w e β v xs → xs.length ≤ 100000 →
  ∃ v' w', (∀ ty, (Builtin.append_ #[ss, ss] ty #[v, .slice (some ⟨w.heap.size, 0, none⟩) 1 1]).run Try.prog (w.alloc (.cells (f x).toArray e)) = .ok v' w') ∧ NowF f k (w.alloc (.cells (f x).toArray e)) w' e β v' (xs ++ [x])

/-- While one list is lengthened. -/
def InR (f : α → List Value) (k : Nat) (e : TypeId) (mk tl : Nat → Nat → α) (wo wq : World) (β : Option Nat) (s : SV) (n i : Nat) (x : Value) (p : Nat) : Prop :=
  ∃ β', SF f k wq e β' x (mkL mk n i ++ mkL tl p i) ∧ HL f k wq β s (mkL mk n i) ∧ Fr (fun g => β = some g) wo wq ∧ (β' = β ∨ ∃ g, β' = some g ∧ wo.heap.size ≤ g)
theorem InR.push {ss : TypeId} {mk tl : Nat → Nat → α} {wo wq : World} {β : Option Nat} {s : SV} {n i p : Nat} {x : Value} (hP : PushesF f k e ss) (hz : Sz f k) (h : InR f k e mk tl wo wq β s n i x p) (hb : ∀ g, β = some g → g < wo.heap.size) (hn : n + p ≤ 100000) :
    ∃ a c w3, (∀ ty, (Builtin.append_ #[ss, ss] ty #[x, .slice (some ⟨wq.heap.size, 0, none⟩) 1 1]).run Try.prog (wq.alloc (.cells (f (tl i p)).toArray e)) = .ok (.slice a (n + (p + 1)) c) w3) ∧ InR f k e mk tl wo w3 β s n i (.slice a (n + (p + 1)) c) (p + 1) := by
  obtain ⟨β', h1, h2, h3, h4⟩ := h
  obtain ⟨v', w3, hr, g', hS, hN⟩ := hP wq β' x _ (tl i p) h1 (by rw [List.length_append, mkL_len, mkL_len]; exact hn)
  rw [List.append_assoc, mkL_snoc] at hS
  obtain ⟨a, c, rfl, -, -⟩ := hS.form
  have hl : (mkL mk n i ++ mkL tl (p + 1) i).length = n + (p + 1) := by rw [List.length_append, mkL_len, mkL_len]
  rw [hl] at hr hS
  have F1 : Fr (fun _ => False) wq (wq.alloc (.cells (f (tl i p)).toArray e)) := Fr.alloc _ _ _
  have hsz := h3.size
  have hsz1 := F1.size
  refine ⟨a, c, w3, hr, some g', hS, ?_, ?_, ?_⟩
  · rcases hN with ⟨e1, hF⟩ | ⟨e1, hF⟩
    · rcases h4 with h4 | ⟨g, h4, hg⟩
      · have hb2 : β = some g' := by rw [← h4]; exact e1
        subst hb2
        exact h2.again (Nat.le_trans hsz1 hF.size) (hS.hc hz).pre
      · have : g = g' := Option.some.inj (h4.symm.trans e1)
        subst this
        exact (h2.fr F1 (fun _ _ h => h)).fr hF (fun q hq e2 => by have := hb q hq; omega)
    · exact (h2.fr F1 (fun _ _ h => h)).fr hF (fun _ _ h => h)
  · rcases hN with ⟨e1, hF⟩ | ⟨e1, hF⟩
    · rcases h4 with h4 | ⟨g, h4, hg⟩
      · exact (h3.next F1 (fun _ _ h => h.elim)).trans (hF.mono (fun q _ hq => by rw [hq, ← h4]; exact e1))
      · have : g = g' := Option.some.inj (h4.symm.trans e1)
        subst this
        exact (h3.next F1 (fun _ _ h => h.elim)).next hF (fun q hq e2 => by omega)
    · exact (h3.next F1 (fun _ _ h => h.elim)).next hF (fun q hq e2 => e2.elim)
  · rcases hN with ⟨e1, hF⟩ | ⟨e1, hF⟩
    · rcases h4 with h4 | ⟨g, h4, hg⟩
      · exact .inl (by rw [← h4]; exact e1.symm)
      · exact .inr ⟨g, by rw [← h4]; exact e1.symm, hg⟩
    · exact .inr ⟨g', rfl, by omega⟩

/-- While the lists are lengthened. -/
structure GwR (f : α → List Value) (k : Nat) (e ss : TypeId) (mk tl : Nat → Nat → α) (w wr : World) (gL K : Nat) (B : Nat → Option Nat) (V : Nat → SV) (H : Nat → Nat) (vs : List SV) (β : Option Nat) (gv : Value) (i : Nat) : Prop where
  old : ∀ j, j < K → HL f k wr (B j) (V j) (mkL mk (V j).n j)
  left : ∀ j, i ≤ j → j < K → SF f k wr e (B j) (V j).val (mkL mk (V j).n j)
  lc : LCs wr ss gL K V
  fr : Fr (fun g => ∃ j, j < K ∧ B j = some g) w wr
  row : SF sv 1 wr ss β gv vs
  len : vs.length = i
  at_ : ∀ j (h : j < vs.length), vs[j].a = some ⟨H j, 0, none⟩ ∧ vs[j].n = (V j).n + 64 ∧ (V j).n + 64 ≤ vs[j].c ∧ vs[j].c ≤ 9223372036854775807 ∧ H j < wr.heap.size ∧ HC f k wr (H j) (mkL mk (V j).n j ++ mkL tl 64 j) ∧ β ≠ some (H j) ∧ (B j = some (H j) ∨ w.heap.size ≤ H j)
  own : ∀ g, β = some g → w.heap.size ≤ g
def GrR (f : α → List Value) (k : Nat) (e ss : TypeId) (mk tl : Nat → Nat → α) (w wr : World) (gL K : Nat) (B : Nat → Option Nat) (V : Nat → SV) (gv : Value) (i : Nat) : Prop :=
  ∃ H vs β, GwR f k e ss mk tl w wr gL K B V H vs β gv i
end
end Go.Proofs.Ytlmgogonghafeab

/-! Hb -/
namespace Go.Proofs.Ytlmgogonghafeab
open Go.RowKit Go.Lib
set_option linter.unusedVariables false

section
variable {α : Type} {f : α → List Value} {k : Nat} {e ss : TypeId} {mk tl : Nat → Nat → α}

theorem GrR.begin {w wr : World} {gL K i : Nat} {B : Nat → Option Nat} {V : Nat → SV} {T : Nat → List α} (h : MkR f k e ss mk w wr gL K B V T i) (hz : Sz f k) (hi : K ≤ i) (hT : ∀ j, j < K → (T j).length = (V j).n) : GrR f k e ss mk tl w wr gL K B V (.slice none 0 0) 0 := by
  have hS : ∀ j, j < K → SF f k wr e (B j) (V j).val (mkL mk (V j).n j) := fun j hj => by
    have := h.1 j hj
    rw [if_pos (by omega), hT j hj] at this
    exact this
  exact ⟨fun _ => 0, [], none, fun j hj => (hS j hj).hl hz, fun j _ hj => hS j hj, h.2.1, h.2.2, ⟨rfl, rfl⟩, rfl, fun j hj => by simp at hj, fun g hg => by cases hg⟩

theorem GrR.inside {w wr : World} {gL K i : Nat} {B : Nat → Option Nat} {V : Nat → SV} {gv : Value} (h : GrR f k e ss mk tl w wr gL K B V gv i) (hi : i < K) : InR f k e mk tl wr wr (B i) (V i) (V i).n i (V i).val 0 := by
  obtain ⟨H, vs, β, h⟩ := h
  refine ⟨B i, ?_, h.old i hi, Fr.refl _ _, .inl rfl⟩
  have := h.left i (Nat.le_refl _) hi
  simpa [mkL] using this

theorem GrR.step {sss : TypeId} {w wr wq : World} {gL K i : Nat} {B : Nat → Option Nat} {V : Nat → SV} {gv x : Value} (h : GrR f k e ss mk tl w wr gL K B V gv i) (hz : Sz f k) (hL : Lists w ss gL K B V) (hPs : PushesF sv 1 ss sss) (hi : i < K) (hK : K ≤ 1000)
    (hq : InR f k e mk tl wr wq (B i) (V i) (V i).n i x 64) :
    ∃ (a b : Option Addr) (c d : Nat) (w3 : World), x = .slice a ((V i).n + 64) c ∧ (∀ ty, (Builtin.append_ #[sss, sss] ty #[gv, .slice (some ⟨wq.heap.size, 0, none⟩) 1 1]).run Try.prog (wq.alloc (.cells #[.slice a ((V i).n + 64) c] ss)) = .ok (.slice b (i + 1) d) w3) ∧ GrR f k e ss mk tl w w3 gL K B V (.slice b (i + 1) d) (i + 1) := by
  obtain ⟨H, vs, β, h⟩ := h
  obtain ⟨β', q1, q2, q3, q4⟩ := hq
  have hl : (mkL mk (V i).n i ++ mkL tl 64 i).length = (V i).n + 64 := by rw [List.length_append, mkL_len, mkL_len]
  obtain ⟨a, c, hv, hc1, hc2⟩ := q1.form
  rw [hl] at hv hc1
  subst hv
  have hwr : w.heap.size ≤ wr.heap.size := h.fr.size
  have hwq : wr.heap.size ≤ wq.heap.size := q3.size
  have hBi : ∀ g, B i = some g → g < w.heap.size := fun g hg => hL.lt i g hi hg
  -- the new row
  obtain ⟨g, rfl⟩ : ∃ g, β' = some g := by
    cases β' with
    | none =>
      obtain ⟨-, hn⟩ := q1
      rw [hn] at hl
      simp at hl
    | some g => exact ⟨g, rfl⟩
  have ha : a = some ⟨g, 0, none⟩ := by
    obtain ⟨cap, hv2, -⟩ := q1
    exact (Value.slice.inj hv2).1
  subst ha
  have hglt := q1.lt g rfl
  have hgC := q1.hc hz
  have hgo : B i = some g ∨ wr.heap.size ≤ g := by
    rcases q4 with q4 | ⟨g2, q4, hg2⟩
    · exact .inl q4.symm
    · cases q4
      exact .inr hg2
  have hβg : β ≠ some g := fun hb => by
    have h1 := h.own g hb
    rcases hgo with h2 | h2
    · have := hBi g h2
      omega
    · have := h.row.lt g hb
      omega
  have row1 : SF sv 1 wq ss β gv vs := h.row.fr q3 (fun g2 hg2 hg3 => by have := h.own g2 hg2; have := hBi g2 hg3; omega)
  obtain ⟨v', w3, hr, g3, hS3, hN⟩ := hPs wq β gv vs ⟨some ⟨g, 0, none⟩, (V i).n + 64, c⟩ row1 (by have := h.len; omega)
  obtain ⟨b, d, rfl, -, -⟩ := hS3.form
  have hvl : (vs ++ [(⟨some ⟨g, 0, none⟩, (V i).n + 64, c⟩ : SV)]).length = i + 1 := by simp [h.len]
  rw [hvl] at hr hS3
  have F1 : Fr (fun _ => False) wq (wq.alloc (.cells (sv ⟨some ⟨g, 0, none⟩, (V i).n + 64, c⟩).toArray ss)) := Fr.alloc _ _ _
  -- what the push of the slice leaves
  have F3 : Fr (fun q => β = some q) wq w3 := by
    rcases hN with ⟨e1, hF⟩ | ⟨e1, hF⟩
    · exact (F1.mono (fun _ _ h => h.elim)).trans (hF.mono (fun q _ hq => by rw [hq]; exact e1))
    · exact (F1.mono (fun _ _ h => h.elim)).trans (hF.mono (fun _ _ h => h.elim))
  have hg3 : some g3 = β ∨ wq.heap.size ≤ g3 := by
    rcases hN with ⟨e1, -⟩ | ⟨e1, -⟩
    · exact .inl e1.symm
    · exact .inr (by have := F1.size; omega)
  have hβB : ∀ j q, j < K → B j = some q → ¬ β = some q := fun j q hj hq hb => by
    have := hL.lt j q hj hq
    have := h.own q hb
    omega
  refine ⟨some ⟨g, 0, none⟩, b, c, d, w3, rfl, hr, fun j => if j = i then g else H j, _, some g3, ?_, ?_, ?_, ?_, ?_, hvl, ?_, ?_⟩
  · intro j hj
    by_cases e1 : j = i
    · subst e1
      exact q2.fr F3 (fun q hq => hβB j q hj hq)
    · exact ((h.old j hj).fr q3 (fun q hq hq2 => e1 (hL.inj j i q hj hi hq hq2))).fr F3 (fun q hq => hβB j q hj hq)
  · intro j hij hj
    exact ((h.left j (by omega) hj).fr q3 (fun q hq hq2 => by have := hL.inj j i q hj hi hq hq2; omega)).fr F3 (fun q hq => hβB j q hj hq)
  · exact (h.lc.fr q3 (fun hq => hL.ng i hi hq)).fr F3 (fun hb => by have := h.own _ hb; have := hL.gl; omega)
  · exact (h.fr.trans (q3.mono (fun q _ hq => ⟨i, hi, hq⟩))).next F3 (fun q hq hb => by have := h.own q hb; omega)
  · rw [← hvl] at hS3
    rw [← hvl]
    exact hS3
  · intro j hj
    rw [hvl] at hj
    by_cases e1 : j = i
    · subst e1
      have e2 : (vs ++ [(⟨some ⟨g, 0, none⟩, (V j).n + 64, c⟩ : SV)])[j]'(by rw [hvl]; exact hj) = ⟨some ⟨g, 0, none⟩, (V j).n + 64, c⟩ := by
        rw [List.getElem_append_right (by rw [h.len]; exact Nat.le_refl _)]
        simp
      rw [e2]
      simp only [if_true]
      refine ⟨by first | rfl | trivial, by first | rfl | trivial, hc1, hc2, Nat.lt_of_lt_of_le hglt F3.size, hgC.fr F3 hglt hβg, ?_, ?_⟩
      · intro h3
        have h3 := Option.some.inj h3
        subst h3
        rcases hg3 with h4 | h4
        · exact hβg h4.symm
        · omega
      · rcases hgo with h4 | h4
        · exact .inl h4
        · exact .inr (by omega)
    · have hji : j < i := by omega
      obtain ⟨m1, m2, m3, m4, m5, m6, m7, m8⟩ := h.at_ j (by rw [h.len]; exact hji)
      have e2 : (vs ++ [(⟨some ⟨g, 0, none⟩, (V i).n + 64, c⟩ : SV)])[j]'(by rw [hvl]; exact hj) = vs[j]'(by rw [h.len]; exact hji) := List.getElem_append_left _
      rw [e2]
      simp only [if_neg e1]
      have hHi : ¬ B i = some (H j) := fun hb => by
        rcases m8 with m8 | m8
        · exact e1 (hL.inj j i (H j) (by omega) hi m8 hb)
        · have := hBi _ hb
          omega
      have hlt2 : H j < wq.heap.size := by omega
      refine ⟨m1, m2, m3, m4, Nat.lt_of_lt_of_le hlt2 F3.size, (m6.fr q3 m5 hHi).fr F3 hlt2 m7, ?_, m8⟩
      intro h3
      have h3 := Option.some.inj h3
      rcases hg3 with h4 | h4
      · exact m7 (by rw [← h3]; exact h4.symm)
      · omega
  · intro q hq
    cases hq
    rcases hg3 with h4 | h4
    · exact h.own _ h4.symm
    · omega

/-- At the end: all is as it was marked. -/
structure GwE (f : α → List Value) (k : Nat) (ss : TypeId) (mk tl : Nat → Nat → α) (wr : World) (gL K : Nat) (B : Nat → Option Nat) (V : Nat → SV) (gv : Value) : Prop where
  old : ∀ j, j < K → HL f k wr (B j) (V j) (mkL mk (V j).n j)
  lc : LCs wr ss gL K V
  new : ∃ a c, gv = .slice a K c ∧ K ≤ c ∧ c ≤ 9223372036854775807 ∧ ∀ j, j < K → ∃ g h d, a = some ⟨g, 0, none⟩ ∧ wr.cell? ⟨g, j, none⟩ = some (.slice (some ⟨h, 0, none⟩) ((V j).n + 64) d) ∧ (V j).n + 64 ≤ d ∧ d ≤ 9223372036854775807 ∧ HC f k wr h (mkL mk (V j).n j ++ mkL tl 64 j)
theorem GrR.done {w wr : World} {gL K i : Nat} {B : Nat → Option Nat} {V : Nat → SV} {gv : Value} (h : GrR f k e ss mk tl w wr gL K B V gv i) (hi : i = K) : GwE f k ss mk tl wr gL K B V gv := by
  subst hi
  obtain ⟨H, vs, β, h⟩ := h
  refine ⟨h.old, h.lc, ?_⟩
  obtain ⟨a, c, hv, hc1, hc2⟩ := h.row.form
  rw [h.len] at hv hc1
  refine ⟨a, c, hv, hc1, hc2, fun j hj => ?_⟩
  have hj2 : j < vs.length := by rw [h.len]; exact hj
  obtain ⟨m1, m2, m3, m4, m5, m6, m7, m8⟩ := h.at_ j hj2
  cases β with
  | none =>
    obtain ⟨-, hn⟩ := h.row
    rw [hn] at hj2
    simp at hj2
  | some g =>
    have hC := h.row.hc sz_sv j hj2 0 (by omega)
    obtain ⟨cap, hv2, -⟩ := h.row
    rw [hv] at hv2
    have ha := (Value.slice.inj hv2).1
    refine ⟨g, H j, vs[j].c, ha, ?_, m3, m4, m6⟩
    rw [Nat.mul_one, Nat.add_zero] at hC
    rw [hC]
    show some (Value.slice vs[j].a vs[j].n vs[j].c) = _
    rw [m1, m2]
end

/-- append of a slice onto a list of slices. -/
theorem pushes_sv {ss sss : TypeId} (hu : Try.prog.underlying sss = some (.slice ss)) (hI : (Try.prog.info? ss).map (fun i => (i.zero, i.size, i.bytes)) = some (some (.slice none 0 0), 1, 24)) : PushesF sv 1 ss sss := by
  intro w β v xs x hS hroom
  obtain ⟨i0, hi0, hz0, hz1, hz2⟩ := info_parts hI
  have hz := heap_alloc_new w (.cells (sv x).toArray ss)
  obtain ⟨v', w', hr, hN⟩ := run_pushF sz_sv (P := Try.prog) (w.alloc (.cells (sv x).toArray ss)) sss 0 ss i0 _ 24 hu hi0 hz0 hz1 rfl hz2 β v xs (hS.fr (Fr.alloc (fun _ => False) _ _) (fun _ _ h => h)) ⟨w.heap.size, 0, none⟩ 1 1 [x] rfl (fun j u hj => by
    rw [add_lit, Nat.zero_add, cell_row hz]
    rw [cl_one] at hj
    simpa using hj) (by omega) (by omega) (by omega)
  exact ⟨v', w', fun ty => hr, hN⟩
theorem pushes_int : PushesF ei 1 3 36 := by
  intro w β v xs x hS hroom
  exact push_int (w.alloc (.cells (ei x).toArray 3)) β v xs (hS.fr (Fr.alloc (fun _ => False) _ _) (fun _ _ h => h)) w.heap.size x (heap_alloc_new _ _) (by omega)
theorem pushes_op : PushesF opc 5 32 39 := fun w β v xs x hS hroom => push_op w β v xs hS x (by omega)
end Go.Proofs.Ytlmgogonghafeab
