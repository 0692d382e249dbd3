/-
  NetFresh: grownBytes, what holds on its way.
-/
import Derived.Test.YtnglcnilckolkaaNq
import Derived.Test.YtnglcnilckolkaaNl
namespace Go.Proofs.Ytnglcnilckolkaa
open Go.RowKit
set_option linter.unusedVariables false

theorem ne_ty {w : World} {g h : Nat} {c c' : Array Value} {t t' : TypeId} {p q : Nat × Nat} (h1 : w.heap[g]? = some (.cells c t p)) (h2 : w.heap[h]? = some (.cells c' t' q)) (ht : t ≠ t') : g ≠ h := by
  rintro rfl
  rw [h1] at h2
  have := Option.some.inj h2
  injection this with e1 e2
  exact ht e2

def at0 (γ : Option Nat) : Option Addr := γ.map fun g => ⟨g, 0, none⟩

/-- nil, or a row of room c that begins with the bytes ys. -/
def TR (w : World) (γ : Option Nat) (c : Nat) (ys : List Int) : Prop :=
  match γ with
  | none => c = 0 ∧ ys = []
  | some g => RowV w g ys.length c 5 (ints ys)

theorem TR.sb {w : World} {γ : Option Nat} {c : Nat} {xs : List Int} (h : TR w γ c xs) : SB w γ (.slice (at0 γ) xs.length c) xs := by
  cases γ with
  | none => obtain ⟨rfl, rfl⟩ := h; exact ⟨rfl, rfl⟩
  | some g => exact ⟨c, by rw [ints_len]; rfl, by rw [ints_len]; exact h⟩
theorem SB.tr {w : World} {γ : Option Nat} {v : Value} {xs : List Int} (h : SB w γ v xs) : ∃ c, v = .slice (at0 γ) xs.length c ∧ TR w γ c xs := by
  cases γ with
  | none =>
    obtain ⟨rfl, hx⟩ := h
    have hx' : xs = [] := by simpa [ints] using hx
    subst hx'
    exact ⟨0, rfl, rfl, rfl⟩
  | some g =>
    obtain ⟨cap, rfl, hR⟩ := h
    rw [ints_len] at hR ⊢
    exact ⟨cap, rfl, hR⟩
theorem TR.fr {S : Nat → Prop} {w w' : World} {γ : Option Nat} {c : Nat} {ys : List Int} (h : TR w γ c ys) (hF : Fr S w w') (hS : ∀ g, γ = some g → ¬ S g) : TR w' γ c ys := by
  cases γ with
  | none => exact h
  | some g => exact RowV.fr h hF (hS g rfl)
theorem TR.ty {w : World} {γ : Option Nat} {c : Nat} {ys : List Int} (h : TR w γ c ys) : ∀ g, γ = some g → ∃ cur, w.heap[g]? = some (.cells cur 5 (0, 0)) := by
  rintro g rfl
  obtain ⟨cur, hh, _⟩ := h
  exact ⟨cur, hh⟩
theorem TR.lt {w : World} {γ : Option Nat} {c : Nat} {ys : List Int} (h : TR w γ c ys) : ∀ g, γ = some g → g < w.heap.size := by
  rintro g rfl
  exact RowV.lt h
theorem TR.cap {w : World} {γ : Option Nat} {c : Nat} {ys : List Int} (h : TR w γ c ys) : ys.length ≤ c ∧ c ≤ 9223372036854775807 := by
  cases γ with
  | none => obtain ⟨rfl, rfl⟩ := h; exact ⟨Nat.le_refl _, by omega⟩
  | some g => obtain ⟨cur, -, -, -, h1, h2, -⟩ := h; exact ⟨h1, h2⟩
theorem TR.cell {w : World} {γ : Option Nat} {c : Nat} {ys : List Int} (h : TR w γ c ys) (k : Nat) (hk : k < ys.length) : ∃ g, γ = some g ∧ w.cell? ⟨g, k, none⟩ = some (.int .u8 (ys.getD k 0)) ∧ w.frozen? ⟨g, k, none⟩ = false := by
  cases γ with
  | none => obtain ⟨rfl, rfl⟩ := h; simp at hk
  | some g =>
    refine ⟨g, rfl, ?_, ?_⟩
    · rw [RowV.cell h k hk, ints_get _ _ hk]
    · obtain ⟨cur, hh, _⟩ := h
      exact frozen_row hh k
theorem TR.set {w : World} {g : Nat} {c : Nat} {ys : List Int} (h : TR w (some g) c ys) (k : Nat) (hk : k < ys.length) (y : Int) : TR (w.setCell ⟨g, k, none⟩ (.int .u8 y)) (some g) c (ys.set k y) := by
  obtain ⟨c', e, h'⟩ := (h.sb.set hk y).tr
  obtain ⟨-, -, rfl⟩ := Value.slice.inj e
  exact h'

theorem info_parts {t : TypeId} {z : Value} {s b : Nat} (h : (Try.prog.info? t).map (fun i => (i.zero, i.size, i.bytes)) = some (some z, s, b)) : ∃ i, Try.prog.info? t = some i ∧ i.zero = some z ∧ i.size = s ∧ i.bytes = b := by
  cases hi : Try.prog.info? t with
  | none => rw [hi] at h; simp at h
  | some i =>
    rw [hi] at h
    simp at h
    exact ⟨i, rfl, h.1, h.2.1, h.2.2⟩

/-- append of one byte: the same row, or a new one and all as it was. -/
theorem run_push1 (w : World) (β : Option Nat) (c n : Nat) (xs : List Int) (hT : TR w β c xs) (hl : xs.length = n) (x : Int) (hn : n ≤ 4096) :
    ∃ g' c' w3, (∀ ty, (Builtin.append_ #[28, 28] ty #[.slice (at0 β) n c, .slice (some ⟨w.heap.size, 0, none⟩) 1 1]).run Try.prog (w.alloc (.cells #[.int .u8 x] 5)) = .ok (.slice (some ⟨g', 0, none⟩) (n + 1) c') w3) ∧
      TR w3 (some g') c' (xs ++ [x]) ∧ ((β = some g' ∧ Fr (· = g') w w3) ∨ (w.heap.size ≤ g' ∧ Fr (fun _ => False) w w3)) := by
  subst hl
  obtain ⟨i0, hi0, hz0, hz1, hz2⟩ := info_parts Try.info5
  have B1 : Below w.heap.size w (w.alloc (.cells #[.int .u8 x] 5)) := (Below.refl _ _).alloc (Nat.le_refl _) _
  have F1 : Fr (fun _ => False) w (w.alloc (.cells #[.int .u8 x] 5)) := Fr.of_below B1
  have hS := (hT.fr F1 (fun _ _ h => h)).sb
  have hnews : ∀ j u, [Value.int .u8 x][j]? = some u → (w.alloc (.cells #[.int .u8 x] 5)).cell? ((⟨w.heap.size, 0, none⟩ : Addr).add j) = some u := by
    intro j u hj
    rw [add_lit, Nat.zero_add, cell_row (heap_alloc_new _ _)]
    simpa using hj
  obtain ⟨g', c', w3, hr, hP, hF⟩ := run_push (P := Try.prog) (w.alloc (.cells #[.int .u8 x] 5)) 28 0 5 i0 (.int .u8 0) 1 Try.underlying28 hi0 hz0 hz1 rfl hz2 β _ (ints xs) hS ⟨w.heap.size, 0, none⟩ 1 1 [.int .u8 x] rfl hnews (one_of x) (by omega) (by rw [ints_len]; omega) (by rw [ints_len]; omega)
  rw [ints_len] at hr hP
  have e1 : ints xs ++ [.int .u8 x] = ints (xs ++ [x]) := by simp [ints]
  refine ⟨g', c', w3, fun ty => ?_, ?_, ?_⟩
  · have : ∀ ty v, Builtin.append_ #[28, 28] ty #[v, .slice (some ⟨w.heap.size, 0, none⟩) 1 1] = Builtin.append_ #[28, 28] 0 #[v, .slice (some ⟨w.heap.size, 0, none⟩) 1 1] := fun _ _ => rfl
    rw [this ty]
    exact hr
  · rw [e1] at hP
    unfold TR
    simpa using hP
  · rcases hF with ⟨hF1, hF2⟩ | ⟨hF1, hF2⟩
    · exact .inl ⟨hF1, (F1.mono (fun _ _ h => h.elim)).trans hF2⟩
    · exact .inr ⟨by rw [hF1]; simp, F1.trans hF2⟩

/-- Lists of bytes by number, each nil or in a block of its own. -/
def TB (w : World) (K : Nat) (Γ : Nat → Option Nat) (C : Nat → Nat) (X : Nat → List Int) : Prop := (∀ i j g, i < K → j < K → Γ i = some g → Γ j = some g → i = j) ∧ ∀ i, i < K → TR w (Γ i) (C i) (X i)

theorem TB.upd {w w' : World} {K : Nat} {Γ : Nat → Option Nat} {C D : Nat → Nat} {X Y : Nat → List Int} (h : TB w K Γ C X) (i : Nat) (hi : i < K) (hF : Fr (fun k => Γ i = some k) w w') (hR : TR w' (Γ i) (D i) (Y i)) (hY : ∀ j, j ≠ i → Y j = X j) (hD : ∀ j, j ≠ i → D j = C j) : TB w' K Γ D Y := by
  refine ⟨h.1, fun j hj => ?_⟩
  by_cases e : j = i
  · subst e; exact hR
  · rw [hY j e, hD j e]
    exact (h.2 j hj).fr hF (fun g eg eg' => e (h.1 j i g hj hi eg eg'))
theorem TB.fr {S : Nat → Prop} {w w' : World} {K : Nat} {Γ : Nat → Option Nat} {C : Nat → Nat} {X : Nat → List Int} (h : TB w K Γ C X) (hF : Fr S w w') (hS : ∀ i, i < K → ∀ g, Γ i = some g → ¬ S g) : TB w' K Γ C X := ⟨h.1, fun j hj => (h.2 j hj).fr hF (hS j hj)⟩

def mkT (n i : Nat) : List Int := List.replicate n (1 + (i : Int))
def tlT (i k : Nat) : List Int := List.replicate k (101 + (i : Int))
theorem mkT_len (n i : Nat) : (mkT n i).length = n := by simp [mkT]
theorem tlT_len (i k : Nat) : (tlT i k).length = k := by simp [tlT]
theorem tlT_snoc (i k : Nat) : tlT i k ++ [101 + (i : Int)] = tlT i (k + 1) := by simp [tlT, List.replicate_succ']

theorem mark_step (T : List Int) (k : Nat) (y : Int) (hk : k < T.length) : (List.replicate k y ++ T.drop k).set k y = List.replicate (k + 1) y ++ T.drop (k + 1) := by
  rw [List.set_append_right _ _ (by simp), List.length_replicate, Nat.sub_self, List.drop_eq_getElem_cons hk, List.set_cons_zero, List.replicate_succ']
  simp

/-- The list of the lists: its cells. -/
def LC (w : World) (gL K : Nat) (V : Nat → Value) : Prop := ∃ cur : Array Value, w.heap[gL]? = some (.cells cur 28 (0, 0)) ∧ ∀ i, i < K → cur[i]? = some (V i)
theorem LC.cell {w : World} {gL K : Nat} {V : Nat → Value} (h : LC w gL K V) (i : Nat) (hi : i < K) : w.cell? ⟨gL, i, none⟩ = some (V i) := by
  obtain ⟨cur, h1, h2⟩ := h
  rw [cell_row h1]
  exact h2 i hi
theorem LC.fr {S : Nat → Prop} {w w' : World} {gL K : Nat} {V : Nat → Value} (h : LC w gL K V) (hF : Fr S w w') (hS : ¬ S gL) : LC w' gL K V := by
  obtain ⟨cur, h1, h2⟩ := h
  exact ⟨cur, hF.keeps h1 hS, h2⟩
theorem LC.row {w : World} {gL K : Nat} {V : Nat → Value} (h : LC w gL K V) {γ : Option Nat} {c : Nat} {ys : List Int} (hT : TR w γ c ys) : γ ≠ some gL := by
  intro e
  obtain ⟨cur, h1, h2⟩ := h
  obtain ⟨cur', h3⟩ := hT.ty gL e
  exact ne_ty h1 h3 (by decide) rfl

def BFr (w w' : World) (K : Nat) (Γ : Nat → Option Nat) : Prop := Fr (fun k => ∃ j, j < K ∧ Γ j = some k) w w'

def VV (Γ : Nat → Option Nat) (N C : Nat → Nat) (j : Nat) : Value := .slice (at0 (Γ j)) (N j) (C j)

/-- What holds while the lists are marked. -/
def MRel (w wr : World) (gL K : Nat) (Γ : Nat → Option Nat) (N C : Nat → Nat) (T : Nat → List Int) (i : Nat) : Prop :=
  TB wr K Γ C (fun j => if j < i then mkT (N j) j else T j) ∧ LC wr gL K (VV Γ N C) ∧ BFr w wr K Γ

theorem SRow.ty {w : World} {e : TypeId} {β : Option Nat} {v : Value} {vs : List Value} (h : SRow w e β v vs) : ∀ g, β = some g → ∃ cur, w.heap[g]? = some (.cells cur e (0, 0)) := by
  rintro g rfl
  obtain ⟨cap, -, cur, hh, -⟩ := h
  exact ⟨cur, hh⟩

theorem Try.infoL : (Try.prog.info? 28).map (fun i => (i.zero, i.size, i.bytes)) = some (some (.slice none 0 0), 1, 24) := by kernel_rfl

/-- append of one list onto a list of lists. -/
theorem lists_push {wr : World} {β : Option Nat} {v : Value} {vs : List Value} (h : SRow wr 28 β v vs) (hn : vs.length ≤ 10000) (a : Option Addr) (n c : Nat) :
    ∃ v' w3 β', (∀ ty, (Builtin.append_ #[22, 22] ty #[v, .slice (some ⟨wr.heap.size, 0, none⟩) 1 1]).run Try.prog (wr.alloc (.cells #[.slice a n c] 28)) = .ok v' w3) ∧
      SRow w3 28 β' v' (vs ++ [.slice a n c]) ∧ (β' = β ∨ ∃ g, β' = some g ∧ wr.heap.size ≤ g) ∧ Fr (fun k => β = some k) wr w3 := by
  obtain ⟨i0, hi0, hz0, hz1, hz2⟩ := info_parts Try.infoL
  have B1 : Below wr.heap.size wr (wr.alloc (.cells #[.slice a n c] 28)) := (Below.refl _ _).alloc (Nat.le_refl _) _
  have hnews : ∀ j u, [Value.slice a n c][j]? = some u → (wr.alloc (.cells #[.slice a n c] 28)).cell? ((⟨wr.heap.size, 0, none⟩ : Addr).add j) = some u := by
    intro j u hj
    rw [add_lit, Nat.zero_add, cell_row (heap_alloc_new _ _)]
    simpa using hj
  obtain ⟨g', cap', w3, hr, hP, hF⟩ := run_push (P := Try.prog) (wr.alloc (.cells #[.slice a n c] 28)) 22 0 28 i0 (.slice none 0 0) 24 Try.underlying22 hi0 hz0 hz1 rfl hz2 β v vs (h.fr (S := fun _ => False) (Fr.of_below B1) (fun _ _ h => h)) ⟨wr.heap.size, 0, none⟩ 1 1 [.slice a n c] rfl hnews (by intro u hu; simp at hu; subst hu; rfl) (by omega) (by omega) (by omega)
  have hl : (vs ++ [Value.slice a n c]).length = vs.length + 1 := by simp
  refine ⟨_, w3, some g', fun ty => ?_, ⟨cap', by rw [hl], by rw [hl]; exact hP⟩, ?_, ?_⟩
  · have : ∀ ty, Builtin.append_ #[22, 22] ty #[v, .slice (some ⟨wr.heap.size, 0, none⟩) 1 1] = Builtin.append_ #[22, 22] 0 #[v, .slice (some ⟨wr.heap.size, 0, none⟩) 1 1] := fun _ => rfl
    rw [this ty]
    exact hr
  · rcases hF with ⟨hF, _⟩ | ⟨hF, _⟩
    · exact .inl hF.symm
    · exact .inr ⟨g', rfl, by rw [hF]; simp⟩
  · rcases hF with ⟨hF1, hF2⟩ | ⟨hF1, hF2⟩
    · exact (Fr.of_below B1).trans (hF2.mono (fun k _ e => by rw [e]; exact hF1))
    · exact (Fr.of_below B1).trans (hF2.mono (fun k _ e => e.elim))

/-- What holds while one list is lengthened. -/
def IRel (wo wq : World) (γ : Option Nat) (n i : Nat) (x : Value) (k : Nat) : Prop :=
  ∃ (P : List Int) (c' : Nat) (β : Option Nat) (c : Nat), x = .slice (at0 β) (n + k) c ∧ TR wq β c (mkT n i ++ tlT i k) ∧ TR wq γ c' (mkT n i ++ P) ∧ Fr (fun q => γ = some q) wo wq ∧ (β = γ ∨ ∃ g, β = some g ∧ wo.heap.size ≤ g)

theorem IRel.push {wo wq : World} {γ : Option Nat} {n i k : Nat} {x : Value} (h : IRel wo wq γ n i x k) (hb : ∀ g, γ = some g → g < wo.heap.size) (hn : n + k ≤ 4000) :
    ∃ x' w3, (∀ ty, (Builtin.append_ #[28, 28] ty #[x, .slice (some ⟨wq.heap.size, 0, none⟩) 1 1]).run Try.prog (wq.alloc (.cells #[.int .u8 (101 + (i : Int))] 5)) = .ok x' w3) ∧ IRel wo w3 γ n i x' (k + 1) := by
  obtain ⟨P, c', β, c, rfl, h1, h2, h3, h4⟩ := h
  have hl : (mkT n i ++ tlT i k).length = n + k := by rw [List.length_append, mkT_len, tlT_len]
  obtain ⟨g', cc, w3, hr, hR, hF⟩ := run_push1 _ β c (n + k) _ h1 hl (101 + (i : Int)) (by omega)
  rw [List.append_assoc, tlT_snoc] at hR
  refine ⟨_, w3, hr, ?_⟩
  rcases hF with ⟨rfl, hF⟩ | ⟨hg, hF⟩
  · rcases h4 with rfl | ⟨g2, e2, h4⟩
    · exact ⟨tlT i (k + 1), cc, _, cc, rfl, hR, hR, h3.trans (hF.mono (fun q _ e => by rw [e])), .inl rfl⟩
    · obtain rfl := Option.some.inj e2
      exact ⟨P, c', _, cc, rfl, hR, h2.fr hF (fun g eg e => by have := hb g eg; omega), h3.next hF (fun q hq e => by omega), .inr ⟨_, rfl, h4⟩⟩
  · exact ⟨P, c', some g', cc, rfl, hR, h2.fr hF (fun _ _ h => h), h3.next hF (fun q hq e => e.elim), .inr ⟨g', rfl, Nat.le_trans h3.size hg⟩⟩

/-- What holds while the lists are lengthened. -/
def GRel (w wr : World) (gL K : Nat) (Γ : Nat → Option Nat) (N C : Nat → Nat) (gv : Value) (i : Nat) : Prop :=
  ∃ (P : Nat → List Int) (C' : Nat → Nat) (H : Nat → Option Nat) (D : Nat → Nat) (vs : List Value) (β : Option Nat), TB wr K Γ C' (fun j => mkT (N j) j ++ P j) ∧ LC wr gL K (VV Γ N C) ∧ BFr w wr K Γ ∧ SRow wr 28 β gv vs ∧ vs.length = i ∧
    (∀ j, j < i → vs[j]? = some (.slice (at0 (H j)) (N j + 70) (D j)) ∧ TR wr (H j) (D j) (mkT (N j) j ++ tlT j 70) ∧ (H j = Γ j ∨ ∃ g, H j = some g ∧ w.heap.size ≤ g)) ∧ (∀ j, i ≤ j → P j = [] ∧ C' j = C j) ∧ (∀ g, β = some g → w.heap.size ≤ g)

theorem GRel.step {w wr wq : World} {gL K : Nat} {Γ : Nat → Option Nat} {N C : Nat → Nat} {gv : Value} {i : Nat} {x : Value} (h : GRel w wr gL K Γ N C gv i) (hi : i < K) (hq : IRel wr wq (Γ i) (N i) i x 70) (hB : ∀ j, j < K → ∀ g, Γ j = some g → g < w.heap.size) (hgL : gL < w.heap.size) (hK : K ≤ 1000) :
    ∃ (a : Option Addr) (c : Nat) (v' : Value) (w3 : World), x = .slice a (N i + 70) c ∧ (∀ ty, (Builtin.append_ #[22, 22] ty #[gv, .slice (some ⟨wq.heap.size, 0, none⟩) 1 1]).run Try.prog (wq.alloc (.cells #[.slice a (N i + 70) c] 28)) = .ok v' w3) ∧ GRel w w3 gL K Γ N C v' (i + 1) := by
  obtain ⟨P, C', H, D, vs, β, t1, t2, t3, t4, t5, t6, t7, t8⟩ := h
  obtain ⟨Q, cc, β1, c, rfl, q1, q2, q3, q4⟩ := hq
  have hsz : w.heap.size ≤ wr.heap.size := t3.size
  have hTi := t1.2 i hi
  have S1 : SRow wq 28 β gv vs := t4.fr q3 (fun g e e' => by
    obtain ⟨c1, h1⟩ := t4.ty g e
    obtain ⟨c2, h2⟩ := hTi.ty g e'
    exact ne_ty h1 h2 (by decide) rfl)
  have L1 : LC wq gL K (VV Γ N C) := t2.fr q3 (t2.row hTi)
  obtain ⟨v', w3, β', hr, S2, hβ, F2⟩ := lists_push S1 (by omega) (at0 β1) (N i + 70) c
  have U := t1.upd (D := fun j => if j = i then cc else C' j) (Y := fun j => mkT (N j) j ++ (if j = i then Q else P j)) i hi q3 (by simpa using q2) (fun j hj => by simp [hj]) (fun j hj => by simp [hj])
  have away : ∀ {γ : Option Nat} {c0 : Nat} {ys : List Int}, TR wq γ c0 ys → TR w3 γ c0 ys := fun hT => hT.fr F2 (fun g e e' => by
    obtain ⟨c1, h1⟩ := S1.ty g e'
    obtain ⟨c2, h2⟩ := hT.ty g e
    exact ne_ty h1 h2 (by decide) rfl)
  refine ⟨at0 β1, c, v', w3, rfl, hr, fun j => if j = i then Q else P j, fun j => if j = i then cc else C' j, fun j => if j = i then β1 else H j, fun j => if j = i then c else D j, _, β', ?_, ?_, ?_, S2, by simp [t5], ?_, ?_, ?_⟩
  · exact ⟨U.1, fun j hj => away (U.2 j hj)⟩
  · exact L1.fr F2 (fun e => by have := t8 _ e; omega)
  · exact (t3.trans (q3.mono (fun k _ e => ⟨i, hi, e⟩))).next F2 (fun k hk e => by have := t8 _ e; omega)
  · intro j hj
    by_cases e : j = i
    · subst e
      simp only [if_true]
      refine ⟨?_, away q1, ?_⟩
      · rw [List.getElem?_append_right (by omega), t5, Nat.sub_self]; rfl
      · rcases q4 with q4 | ⟨g, e, q4⟩
        · exact .inl q4
        · exact .inr ⟨g, e, Nat.le_trans hsz q4⟩
    · obtain ⟨m1, m2, m3⟩ := t6 j (by omega)
      simp only [if_neg e]
      refine ⟨?_, away (m2.fr q3 (fun g eg eq => ?_)), m3⟩
      · rw [List.getElem?_append_left (by omega)]; exact m1
      · rcases m3 with m3 | ⟨g2, e2, m3⟩
        · exact e (t1.1 j i g (by omega) hi (m3 ▸ eg) eq)
        · obtain rfl : g2 = g := Option.some.inj (e2.symm.trans eg)
          have := hB i hi _ eq
          omega
  · intro j hj
    have : j ≠ i := by omega
    simp only [if_neg this]
    exact t7 j (by omega)
  · intro gg hg
    rcases hβ with hβ | ⟨g2, hβ, hg2⟩
    · exact t8 gg (hβ ▸ hg)
    · obtain rfl : g2 = gg := Option.some.inj (hβ.symm.trans hg)
      have := q3.size
      omega

end Go.Proofs.Ytnglcnilckolkaa
