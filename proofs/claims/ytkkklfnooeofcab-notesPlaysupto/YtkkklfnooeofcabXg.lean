/-
  over: told notes that were handed out are written over, their answers too.
-/
import Derived.Test.YtkkklfnooeofcabXd
import Derived.Test.YtkkklfnooeofcabXf
import Derived.Test.YtkkklfnooeofcabMJo
namespace Go.Proofs.Ytkkklfnooeofcab
open Go.RowKit
set_option linter.unusedVariables false

/-- A row of told notes, the first k written over. -/
def NRow (w : World) (g N k : Nat) (L : List TN) : Prop := ∃ cs : Array Value, w.heap[g]? = some (.cells cs 47 (0, 0)) ∧ N * 8 ≤ cs.size ∧ (∀ i (hi : i < L.length), k ≤ i → cs[i * 8 + 7]? = some (.slice L[i].a L[i].l L[i].c)) ∧ (∀ i, i < k → cs[i * 8]? = some (.int .i64 (-1)))
theorem NRow.start {w : World} {g N cap : Nat} {L : List TN} (h : RowF tnc 8 w g N cap 47 L) : NRow w g N 0 L := by
  obtain ⟨cur, hh, ht, hl, h1, h2, h3⟩ := h
  refine ⟨cur.toArray, hh, by simp; omega, fun i hi _ => ?_, fun i hi => by omega⟩
  have hg := cl_get sz_tnc L i 7 hi (by omega)
  rw [← ht, List.getElem?_take, if_pos (by omega)] at hg
  rw [List.getElem?_toArray, hg]
  rfl
theorem NRow.fr {w w' : World} {g N k : Nat} {L : List TN} {T : Nat → Prop} (h : NRow w g N k L) (hF : Fr T w w') (hT : ¬ T g) : NRow w' g N k L := by
  obtain ⟨cs, h1, h2⟩ := h
  exact ⟨cs, hF.keeps h1 hT, h2⟩
theorem NRow.set {w : World} {g N k : Nat} {L : List TN} (h : NRow w g N k L) (hk : k < N) (u1 u2 u3 u4 u5 u6 u7 : Value) :
    NRow ((((((((w.setCell ⟨g, k * 8, none⟩ (.int .i64 (-1))).setCell ⟨g, k * 8 + 1, none⟩ u1).setCell ⟨g, k * 8 + 2, none⟩ u2).setCell ⟨g, k * 8 + 3, none⟩ u3).setCell ⟨g, k * 8 + 4, none⟩ u4).setCell ⟨g, k * 8 + 5, none⟩ u5).setCell ⟨g, k * 8 + 6, none⟩ u6).setCell ⟨g, k * 8 + 7, none⟩ u7) g N (k + 1) L := by
  obtain ⟨cs, h1, h2, h3, h4⟩ := h
  refine ⟨_, set_row (set_row (set_row (set_row (set_row (set_row (set_row (set_row h1 _ _) _ _) _ _) _ _) _ _) _ _) _ _) _ _, by simpa using h2, fun i hi hki => ?_, fun i hi => ?_⟩
  · simp only [Array.getElem?_setIfInBounds]
    rw [if_neg (by omega), if_neg (by omega), if_neg (by omega), if_neg (by omega), if_neg (by omega), if_neg (by omega), if_neg (by omega), if_neg (by omega)]
    exact h3 i hi (by omega)
  · simp only [Array.getElem?_setIfInBounds]
    rw [if_neg (by omega), if_neg (by omega), if_neg (by omega), if_neg (by omega), if_neg (by omega), if_neg (by omega), if_neg (by omega)]
    by_cases hik : i = k
    · subst hik
      rw [if_pos rfl, if_pos (by omega)]
    · rw [if_neg (by omega)]
      exact h4 i (by omega)
theorem fr_set8i (w : World) (g i : Nat) (u0 u1 u2 u3 u4 u5 u6 u7 : Value) :
    Fr (· = g) w ((((((((w.setCell ⟨g, i, none⟩ u0).setCell ⟨g, i + 1, none⟩ u1).setCell ⟨g, i + 2, none⟩ u2).setCell ⟨g, i + 3, none⟩ u3).setCell ⟨g, i + 4, none⟩ u4).setCell ⟨g, i + 5, none⟩ u5).setCell ⟨g, i + 6, none⟩ u6).setCell ⟨g, i + 7, none⟩ u7) := by
  have o : ∀ (v : World) (j : Nat) (x : Value), Fr (· = g) v (v.setCell ⟨g, j, none⟩ x) := fun v j x => Fr.setCell v _ x rfl
  exact (((((((o _ _ _).trans (o _ _ _)).trans (o _ _ _)).trans (o _ _ _)).trans (o _ _ _)).trans (o _ _ _)).trans (o _ _ _)).trans (o _ _ _)
theorem NRow.cell {w : World} {g N k : Nat} {L : List TN} (h : NRow w g N k L) (i j : Nat) (hi : i < N) (hj : j < 8) : ∃ v, w.cell? ⟨g, i * 8 + j, none⟩ = some v := by
  obtain ⟨cs, h1, h2, -⟩ := h
  exact ⟨cs[i * 8 + j]'(by omega), by rw [cell_row h1, Array.getElem?_eq_getElem]⟩
theorem NRow.frozen {w : World} {g N k : Nat} {L : List TN} (h : NRow w g N k L) (i : Nat) : w.frozen? ⟨g, i, none⟩ = false := by
  obtain ⟨cs, h1, h2, -⟩ := h
  exact frozen_row h1 i

structure OvI (w wr : World) (X off : Nat) (K : Nat → Prop) (m g N : Nat) (L : List TN) (k : Nat) : Prop where
  st : ∃ K', PP rpc 2 90 45 wr X off K' (m + 2 * k) ∧ (∀ j, K' j → K j ∨ (∃ t ∈ L.take k, t.a = some ⟨j, 0, none⟩) ∨ w.heap.size ≤ j)
  fr : Fr (fun j => K j ∨ (∃ t ∈ L.take k, t.a = some ⟨j, 0, none⟩) ∨ j = X ∨ j = g) w wr
  xr : XR w wr X off 2
  row : NRow wr g N k L
/-- What over leaves. -/
def OvO (w w' : World) (X off : Nat) (K : Nat → Prop) (L : List TN) (a : Option Addr) (N : Nat) (β : Option Nat) (m : Nat) : Prop :=
  ∃ K', PP rpc 2 90 45 w' X off K' (m + 2 * N) ∧ (∀ j, K' j → K j ∨ (∃ t ∈ L, t.a = some ⟨j, 0, none⟩) ∨ w.heap.size ≤ j) ∧ Fr (fun j => K j ∨ (∃ t ∈ L, t.a = some ⟨j, 0, none⟩) ∨ j = X ∨ β = some j) w w' ∧ XR w w' X off 2 ∧ (∀ i, i < N → ∃ g, a = some ⟨g, 0, none⟩ ∧ β = some g ∧ w'.cell? ⟨g, i * 8, none⟩ = some (.int .i64 (-1)))

/-- What is known of the told notes' lists, and of their row. -/
structure OvF (w : World) (X : Nat) (K : Nat → Prop) (g N : Nat) (L : List TN) : Prop where
  len : L.length = N
  hT : ∀ t ∈ L, ∀ j, t.a = some ⟨j, 0, none⟩ → j < w.heap.size ∧ j ≠ X ∧ j ≠ g ∧ ¬ K j
  hG : g < w.heap.size ∧ g ≠ X ∧ ¬ K g
  ds : L.Pairwise Apt
section
variable {w wr w5 : World} {X off : Nat} {K K' : Nat → Prop} {m g N : Nat} {L : List TN} {k : Nat} {γ : Option Nat}
theorem OvF.apart (h : OvF w X K g N L) (hk : k < L.length) {j : Nat} (hj : L[k].a = some ⟨j, 0, none⟩) : ¬ ∃ t ∈ L.take k, t.a = some ⟨j, 0, none⟩ := by
  rintro ⟨t, ht, ha⟩
  obtain ⟨i, hi, rfl⟩ := List.mem_iff_getElem.1 ht
  rw [List.length_take] at hi
  have hp := List.pairwise_iff_getElem.1 h.ds i k (by omega) hk (by omega)
  rw [List.getElem_take] at ha
  exact hp _ ha hj
theorem OvF.out (h : OvF w X K g N L) (hk : k < L.length) (hK' : ∀ j, K' j → K j ∨ (∃ t ∈ L.take k, t.a = some ⟨j, 0, none⟩) ∨ w.heap.size ≤ j) {j : Nat} (hj : L[k].a = some ⟨j, 0, none⟩) : ¬ K' j := by
  intro hb
  obtain ⟨t1, t2, t3, t4⟩ := h.hT _ (List.getElem_mem hk) j hj
  rcases hK' j hb with h1 | h1 | h1
  · exact t4 h1
  · exact h.apart hk hj h1
  · omega
theorem OvF.outG (h : OvF w X K g N L) (hK' : ∀ j, K' j → K j ∨ (∃ t ∈ L.take k, t.a = some ⟨j, 0, none⟩) ∨ w.heap.size ≤ j) : ¬ K' g := by
  intro hb
  obtain ⟨t1, t2, t3⟩ := h.hG
  rcases hK' g hb with h1 | ⟨t, ht, ha⟩ | h1
  · exact t3 h1
  · exact (h.hT t (List.mem_of_mem_take ht) g ha).2.2.1 rfl
  · omega
theorem OvI.mid (hI : OvI w wr X off K m g N L k) (hF : OvF w X K g N L) (hk : k < L.length) (hK' : ∀ j, K' j → K j ∨ (∃ t ∈ L.take k, t.a = some ⟨j, 0, none⟩) ∨ w.heap.size ≤ j) (hO : InO rpc 2 90 45 wr w5 X off K' γ (m + 2 * k)) (hγ : ∀ j, γ = some j → L[k].a = some ⟨j, 0, none⟩) :
    NRow w5 g N k L ∧ ∀ w6, Fr (· = g) w5 w6 → NRow w6 g N (k + 1) L → OvI w w6 X off K m g N L (k + 1) := by
  obtain ⟨K2, hP, h2, h3, h4⟩ := hO
  have s0 := hI.fr.size
  have hGl := hF.hG
  have ng : ¬ (K' g ∨ γ = some g ∨ g = X) := by
    rintro (h | h | h)
    · exact hF.outG hK' h
    · exact (hF.hT _ (List.getElem_mem hk) g (hγ g h)).2.2.1 rfl
    · exact hGl.2.1 h
  have up : ∀ j, (∃ t ∈ L.take k, t.a = some ⟨j, 0, none⟩) → ∃ t ∈ L.take (k + 1), t.a = some ⟨j, 0, none⟩ := by
    rintro j ⟨t, ht, ha⟩
    exact ⟨t, by rw [List.take_succ_eq_append_getElem hk]; exact List.mem_append_left _ ht, ha⟩
  have me : ∀ j, γ = some j → ∃ t ∈ L.take (k + 1), t.a = some ⟨j, 0, none⟩ := fun j hj => ⟨L[k], by rw [List.take_succ_eq_append_getElem hk]; exact List.mem_append_right _ (List.mem_singleton.2 rfl), hγ j hj⟩
  refine ⟨hI.row.fr h3 ng, fun w6 h6 hr => ⟨⟨K2, ?_, fun j hj => ?_⟩, ?_, ?_, hr⟩⟩
  · have := hP.fr h6 (fun j hj e => ?_) (fun e => hGl.2.1 e.symm)
    · rw [show m + 2 * (k + 1) = m + 2 * k + 2 by omega]; exact this
    · subst e
      rcases h2 j hj with h | h | h
      · exact ng (.inl h)
      · exact ng (.inr (.inl h))
      · omega
  · rcases h2 j hj with h | h | h
    · rcases hK' j h with h | h | h
      · exact .inl h
      · exact .inr (.inl (up j h))
      · exact .inr (.inr h)
    · exact .inr (.inl (me j h))
    · exact .inr (.inr (by omega))
  · refine ((hI.fr.mono (fun j _ hj => ?_)).next (h3.mono (S' := fun j => (K j ∨ (∃ t ∈ L.take (k + 1), t.a = some ⟨j, 0, none⟩) ∨ j = X ∨ j = g) ∨ w.heap.size ≤ j) (fun j hj1 hj => ?_)) (fun j hj h => ?_)).trans (h6.mono (fun j _ hj => .inr (.inr (.inr hj))))
    · rcases hj with h | h | h | h
      · exact .inl h
      · exact .inr (.inl (up j h))
      · exact .inr (.inr (.inl h))
      · exact .inr (.inr (.inr h))
    · rcases hj with h | h | h
      · rcases hK' j h with h | h | h
        · exact .inl (.inl h)
        · exact .inl (.inr (.inl (up j h)))
        · exact .inr h
      · exact .inl (.inr (.inl (me j h)))
      · exact .inl (.inr (.inr (.inl h)))
    · rcases h with h | h
      · exact h
      · omega
  · exact (hI.xr.trans h4).trans (XR.of_fr h6 (fun e => hGl.2.1 e.symm))
end

theorem PP.box {α : Type} {f : α → List Value} {k : Nat} {e es : TypeId} {w : World} {X off : Nat} {K : Nat → Prop} {m : Nat} (h : PP f k e es w X off K m) : (∃ cs, w.heap[X]? = some (.cells cs 32 (0, 0))) ∧ ¬ K X ∧ ∀ j, K j → j < w.heap.size := by
  obtain ⟨v1, b1, S1, v2, b2, S2, E, hP, -⟩ := h
  obtain ⟨cs, q2, -⟩ := hP.box
  exact ⟨⟨cs, q2⟩, hP.nX, hP.old⟩
theorem SF.ne_blk {α : Type} {f : α → List Value} {k : Nat} {e : TypeId} {w : World} {γ : Option Nat} {v : Value} {xs : List α} (h : SF f k w e γ v xs) {X : Nat} {cs : Array Value} {t : TypeId} (hX : w.heap[X]? = some (.cells cs t (0, 0))) (hne : t ≠ e) : γ ≠ some X := by
  rintro rfl
  obtain ⟨cur, hc⟩ := h.blk
  rw [hX] at hc
  injection hc with q
  injection q with q1 q2 q3
  exact hne q2
theorem SF.adr {α : Type} {f : α → List Value} {k : Nat} {e : TypeId} {w : World} {γ : Option Nat} {a : Option Addr} {n c : Nat} {xs : List α} (h : SF f k w e γ (.slice a n c) xs) (j : Nat) : a = some ⟨j, 0, none⟩ ↔ γ = some j := by
  cases γ with
  | none =>
    obtain ⟨h1, -⟩ := h
    injection h1 with h1
    subst h1
    simp
  | some g =>
    obtain ⟨cap, h1, -⟩ := h
    injection h1 with h1
    subst h1
    constructor
    · intro h
      injection h with h
      injection h with h
      rw [h]
    · intro h
      injection h with h
      rw [h]
end Go.Proofs.Ytkkklfnooeofcab
