/-
  Texts put together: Xa Xb.
-/
import Derived.Test.YtkkklfnooeofcabMLa
import Derived.Deep.DeepCutAuto
/-! Xa -/
namespace Go.Proofs.Ytkkklfnooeofcab
open Go.RowKit
set_option linter.unusedVariables false

structure SV where
  a : Option Addr
  n : Nat
  c : Nat
def SV.val (s : SV) : Value := .slice s.a s.n s.c
def sv (s : SV) : List Value := [.slice s.a s.n s.c]
theorem sz_sv : Sz sv 1 := fun x => ⟨rfl, fun v hv => by simp [sv] at hv; subst hv; rfl⟩

section
variable {α : Type} {f : α → List Value} {k : Nat} {e es : TypeId} {w w' : World} {S T K K' : Nat → Prop} {s : SV} {xs : List α} {v : Value} {β : Option Nat} {SL : List SV} {E : List (List α)}

/-- The slice holds xs, in a block of S. -/
def HJ (f : α → List Value) (k : Nat) (e : TypeId) (w : World) (S : Nat → Prop) (s : SV) (xs : List α) : Prop :=
  xs.length = s.n ∧ s.n ≤ s.c ∧ s.c ≤ 9223372036854775807 ∧ (0 < s.n → ∃ b cur, s.a = some ⟨b, 0, none⟩ ∧ S b ∧ w.heap[b]? = some (.cells (List.toArray cur) e (0, 0)) ∧ cur.take (s.n * k) = cl f xs)
theorem HJ.fr (h : HJ f k e w S s xs) (hF : Fr T w w') (hS : ∀ j, S j → ¬ T j) : HJ f k e w' S s xs := by
  obtain ⟨h1, h2, h3, h4⟩ := h
  refine ⟨h1, h2, h3, fun hn => ?_⟩
  obtain ⟨b, cur, e1, e2, e3, e4⟩ := h4 hn
  exact ⟨b, cur, e1, e2, hF.keeps e3 (hS b e2), e4⟩
theorem HJ.more (h : HJ f k e w S s xs) (hS : ∀ j, S j → T j) : HJ f k e w T s xs := by
  obtain ⟨h1, h2, h3, h4⟩ := h
  refine ⟨h1, h2, h3, fun hn => ?_⟩
  obtain ⟨b, cur, e1, e2, e3, e4⟩ := h4 hn
  exact ⟨b, cur, e1, hS b e2, e3, e4⟩
/-- A row of another type may change. -/
theorem HJ.typed (h : HJ f k e w S s xs) (hF : Fr T w w') (hT : ∀ j, T j → ∃ cs, w.heap[j]? = some (.cells cs es (0, 0))) (hne : es ≠ e) : HJ f k e w' S s xs := by
  obtain ⟨h1, h2, h3, h4⟩ := h
  refine ⟨h1, h2, h3, fun hn => ?_⟩
  obtain ⟨b, cur, e1, e2, e3, e4⟩ := h4 hn
  refine ⟨b, cur, e1, e2, hF.keeps e3 (fun hTb => ?_), e4⟩
  obtain ⟨c2, q2⟩ := hT b hTb
  rw [e3] at q2
  injection q2 with q2
  injection q2 with q3 q4 q5
  exact hne q4.symm
theorem HJ.cells (h : HJ f k e w S s xs) (hz : Sz f k) (hn : 0 < s.n) : ∃ b, s.a = some ⟨b, 0, none⟩ ∧ S b ∧ b < w.heap.size ∧ ∀ j u, (cl f xs)[j]? = some u → w.cell? ((⟨b, 0, none⟩ : Addr).add j) = some u := by
  obtain ⟨h1, h2, h3, h4⟩ := h
  obtain ⟨b, cur, e1, e2, e3, e4⟩ := h4 hn
  refine ⟨b, e1, e2, block_lt e3, fun j u hj => ?_⟩
  rw [add_lit, cell_row e3]
  rw [← e4] at hj
  have hjl := (List.getElem?_eq_some_iff.1 hj).1
  rw [List.length_take] at hjl
  rw [List.getElem?_take, if_pos (by omega)] at hj
  simpa using hj
theorem HJ.get (h : HJ f k e w S s xs) (hz : Sz f k) (i : Nat) (hi : i < xs.length) : ∃ b, s.a = some ⟨b, 0, none⟩ ∧ ∀ j, j < k → w.cell? ⟨b, i * k + j, none⟩ = (f xs[i])[j]? := by
  have h1 := h.1
  obtain ⟨b, e1, -, -, e4⟩ := h.cells hz (by omega)
  refine ⟨b, e1, fun j hj => ?_⟩
  have hg := cl_get hz xs i j hi hj
  have hl : j < (f xs[i]).length := by rw [(hz xs[i]).1]; exact hj
  rw [List.getElem?_eq_getElem hl] at hg ⊢
  have := e4 _ _ hg
  rwa [add_lit, Nat.zero_add] at this
theorem SF.hj {a : Option Addr} {n c : Nat} (h : SF f k w e β (.slice a n c) xs) (hS : ∀ b, β = some b → S b) : HJ f k e w S ⟨a, n, c⟩ xs := by
  cases β with
  | none =>
    obtain ⟨h1, rfl⟩ := h
    injection h1 with h1 h2 h3
    subst h1 h2 h3
    exact ⟨rfl, Nat.le_refl _, by simp, fun h => by simp at h⟩
  | some g =>
    obtain ⟨cap, h1, cur, hh, ht, hl, h2, h3, h4⟩ := h
    injection h1 with h1 h5 h6
    subst h1 h5 h6
    exact ⟨rfl, h2, h3, fun _ => ⟨g, cur, rfl, hS g rfl, hh, ht⟩⟩
/-- What was ahead of an append is still seen by the shorter slice. -/
theorem SF.grown {ys : List α} {v' : Value} {a : Option Addr} {n c : Nat} (hz : Sz f k) (h : SF f k w e β (.slice a n c) xs) (hN : NowF f k w w' e β v' (xs ++ ys)) (hS : ∀ b, β = some b → S b) : HJ f k e w' S ⟨a, n, c⟩ xs := by
  obtain ⟨g', h1, h2⟩ := hN
  rcases h2 with ⟨rfl, h2⟩ | ⟨rfl, h2⟩
  · obtain ⟨cap, e0, hh0⟩ := h
    obtain ⟨cur0, -, -, hl0, hb0, hc0, -⟩ := hh0
    injection e0 with e1 e2 e3
    subst e1 e2 e3
    obtain ⟨cap', -, cur, hh, ht, hl, h5, h3, h4⟩ := h1
    refine ⟨rfl, hb0, hc0, fun _ => ⟨g', cur, rfl, hS g' rfl, hh, ?_⟩⟩
    rw [List.length_append] at ht
    have := congrArg (List.take (xs.length * k)) ht
    rw [List.take_take, Nat.min_eq_left (Nat.mul_le_mul_right _ (Nat.le_add_right _ _)), cl_app, List.take_left' (by rw [cl_len hz])] at this
    exact this
  · exact (h.fr h2 (fun _ _ h => h)).hj hS

/-- A list of lists, in a row of its own; each holds what E tells, but for the last ones, ex, of which nothing is said. -/
structure KR (f : α → List Value) (k : Nat) (e es : TypeId) (w : World) (K : Nat → Prop) (v : Value) (β : Option Nat) (SL ex : List SV) (E : List (List α)) : Prop where
  row : SF sv 1 w es β v (SL ++ ex)
  len : SL.length = E.length
  ho : ∀ (j : Nat) s xs, SL[j]? = some s → E[j]? = some xs → HJ f k e w K s xs
  inK : ∀ g, β = some g → K g
variable {ex : List SV}
theorem KR.fr (h : KR f k e es w K v β SL ex E) (hF : Fr T w w') (hS : ∀ j, K j → ¬ T j) : KR f k e es w' K v β SL ex E :=
  ⟨h.row.fr hF (fun g hg => hS g (h.inK g hg)), h.len, fun j s xs h1 h2 => (h.ho j s xs h1 h2).fr hF hS, h.inK⟩
theorem KR.more (h : KR f k e es w K v β SL ex E) (hS : ∀ j, K j → K' j) : KR f k e es w K' v β SL ex E :=
  ⟨h.row, h.len, fun j s xs h1 h2 => (h.ho j s xs h1 h2).more hS, fun g hg => hS g (h.inK g hg)⟩
theorem KR.typed (h : KR f k e es w K v β SL ex E) (hF : Fr T w w') (hT : ∀ j, T j → ∃ cs, w.heap[j]? = some (.cells cs es (0, 0))) (hne : es ≠ e) (hb : ∀ g, β = some g → ¬ T g) : KR f k e es w' K v β SL ex E :=
  ⟨h.row.fr hF hb, h.len, fun j s xs h1 h2 => (h.ho j s xs h1 h2).typed hF hT hne, h.inK⟩
theorem KR.blk (h : KR f k e es w K v β SL ex E) : ∀ g, β = some g → ∃ cs, w.heap[g]? = some (.cells cs es (0, 0)) := by
  intro g hg
  have := h.row
  subst hg
  obtain ⟨cur, hc⟩ := this.blk
  exact ⟨_, hc⟩
theorem now_out {α : Type} {f : α → List Value} {k : Nat} {w w' : World} {e : TypeId} {β : Option Nat} {v' : Value} {xs : List α} (h : NowF f k w w' e β v' xs) : ∃ g, SF f k w' e (some g) v' xs ∧ (β = some g ∨ g = w.heap.size) ∧ Fr (fun j => β = some j) w w' := by
  obtain ⟨g, h1, h2⟩ := h
  rcases h2 with ⟨rfl, h2⟩ | ⟨h3, h2⟩
  · exact ⟨g, h1, .inl rfl, h2.mono (fun j _ hj => by rw [hj])⟩
  · exact ⟨g, h1, .inr h3, h2.mono (fun _ _ h => h.elim)⟩
/-- One list more of which nothing is said. -/
theorem KR.pushX {w1 w2 : World} {v' : Value} (h : KR f k e es w K v β SL ex E) (hF : Fr (fun _ => False) w w1) (hN : NowF sv 1 w1 w2 es β v' (SL ++ ex ++ [s])) (hne : es ≠ e) (hK : ∀ j, K j → K' j) (hK2 : ∀ j, w.heap.size ≤ j → j < w2.heap.size → K' j) :
    ∃ g, KR f k e es w2 K' v' (some g) SL (ex ++ [s]) E ∧ (β = some g ∨ w.heap.size ≤ g) ∧ Fr (fun j => β = some j) w1 w2 := by
  obtain ⟨g, h1, h2, h3⟩ := now_out hN
  have k1 := h.fr hF (fun _ _ h => h)
  have hgl := h1.lt g rfl
  have hg : β = some g ∨ w.heap.size ≤ g := by
    rcases h2 with h2 | h2
    · exact .inl h2
    · exact .inr (by rw [h2]; exact hF.size)
  refine ⟨g, ⟨by rw [← List.append_assoc]; exact h1, h.len, fun j s' xs' h4 h5 => ((k1.ho j s' xs' h4 h5).typed h3 k1.blk hne).more hK, fun g' hg' => ?_⟩, hg, h3⟩
  cases hg'
  rcases hg with hg | hg
  · exact hK g (h.inK g hg)
  · exact hK2 g hg hgl
/-- What was open is told. -/
theorem KR.close2 {s t : SV} {xs ys : List α} (h : KR f k e es w K v β SL [s, t] E) (hs : HJ f k e w K s xs) (ht : HJ f k e w K t ys) : KR f k e es w K v β (SL ++ [s, t]) [] (E ++ [xs, ys]) := by
  refine ⟨by rw [List.append_nil]; exact h.row, by simp [h.len], fun j s' xs' h3 h4 => ?_, h.inK⟩
  by_cases hj : j < SL.length
  · have hj2 : j < E.length := by rw [← h.len]; exact hj
    rw [List.getElem?_append_left hj] at h3
    rw [List.getElem?_append_left hj2] at h4
    exact h.ho j s' xs' h3 h4
  · have hj2 : ¬ j < E.length := by rw [← h.len]; exact hj
    rw [List.getElem?_append_right (by omega)] at h3
    rw [List.getElem?_append_right (by omega)] at h4
    rw [← h.len] at h4
    rcases hx : j - SL.length with _ | _ | y
    · rw [hx] at h3 h4
      simp at h3 h4
      subst h3 h4
      exact hs
    · rw [hx] at h3 h4
      simp at h3 h4
      subst h3 h4
      exact ht
    · rw [hx] at h3
      simp at h3
theorem KR.push {w1 w2 : World} {v' : Value} (h : KR f k e es w K v β SL [] E) (hF : Fr (fun _ => False) w w1) (hN : NowF sv 1 w1 w2 es β v' (SL ++ [s])) (hne : es ≠ e) (hs : HJ f k e w1 K' s xs) (hK : ∀ j, K j → K' j) (hK2 : ∀ j, w.heap.size ≤ j → j < w2.heap.size → K' j) :
    ∃ g, KR f k e es w2 K' v' (some g) (SL ++ [s]) [] (E ++ [xs]) ∧ (β = some g ∨ w.heap.size ≤ g) ∧ Fr (fun j => β = some j) w1 w2 := by
  obtain ⟨g, h1, h2, hFb⟩ := now_out hN
  have k1 := h.fr hF (fun _ _ h => h)
  have hgl := h1.lt g rfl
  have hg : β = some g ∨ w.heap.size ≤ g := by
    rcases h2 with h2 | h2
    · exact .inl h2
    · exact .inr (by rw [h2]; exact hF.size)
  refine ⟨g, ⟨by rw [List.append_nil]; exact h1, by simp [h.len], fun j s' xs' h3 h4 => ?_, fun g' hg' => ?_⟩, hg, hFb⟩
  · by_cases hj : j < SL.length
    · have hj2 : j < E.length := by rw [← h.len]; exact hj
      rw [List.getElem?_append_left hj] at h3
      rw [List.getElem?_append_left hj2] at h4
      exact ((k1.ho j s' xs' h3 h4).typed hFb k1.blk hne).more hK
    · have hj2 : ¬ j < E.length := by rw [← h.len]; exact hj
      rw [List.getElem?_append_right (by omega)] at h3
      rw [List.getElem?_append_right (by omega)] at h4
      rw [← h.len] at h4
      rcases hx : j - SL.length with _ | y
      · rw [hx] at h3 h4
        simp at h3 h4
        subst h3 h4
        exact hs.typed hFb k1.blk hne
      · rw [hx] at h3
        simp at h3
  · cases hg'
    rcases hg with hg | hg
    · exact hK g (h.inK g hg)
    · exact hK2 g hg hgl
end

/-- A part of a struct in an array. -/
def PB (w : World) (X off : Nat) (vs : List Value) : Prop := ∃ cs, w.heap[X]? = some (.cells cs 32 (0, 0)) ∧ ∀ i v, vs[i]? = some v → cs[off + i]? = some v
section
variable {w w' : World} {X off off2 i : Nat} {vs vs2 : List Value} {T : Nat → Prop}
theorem PB.fr (h : PB w X off vs) (hF : Fr T w w') (hT : ¬ T X) : PB w' X off vs := by
  obtain ⟨cs, h1, h2⟩ := h
  exact ⟨cs, hF.keeps h1 hT, h2⟩
theorem PB.get (h : PB w X off vs) (v : Value) (hi : vs[i]? = some v) : w.cell? ⟨X, off + i, none⟩ = some v := by
  obtain ⟨cs, h1, h2⟩ := h
  rw [cell_row h1]
  exact h2 i v hi
theorem PB.frozen (h : PB w X off vs) : w.frozen? ⟨X, off + i, none⟩ = false := by
  obtain ⟨cs, h1, h2⟩ := h
  exact frozen_row h1 _
theorem PB.lt (h : PB w X off vs) : X < w.heap.size := by
  obtain ⟨cs, h1, h2⟩ := h
  exact block_lt h1
theorem PB.set (h : PB w X off vs) (hi : i < vs.length) (u : Value) : PB (w.setCell ⟨X, off + i, none⟩ u) X off (vs.set i u) := by
  obtain ⟨cs, h1, h2⟩ := h
  refine ⟨_, set_row h1 _ u, fun j v hj => ?_⟩
  rw [Array.getElem?_setIfInBounds]
  by_cases hji : j = i
  · subst hji
    have h3 := h2 j _ (List.getElem?_eq_getElem hi)
    have h4 : off + j < cs.size := (Array.getElem?_eq_some_iff.1 h3).1
    rw [List.getElem?_set_self hi] at hj
    cases hj
    simp [h4]
  · rw [if_neg (by omega)]
    rw [List.getElem?_set_ne (by omega)] at hj
    exact h2 j v hj
theorem PB.other (h : PB w X off2 vs2) (hi : off2 + vs2.length ≤ off + i ∨ off + i < off2) (u : Value) : PB (w.setCell ⟨X, off + i, none⟩ u) X off2 vs2 := by
  obtain ⟨cs, h1, h2⟩ := h
  refine ⟨_, set_row h1 _ u, fun j v hj => ?_⟩
  have hjl := (List.getElem?_eq_some_iff.1 hj).1
  rw [Array.getElem?_setIfInBounds, if_neg (by omega)]
  exact h2 j v hj
end
/-- The rest of the array stays. -/
def XR (w w' : World) (X off n : Nat) : Prop := ∀ off2 vs2, (off2 + vs2.length ≤ off ∨ off + n ≤ off2) → PB w X off2 vs2 → PB w' X off2 vs2
theorem XR.refl (w : World) (X off n : Nat) : XR w w X off n := fun _ _ _ h => h
theorem XR.trans {a b c : World} {X off n : Nat} (h : XR a b X off n) (g : XR b c X off n) : XR a c X off n := fun off2 vs2 ho hp => g off2 vs2 ho (h off2 vs2 ho hp)
theorem XR.of_fr {T : Nat → Prop} {w w' : World} {X off n : Nat} (hF : Fr T w w') (hT : ¬ T X) : XR w w' X off n := fun off2 vs2 _ hp => hp.fr hF hT
theorem XR.set (w : World) (X off n i : Nat) (hi : i < n) (u : Value) : XR w (w.setCell ⟨X, off + i, none⟩ u) X off n := fun off2 vs2 ho hp => hp.other (by omega) u
theorem XR.wide {w w' : World} {X off n off' n' : Nat} (h : XR w w' X off' n') (h1 : off ≤ off') (h2 : off' + n' ≤ off + n) : XR w w' X off n := fun off2 vs2 ho hp => h off2 vs2 (by omega) hp

theorem Try.infoIs : (Try.prog.info? 59).map (fun i => (i.zero, i.size, i.bytes)) = some (some (.slice none 0 0), 1, 24) := by kernel_rfl
theorem Try.infoRs : (Try.prog.info? 45).map (fun i => (i.zero, i.size, i.bytes)) = some (some (.slice none 0 0), 1, 24) := by kernel_rfl
theorem push_sv {t es : TypeId} (ht : Try.prog.underlying t = some (.slice es)) (hinf : (Try.prog.info? es).map (fun i => (i.zero, i.size, i.bytes)) = some (some (.slice none 0 0), 1, 24)) (w : World) (β : Option Nat) (v : Value) (xs : List SV) (hv : SF sv 1 w es β v xs) (b : Nat) (s : SV) (hb : w.heap[b]? = some (.cells #[.slice s.a s.n s.c] es (0, 0))) (hn : xs.length ≤ 4000000000000) :
    ∃ v' w', (∀ ty, (Builtin.append_ #[t, t] ty #[v, .slice (some ⟨b, 0, none⟩) 1 1]).run Try.prog w = .ok v' w') ∧ NowF sv 1 w w' es β v' (xs ++ [s]) := by
  obtain ⟨i0, hi0, hz0, hz1, hz2⟩ := info_parts hinf
  obtain ⟨v', w', hr, hN⟩ := run_pushF sz_sv (P := Try.prog) w t 0 es i0 _ 24 ht hi0 hz0 hz1 rfl hz2 β v xs hv ⟨b, 0, none⟩ 1 1 [s] rfl (fun j u hj => by
    rcases j with _ | j
    · rw [add_lit, cell_row hb]; simpa [cl, sv] using hj
    · simp [cl, sv] at hj) (by omega) (by omega) (by omega)
  exact ⟨v', w', fun ty => hr, hN⟩
theorem NowF.slice {α : Type} {f : α → List Value} {k : Nat} {w w' : World} {e : TypeId} {β : Option Nat} {v' : Value} {xs : List α} (h : NowF f k w w' e β v' xs) : ∃ a c, v' = .slice a xs.length c := by
  obtain ⟨g', h1, -⟩ := h
  obtain ⟨a', c', h, -⟩ := h1.form
  exact ⟨a', c', h⟩

/-- append of a whole list that is kept onto an empty row of the call's own. -/
theorem push_all {α : Type} {f : α → List Value} {k : Nat} (hz : Sz f k) {t e : TypeId} {z : Value} {bytes : Nat} (ht : Try.prog.underlying t = some (.slice e)) (hinf : (Try.prog.info? e).map (fun i => (i.zero, i.size, i.bytes)) = some (some z, k, bytes)) (hzs : z.cells.size = k)
    (w : World) (b : Nat) (hb : w.heap[b]? = some (.cells #[] e (0, 0))) (S : Nat → Prop) (s : SV) (ys : List α) (hs : HJ f k e w S s ys) (hl : roomy s.n bytes) :
    ∃ v' w' g', (∀ ty, (Builtin.append_ #[t, t] ty #[.slice (some ⟨b, 0, none⟩) 0 0, .slice s.a s.n s.c]).run Try.prog w = .ok v' w') ∧ SF f k w' e (some g') v' ys ∧ (g' = b ∨ g' = w.heap.size) ∧ Fr (· = b) w w' := by
  obtain ⟨i0, hi0, hz0, hz1, hz2⟩ := info_parts hinf
  obtain ⟨a, n, c⟩ := s
  have hn : ys.length = n := hs.1
  by_cases h0 : n = 0
  · subst h0
    obtain rfl : ys = [] := List.eq_nil_of_length_eq_zero hn
    have hlc : ∀ (x : Addr), (loadCells x 0).run Try.prog w = .ok #[] w := fun x => by simpa using run_loadCells_list (P := Try.prog) w x [] (by simp)
    refine ⟨.slice (some ⟨b, 0, none⟩) 0 0, w, b, fun ty => ?_, ⟨0, rfl, [], by simpa using hb, by simp [cl_nil], rfl, Nat.le_refl _, by omega, by simp⟩, .inl rfl, Fr.refl _ _⟩
    cases a with
    | none => simp [Builtin.append_, run_underlying ht, sizeOf, typeInfo, hi0, Builtin.lenOf, Builtin.firstCells, storeCells]
    | some a => simp [Builtin.append_, run_underlying ht, sizeOf, typeInfo, hi0, Builtin.lenOf, Builtin.firstCells, storeCells, hlc]
  · obtain ⟨g, e1, -, -, hc⟩ := hs.cells hz (by show 0 < n; omega)
    simp only at e1
    subst e1
    subst hn
    exact run_clone hz w t e i0 _ bytes ht hi0 hz0 hz1 hzs hz2 b c ⟨g, 0, none⟩ hb ys hc hl

/-- Two lists of lists in two fields of a struct. -/
structure P2 {α : Type} (f : α → List Value) (k : Nat) (e es : TypeId) (w : World) (X off : Nat) (K : Nat → Prop) (vL : Value) (βL : Option Nat) (SL ex : List SV) (EL : List (List α)) (vW : Value) (βW : Option Nat) (SW : List SV) (EW : List (List α)) : Prop where
  box : PB w X off [vL, vW]
  kL : KR f k e es w K vL βL SL ex EL
  kW : KR f k e es w K vW βW SW [] EW
  ne : ∀ g, βL = some g → βW ≠ some g
  nX : ¬ K X
  old : ∀ j, K j → j < w.heap.size
def PP {α : Type} (f : α → List Value) (k : Nat) (e es : TypeId) (w : World) (X off : Nat) (K : Nat → Prop) (m : Nat) : Prop :=
  ∃ vL βL SL vW βW SW E, P2 f k e es w X off K vL βL SL [] E vW βW SW E ∧ E.length = m
section
variable {α : Type} {f : α → List Value} {k : Nat} {e es : TypeId} {w w' w1 w2 : World} {X off : Nat} {K K' T : Nat → Prop} {vL : Value} {βL : Option Nat} {SL ex : List SV} {EL : List (List α)} {vW : Value} {βW : Option Nat} {SW : List SV} {EW : List (List α)}
theorem P2.fr (h : P2 f k e es w X off K vL βL SL ex EL vW βW SW EW) (hF : Fr T w w') (hS : ∀ j, K j → ¬ T j) (hX : ¬ T X) : P2 f k e es w' X off K vL βL SL ex EL vW βW SW EW :=
  ⟨h.box.fr hF hX, h.kL.fr hF hS, h.kW.fr hF hS, h.ne, h.nX, fun j hj => Nat.lt_of_lt_of_le (h.old j hj) hF.size⟩
theorem P2.below (h : P2 f k e es w X off K vL βL SL ex EL vW βW SW EW) (hb : Below w.heap.size w w') : P2 f k e es w' X off K vL βL SL ex EL vW βW SW EW :=
  h.fr (T := fun _ => False) (Fr.of_below hb) (fun _ _ h => h) (fun h => h)
theorem P2.more (h : P2 f k e es w X off K vL βL SL ex EL vW βW SW EW) (hS : ∀ j, K j → K' j) (hn : ¬ K' X) (ho : ∀ j, K' j → j < w.heap.size) : P2 f k e es w X off K' vL βL SL ex EL vW βW SW EW :=
  ⟨h.box, h.kL.more hS, h.kW.more hS, h.ne, hn, ho⟩
theorem PP.fr {m : Nat} (h : PP f k e es w X off K m) (hF : Fr T w w') (hS : ∀ j, K j → ¬ T j) (hX : ¬ T X) : PP f k e es w' X off K m := by
  obtain ⟨vL, βL, SL, vW, βW, SW, E, h, hm⟩ := h
  exact ⟨vL, βL, SL, vW, βW, SW, E, h.fr hF hS hX, hm⟩
theorem P2.bX (h : P2 f k e es w X off K vL βL SL ex EL vW βW SW EW) : βL ≠ some X ∧ βW ≠ some X :=
  ⟨fun hb => h.nX (h.kL.inK X hb), fun hb => h.nX (h.kW.inK X hb)⟩
/-- A list was appended to the first. -/
theorem P2.pushL {v' : Value} {s : SV} (h : P2 f k e es w X off K vL βL SL ex EL vW βW SW EW) (hne : es ≠ e) (hF : Fr (fun _ => False) w w1) (hN : NowF sv 1 w1 w2 es βL v' (SL ++ ex ++ [s])) :
    w2.cell? ⟨X, off, none⟩ = some vL ∧ w2.frozen? ⟨X, off, none⟩ = false ∧ ∃ g, P2 f k e es (w2.setCell ⟨X, off, none⟩ v') X off (fun j => K j ∨ (w.heap.size ≤ j ∧ j < w2.heap.size)) v' (some g) SL (ex ++ [s]) EL vW βW SW EW ∧
      Fr (fun j => K j ∨ j = X) w (w2.setCell ⟨X, off, none⟩ v') ∧ XR w (w2.setCell ⟨X, off, none⟩ v') X off 2 ∧ w.heap.size ≤ w2.heap.size := by
  obtain ⟨g, k1, k2, k3⟩ := h.kL.pushX (K' := fun j => K j ∨ (w.heap.size ≤ j ∧ j < w2.heap.size)) hF hN hne (fun j hj => .inl hj) (fun j h1 h2 => .inr ⟨h1, h2⟩)
  have hX := h.box.lt
  have s1 := hF.size
  have s2 := k3.size
  have F1 : Fr (fun j => βL = some j) w w2 := (hF.mono (fun _ _ h => h.elim)).trans k3
  have B2 := h.box.fr F1 h.bX.1
  have c0 := B2.get (i := 0) vL rfl
  have f0 := B2.frozen (i := 0)
  have B3 := B2.set (i := 0) (by simp) v'
  simp only [Nat.add_zero, List.set_cons_zero] at c0 f0 B3
  have FS : Fr (· = X) w2 (w2.setCell ⟨X, off, none⟩ v') := Fr.setCell _ _ _ rfl
  have nK : ∀ j, (K j ∨ (w.heap.size ≤ j ∧ j < w2.heap.size)) → ¬ j = X := by
    rintro j (hj | hj) rfl
    · exact h.nX hj
    · omega
  refine ⟨c0, f0, g, ⟨B3, k1.fr FS nK, ((h.kW.typed F1 (fun j hj => ?_) hne (fun q hq hq2 => h.ne q hq2 hq)).more (fun j hj => .inl hj)).fr FS nK, ?_, fun hX => nK X hX rfl, fun j hj => ?_⟩, ?_, ?_⟩
  · exact h.kL.blk j hj
  · intro q hq hq2
    cases hq
    rcases k2 with k2 | k2
    · exact h.ne _ k2 hq2
    · have := h.old _ (h.kW.inK _ hq2)
      omega
  · rcases hj with hj | hj
    · have := h.old j hj
      have := FS.size
      omega
    · have := FS.size
      omega
  · exact (F1.mono (fun j _ hj => .inl (h.kL.inK j hj))).trans (FS.mono (fun j _ hj => .inr hj))
  · have := XR.set w2 X off 2 0 (by omega) v'
    rw [Nat.add_zero] at this
    exact ⟨(XR.of_fr F1 h.bX.1).trans this, by omega⟩
/-- A list was appended to the second. -/
theorem P2.pushW {v' : Value} {s : SV} {xs : List α} (h : P2 f k e es w X off K vL βL SL ex EL vW βW SW EW) (hne : es ≠ e) (hF : Fr (fun _ => False) w w1) (hs : HJ f k e w1 (fun j => K j ∨ (w.heap.size ≤ j ∧ j < w1.heap.size)) s xs) (hN : NowF sv 1 w1 w2 es βW v' (SW ++ [s])) :
    w2.cell? ⟨X, off + 1, none⟩ = some vW ∧ w2.frozen? ⟨X, off + 1, none⟩ = false ∧ ∃ g, P2 f k e es (w2.setCell ⟨X, off + 1, none⟩ v') X off (fun j => K j ∨ (w.heap.size ≤ j ∧ j < w2.heap.size)) vL βL SL ex EL v' (some g) (SW ++ [s]) (EW ++ [xs]) ∧
      Fr (fun j => K j ∨ j = X) w (w2.setCell ⟨X, off + 1, none⟩ v') ∧ XR w (w2.setCell ⟨X, off + 1, none⟩ v') X off 2 ∧ w.heap.size ≤ w2.heap.size := by
  obtain ⟨gN, hN1, hN2⟩ := hN
  have hX := h.box.lt
  have s12 : w1.heap.size ≤ w2.heap.size := by
    rcases hN2 with ⟨-, h⟩ | ⟨-, h⟩
    · exact h.size
    · exact h.size
  obtain ⟨g, k1, k2, k3⟩ := h.kW.push (K' := fun j => K j ∨ (w.heap.size ≤ j ∧ j < w2.heap.size)) hF ⟨gN, hN1, hN2⟩ hne (hs.more (fun j hj => by
    rcases hj with hj | hj
    · exact .inl hj
    · exact .inr ⟨hj.1, by omega⟩)) (fun j hj => .inl hj) (fun j h1 h2 => .inr ⟨h1, h2⟩)
  have s1 := hF.size
  have s2 := k3.size
  have F1 : Fr (fun j => βW = some j) w w2 := (hF.mono (fun _ _ h => h.elim)).trans k3
  have B2 := h.box.fr F1 h.bX.2
  have c0 := B2.get (i := 1) vW rfl
  have f0 := B2.frozen (i := 1)
  have B3 := B2.set (i := 1) (by simp) v'
  simp only [List.set_cons_zero, List.set_cons_succ] at c0 f0 B3
  have FS : Fr (· = X) w2 (w2.setCell ⟨X, off + 1, none⟩ v') := Fr.setCell _ _ _ rfl
  have nK : ∀ j, (K j ∨ (w.heap.size ≤ j ∧ j < w2.heap.size)) → ¬ j = X := by
    rintro j (hj | hj) rfl
    · exact h.nX hj
    · omega
  refine ⟨c0, f0, g, ⟨B3, ((h.kL.typed F1 (fun j hj => ?_) hne (fun q hq hq2 => h.ne q hq hq2)).more (fun j hj => .inl hj)).fr FS nK, k1.fr FS nK, ?_, fun hX => nK X hX rfl, fun j hj => ?_⟩, ?_, ?_⟩
  · exact h.kW.blk j hj
  · intro q hq hq2
    cases hq2
    rcases k2 with k2 | k2
    · exact h.ne _ hq k2
    · have := h.old _ (h.kL.inK _ hq)
      omega
  · rcases hj with hj | hj
    · have := h.old j hj
      have := FS.size
      omega
    · have := FS.size
      omega
  · exact (F1.mono (fun j _ hj => .inl (h.kW.inK j hj))).trans (FS.mono (fun j _ hj => .inr hj))
  · exact ⟨(XR.of_fr F1 h.bX.2).trans (XR.set w2 X off 2 1 (by omega) v'), by omega⟩
end
end Go.Proofs.Ytkkklfnooeofcab

/-! Xb -/
namespace Go.Proofs.Ytkkklfnooeofcab
open Go.RowKit
set_option linter.unusedVariables false

/-- The first i are written over. -/
def mkC {α : Type} (z : α) (xs : List α) (i : Nat) : List α := List.replicate i z ++ xs.drop i
theorem mkC_len {α : Type} (z : α) (xs : List α) (i : Nat) (h : i ≤ xs.length) : (mkC z xs i).length = xs.length := by simp [mkC]; omega
theorem mkC_set {α : Type} (z : α) (xs : List α) (i : Nat) (h : i < xs.length) : (mkC z xs i).set i z = mkC z xs (i + 1) := by
  unfold mkC
  rw [List.drop_eq_getElem_cons h, List.set_append_right _ _ (by simp), List.length_replicate, Nat.sub_self, List.set_cons_zero, List.replicate_succ', List.append_assoc]
  rfl
theorem mkC_zero {α : Type} (z : α) (xs : List α) : mkC z xs 0 = xs := by simp [mkC]

/-- What ints and replies leave. -/
def InO {α : Type} (f : α → List Value) (k : Nat) (e es : TypeId) (w w' : World) (X off : Nat) (K : Nat → Prop) (β : Option Nat) (m : Nat) : Prop :=
  ∃ K', PP f k e es w' X off K' (m + 2) ∧ (∀ j, K' j → K j ∨ β = some j ∨ w.heap.size ≤ j) ∧ Fr (fun j => K j ∨ β = some j ∨ j = X) w w' ∧ XR w w' X off 2

section
variable {α : Type} {f : α → List Value} {k : Nat} {e es : TypeId} {w0 u u' w : World} {X off : Nat} {K0 : Nat → Prop} {β : Option Nat} {m : Nat} {ex : List SV} {D : List (List α)} {vL vW : Value}
/-- Between the statements of ints: of the first list's last ones, ex, nothing is said. -/
structure CH (f : α → List Value) (k : Nat) (e es : TypeId) (w0 u : World) (X off : Nat) (K0 : Nat → Prop) (β : Option Nat) (m : Nat) (ex : List SV) (D : List (List α)) (vL vW : Value) : Prop where
  st : ∃ K βL SL E βW SW, P2 f k e es u X off K vL βL SL ex E vW βW SW (E ++ D) ∧ E.length = m ∧ (∀ j, K j → K0 j ∨ w0.heap.size ≤ j) ∧ (∀ g, β = some g → ¬ K g)
  fr : Fr (fun j => K0 j ∨ β = some j ∨ j = X) w0 u
  xr : XR w0 u X off 2
  lt : ∀ g, β = some g → g < w0.heap.size ∧ g ≠ X
theorem CH.len (h : CH f k e es w0 u X off K0 β m ex D vL vW) : (∃ a c, vL = .slice a (m + ex.length) c ∧ m + ex.length ≤ c ∧ c ≤ 9223372036854775807) ∧ ∃ a c, vW = .slice a (m + D.length) c ∧ m + D.length ≤ c ∧ c ≤ 9223372036854775807 := by
  obtain ⟨K, βL, SL, E, βW, SW, hP, rfl, -, -⟩ := h.st
  obtain ⟨a, c, h1, h2, h3⟩ := hP.kL.row.form
  obtain ⟨a', c', h4, h5, h6⟩ := hP.kW.row.form
  have e1 : (SL ++ ex).length = E.length + ex.length := by rw [List.length_append, hP.kL.len]
  have e2 : (SW ++ []).length = E.length + D.length := by rw [List.append_nil, hP.kW.len, List.length_append]
  rw [e1] at h1 h2
  rw [e2] at h4 h5
  exact ⟨⟨a, c, h1, h2, h3⟩, a', c', h4, h5, h6⟩
theorem CH.cells (h : CH f k e es w0 u X off K0 β m ex D vL vW) : u.cell? ⟨X, off, none⟩ = some vL ∧ u.cell? ⟨X, off + 1, none⟩ = some vW ∧ X < u.heap.size := by
  obtain ⟨K, βL, SL, E, βW, SW, hP, -, -, -⟩ := h.st
  exact ⟨hP.box.get (i := 0) vL rfl, hP.box.get (i := 1) vW rfl, hP.box.lt⟩
theorem CH.start {K : Nat → Prop} (h : PP f k e es w X off K m) (hβ : ∀ g, β = some g → ¬ K g ∧ g < w.heap.size ∧ g ≠ X) : ∃ vL vW, CH f k e es w w X off K β m [] [] vL vW := by
  obtain ⟨vL, βL, SL, vW, βW, SW, E, hP, hm⟩ := h
  exact ⟨vL, vW, ⟨K, βL, SL, E, βW, SW, by rw [List.append_nil]; exact hP, hm, fun j hj => .inl hj, fun g hg => (hβ g hg).1⟩, Fr.refl _ _, XR.refl _ _ _ _, fun g hg => (hβ g hg).2⟩
/-- The list that came in was written over, or something new was made. -/
theorem CH.mark (h : CH f k e es w0 u X off K0 β m ex D vL vW) (hF : Fr (fun j => β = some j) u u') : CH f k e es w0 u' X off K0 β m ex D vL vW := by
  obtain ⟨K, βL, SL, E, βW, SW, hP, hm, h1, h2⟩ := h.st
  have hX : ¬ β = some X := fun hb => (h.lt X hb).2 rfl
  exact ⟨⟨K, βL, SL, E, βW, SW, hP.fr hF (fun j hj hb => h2 j hb hj) hX, hm, h1, h2⟩, h.fr.trans (hF.mono (fun j _ hj => .inr (.inl hj))), h.xr.trans (XR.of_fr hF hX), h.lt⟩
theorem CH.new (h : CH f k e es w0 u X off K0 β m ex D vL vW) (hF : Fr (fun _ => False) u u') : CH f k e es w0 u' X off K0 β m ex D vL vW := h.mark (hF.mono (fun _ _ h => h.elim))
theorem CH.pushL {t : TypeId} (h : CH f k e es w0 u X off K0 β m ex D vL vW) (ht : Try.prog.underlying t = some (.slice es)) (hinf : (Try.prog.info? es).map (fun i => (i.zero, i.size, i.bytes)) = some (some (.slice none 0 0), 1, 24)) (hne : es ≠ e) (hm : m + ex.length ≤ 4000000000000) (s : SV) :
    ∃ a' c' w2, (∀ ty, (Builtin.append_ #[t, t] ty #[vL, .slice (some ⟨u.heap.size, 0, none⟩) 1 1]).run Try.prog (u.alloc (.cells #[.slice s.a s.n s.c] es)) = .ok (.slice a' (m + ex.length + 1) c') w2) ∧ w2.cell? ⟨X, off, none⟩ = some vL ∧ w2.frozen? ⟨X, off, none⟩ = false ∧
      CH f k e es w0 (w2.setCell ⟨X, off, none⟩ (.slice a' (m + ex.length + 1) c')) X off K0 β m (ex ++ [s]) D (.slice a' (m + ex.length + 1) c') vW ∧ Fr (fun j => j = X ∨ ∃ cs, u.heap[j]? = some (.cells cs es (0, 0))) u (w2.setCell ⟨X, off, none⟩ (.slice a' (m + ex.length + 1) c')) := by
  obtain ⟨K, βL, SL, E, βW, SW, hP, rfl, h1, h2⟩ := h.st
  have e1 : (SL ++ ex).length = E.length + ex.length := by rw [List.length_append, hP.kL.len]
  have F0 : Fr (fun _ => False) u (u.alloc (.cells #[.slice s.a s.n s.c] es)) := Fr.alloc _ _ _
  obtain ⟨v', w2, hr, hN⟩ := push_sv ht hinf (u.alloc (.cells #[.slice s.a s.n s.c] es)) βL vL (SL ++ ex) (hP.kL.row.fr F0 (fun _ _ h => h)) u.heap.size s (heap_alloc_new u _) (by omega)
  obtain ⟨c0, f0, g, q1, q2, q3, q4⟩ := hP.pushL hne F0 hN
  obtain ⟨gN, hN1, hN2, hN3⟩ := now_out hN
  have hb := hP.kL.blk
  obtain ⟨a', c', rfl⟩ := hN.slice
  have e2 : (SL ++ ex ++ [s]).length = E.length + ex.length + 1 := by rw [List.length_append, e1]; rfl
  rw [e2] at hr q1 q2 q3
  have s0 := h.fr.size
  refine ⟨a', c', w2, hr, c0, f0, ⟨⟨_, _, SL, E, βW, SW, q1, rfl, fun j hj => ?_, fun g' hg' hK => ?_⟩, h.fr.next q2 ?_, h.xr.trans q3, h.lt⟩, ?_⟩
  · rcases hj with hj | hj
    · exact h1 j hj
    · exact .inr (by omega)
  · rcases hK with hK | hK
    · exact h2 g' hg' hK
    · have := (h.lt g' hg').1
      omega
  · rintro j hj (hK | rfl)
    · rcases h1 j hK with h3 | h3
      · exact .inl h3
      · omega
    · exact .inr (.inr rfl)
  · exact (F0.mono (fun _ _ h => h.elim)).trans ((hN3.mono (fun j _ hj => .inr (hb j hj))).trans (Fr.setCell _ _ _ (.inl rfl)))
/-- A row of another type than those of the lists of lists stays. -/
theorem CH.keep {α' : Type} {f' : α' → List Value} {k' : Nat} {e' : TypeId} {γ : Option Nat} {v : Value} {xs : List α'} (h : CH f k e es w0 u X off K0 β m ex D vL vW) (hF : Fr (fun j => j = X ∨ ∃ cs, u.heap[j]? = some (.cells cs es (0, 0))) u u') (hne : es ≠ e') (hp : e' ≠ 32) (hS : SF f' k' u e' γ v xs) : SF f' k' u' e' γ v xs := by
  refine hS.fr hF (fun g hg hT => ?_)
  subst hg
  obtain ⟨cur, hc⟩ := hS.blk
  rcases hT with rfl | ⟨cs, hcs⟩
  · obtain ⟨K, βL, SL, E, βW, SW, hP, -, -, -⟩ := h.st
    obtain ⟨cs, hcs, -⟩ := hP.box
    rw [hc] at hcs
    injection hcs with q
    injection q with q1 q2 q3
    exact hp q2
  · rw [hc] at hcs
    injection hcs with q
    injection q with q1 q2 q3
    exact hne q2.symm
theorem CH.keepJ {α' : Type} {f' : α' → List Value} {k' : Nat} {e' : TypeId} {S : Nat → Prop} {s : SV} {xs : List α'} (h : CH f k e es w0 u X off K0 β m ex D vL vW) (hF : Fr (fun j => j = X ∨ ∃ cs, u.heap[j]? = some (.cells cs es (0, 0))) u u') (hne : es ≠ e') (hp : e' ≠ 32) (hS : HJ f' k' e' u S s xs) : HJ f' k' e' u' S s xs := by
  obtain ⟨h1, h2, h3, h4⟩ := hS
  refine ⟨h1, h2, h3, fun hn => ?_⟩
  obtain ⟨b, cur, e1, e2, e3, e4⟩ := h4 hn
  refine ⟨b, cur, e1, e2, hF.keeps e3 (fun hT => ?_), e4⟩
  rcases hT with rfl | ⟨cs, hcs⟩
  · obtain ⟨K, βL, SL, E, βW, SW, hP, -, -, -⟩ := h.st
    obtain ⟨cs, hcs, -⟩ := hP.box
    rw [e3] at hcs
    injection hcs with q
    injection q with q1 q2 q3
    exact hp q2
  · rw [e3] at hcs
    injection hcs with q
    injection q with q1 q2 q3
    exact hne q2.symm
/-- A copy of a list is appended to the second. -/
theorem CH.copy {t : TypeId} (h : CH f k e es w0 u X off K0 β m ex D vL vW) (ht : Try.prog.underlying t = some (.slice es)) (hinf : (Try.prog.info? es).map (fun i => (i.zero, i.size, i.bytes)) = some (some (.slice none 0 0), 1, 24)) (hne : es ≠ e) (hm : m + D.length ≤ 4000000000000) {U9 w10 : World} {gv g' : Nat} {s : SV} {xs : List α} (F9 : Fr (fun _ => False) u U9) (hgv : u.heap.size ≤ gv) (hS : SF f k w10 e (some g') s.val xs) (hg' : g' = gv ∨ g' = U9.heap.size) (F10 : Fr (· = gv) U9 w10) :
    w10.cell? ⟨X, off + 1, none⟩ = some vW ∧ X < w10.heap.size ∧ ∀ (U11 : World) (b : Nat), Fr (fun _ => False) w10 U11 → U11.heap[b]? = some (.cells #[.slice s.a s.n s.c] es (0, 0)) → ∃ a' c' w11, (∀ ty, (Builtin.append_ #[t, t] ty #[vW, .slice (some ⟨b, 0, none⟩) 1 1]).run Try.prog U11 = .ok (.slice a' (m + D.length + 1) c') w11) ∧ w11.cell? ⟨X, off + 1, none⟩ = some vW ∧ w11.frozen? ⟨X, off + 1, none⟩ = false ∧
      ∀ u', RowKit.Below w11.heap.size (w11.setCell ⟨X, off + 1, none⟩ (.slice a' (m + D.length + 1) c')) u' → CH f k e es w0 u' X off K0 β m ex (D ++ [xs]) vL (.slice a' (m + D.length + 1) c') ∧ Fr (fun j => j = X ∨ ∃ cs, u.heap[j]? = some (.cells cs es (0, 0))) u u' := by
  obtain ⟨K, βL, SL, E, βW, SW, hP, rfl, h1, h2⟩ := h.st
  have G10 : Fr (· = gv) u w10 := (F9.mono (fun _ _ h => h.elim)).trans F10
  have hXu := hP.box.lt
  have s9 := F9.size
  have s10 := G10.size
  have hgl := hS.lt g' rfl
  have P10 := hP.fr G10 (fun j hj h => by have := hP.old j hj; omega) (fun h => by omega)
  have P10' := P10.more (K' := fun j => K j ∨ (u.heap.size ≤ j ∧ j < w10.heap.size)) (fun j hj => .inl hj) (fun hX => by
    rcases hX with hX | hX
    · exact hP.nX hX
    · omega) (fun j hj => by
    rcases hj with hj | hj
    · exact P10.old j hj
    · exact hj.2)
  refine ⟨P10.box.get (i := 1) vW rfl, P10.box.lt, fun U11 b F11 hb => ?_⟩
  have e1 : (SW ++ []).length = E.length + D.length := by rw [List.append_nil, hP.kW.len, List.length_append]
  have hrow : SF sv 1 U11 es βW vW SW := by
    have := P10.kW.row.fr F11 (fun _ _ h => h)
    rwa [List.append_nil] at this
  rw [List.append_nil] at e1
  obtain ⟨v', w11, hr, hN⟩ := push_sv ht hinf U11 βW vW SW hrow b s hb (by omega)
  have hH : HJ f k e U11 (fun j => (K j ∨ (u.heap.size ≤ j ∧ j < w10.heap.size)) ∨ (w10.heap.size ≤ j ∧ j < U11.heap.size)) s xs := by
    refine SF.hj (a := s.a) (n := s.n) (c := s.c) (β := some g') (hS.fr F11 (fun _ _ h => h)) (fun q hq => ?_)
    cases hq
    refine .inl (.inr ⟨?_, hgl⟩)
    rcases hg' with hg' | hg' <;> omega
  obtain ⟨c0, f0, g, q1, q2, q3, q4⟩ := P10'.pushW hne F11 hH hN
  obtain ⟨gN, hN1, hN2, hN3⟩ := now_out hN
  have hbk := hP.kW.blk
  have hbW : ∀ q, βW = some q → q < u.heap.size := fun q hq => hP.old q (hP.kW.inK q hq)
  obtain ⟨a', c', rfl⟩ := hN.slice
  have e2 : (SW ++ [s]).length = E.length + D.length + 1 := by rw [List.length_append, e1]; rfl
  rw [e2] at hr q1 q2 q3
  have s0 := h.fr.size
  refine ⟨a', c', w11, hr, c0, f0, fun u' hu' => ?_⟩
  have hu2 : RowKit.Below (w11.setCell ⟨X, off + 1, none⟩ (.slice a' (E.length + D.length + 1) c')).heap.size (w11.setCell ⟨X, off + 1, none⟩ (.slice a' (E.length + D.length + 1) c')) u' := by simpa using hu'
  have FU : Fr (fun j => K j ∨ (u.heap.size ≤ j) ∨ j = X) u u' := by
    refine (G10.mono (fun j hj h => by omega)).trans ((q2.trans (Fr.of_below hu2)).mono (fun j _ hj => ?_))
    rcases hj with (hj | hj) | hj
    · exact .inl hj
    · exact .inr (.inl hj.1)
    · exact .inr (.inr hj)
  refine ⟨⟨⟨_, _, SL, E, _, _, by rw [← List.append_assoc]; exact q1.below hu2, rfl, fun j hj => ?_, fun g' hg' hK => ?_⟩, h.fr.next FU ?_, (h.xr.trans (XR.of_fr G10 (fun h => by omega))).trans (q3.trans (XR.of_fr (T := fun _ => False) (Fr.of_below hu2) (fun h => h))), h.lt⟩, ?_⟩
  · rcases hj with (hj | hj) | hj
    · exact h1 j hj
    · exact .inr (by omega)
    · exact .inr (by omega)
  · have hl := (h.lt g' hg').1
    rcases hK with (hK | hK) | hK
    · exact h2 g' hg' hK
    · omega
    · omega
  · rintro j hj (hK | hK | rfl)
    · rcases h1 j hK with h3 | h3
      · exact .inl h3
      · omega
    · omega
    · exact .inr (.inr rfl)
  · refine (G10.mono (fun j hj h => by omega)).trans ((F11.mono (fun _ _ h => h.elim)).trans ((hN3.mono (fun j _ hj => .inr (hbk j hj))).trans ((Fr.setCell _ _ _ (.inl rfl)).trans (Fr.of_below hu2))))
/-- Both lists are told. -/
theorem CH.close {s t : SV} {xs ys : List α} (h : CH f k e es w0 u X off K0 β m [s, t] [xs, ys] vL vW) (hs : HJ f k e u (fun j => β = some j ∨ w0.heap.size ≤ j) s xs) (ht : HJ f k e u (fun j => β = some j ∨ w0.heap.size ≤ j) t ys) (hX : X < w0.heap.size) : InO f k e es w0 u X off K0 β m := by
  obtain ⟨K, βL, SL, E, βW, SW, hP, hm, h1, h2⟩ := h.st
  have hP' := hP.more (K' := fun j => K j ∨ ((β = some j ∨ w0.heap.size ≤ j) ∧ j < u.heap.size)) (fun j hj => .inl hj) (fun hK => by
    rcases hK with hK | ⟨hK | hK, -⟩
    · exact hP.nX hK
    · exact (h.lt X hK).2 rfl
    · omega) (fun j hj => by
    rcases hj with hj | hj
    · exact hP.old j hj
    · exact hj.2)
  have up : ∀ {s : SV} {xs : List α}, HJ f k e u (fun j => β = some j ∨ w0.heap.size ≤ j) s xs → HJ f k e u (fun j => K j ∨ ((β = some j ∨ w0.heap.size ≤ j) ∧ j < u.heap.size)) s xs := by
    rintro s xs ⟨h1, h2, h3, h4⟩
    refine ⟨h1, h2, h3, fun hn => ?_⟩
    obtain ⟨b, cur, e1, e2, e3, e4⟩ := h4 hn
    exact ⟨b, cur, e1, .inr ⟨e2, block_lt e3⟩, e3, e4⟩
  refine ⟨_, ⟨vL, βL, SL ++ [s, t], vW, βW, SW, E ++ [xs, ys], ⟨hP'.box, hP'.kL.close2 (up hs) (up ht), hP'.kW, hP'.ne, hP'.nX, hP'.old⟩, by simp [hm]⟩, fun j hj => ?_, h.fr, h.xr⟩
  rcases hj with hj | ⟨hj | hj, -⟩
  · rcases h1 j hj with h3 | h3
    · exact .inl h3
    · exact .inr (.inr h3)
  · exact .inr (.inl hj)
  · exact .inr (.inr hj)
end

section
variable {ops : Array Oper} {o : Oper} {a : Act} {w : World} {K : Act → World → Prop} {Q : Exit → Act → World → Prop} {E : Prop}
/-- append of a whole list onto an empty one, in a region whose order is drawn. -/
theorem step_pushA {α : Type} {f : α → List Value} {k : Nat} (hz : Sz f k) {t e : TypeId} {z : Value} {bytes : Nat} (ht : Try.prog.underlying t = some (.slice e)) (hinf : (Try.prog.info? e).map (fun i => (i.zero, i.size, i.bytes)) = some (some z, k, bytes)) (hzs : z.cells.size = k)
    (hg : o.guard = none) (d x : Operand) (hop : o.op = Op.call { callee := Callee.builtin Builtin.append, args := #[d, x], argTypes := #[t, t] })
    (gv : Nat) (s : SV) (hv : a.eval d = .slice (some ⟨gv, 0, none⟩) 0 0) (hx : a.eval x = .slice s.a s.n s.c) (hR : w.heap[gv]? = some (.cells #[] e (0, 0))) (S : Nat → Prop) (ys : List α) (hs : HJ f k e w S s ys) (hn : roomy s.n bytes)
    (hK : ∀ (t : SV) w' g', SF f k w' e (some g') t.val ys → (g' = gv ∨ g' = w.heap.size) → Fr (· = gv) w w' → K (a.put o.dst (.slice (SV.a t) (SV.n t) (SV.c t))) w') :
    if Region.wanted o (yielded ops a.tmps) = true then Oper.wp Try.prog o a w K Q else E := by
  obtain ⟨v', w', g', hr, h1, h2, h3⟩ := push_all hz ht hinf hzs w gv hR S s ys hs hn
  obtain ⟨a', c', rfl, -⟩ := h1.form
  exact step_append_k hg d x t t hop _ _ hv hx (hr _) (hK ⟨a', _, c'⟩ w' g' h1 h2 h3)
theorem step_pushV {t : TypeId} (hg : o.guard = none) (d x : Operand) (hop : o.op = Op.call { callee := Callee.builtin Builtin.append, args := #[d, x], argTypes := #[t, t] })
    (va : Value) (g N : Nat) {P : Option Addr → Nat → World → Prop} (hv : a.eval d = va) (hx : a.eval x = .slice (some ⟨g, 0, none⟩) 1 1) (hY : ∃ a' c' w', (∀ ty, (Builtin.append_ #[t, t] ty #[va, .slice (some ⟨g, 0, none⟩) 1 1]).run Try.prog w = .ok (.slice a' N c') w') ∧ P a' c' w')
    (hK : ∀ a' c' w', P a' c' w' → K (a.put o.dst (.slice a' N c')) w') :
    if Region.wanted o (yielded ops a.tmps) = true then Oper.wp Try.prog o a w K Q else E := by
  obtain ⟨a', c', w', hr, hP⟩ := hY
  exact step_append_k hg d x t t hop _ _ hv hx (hr _) (hK a' c' w' hP)
end
end Go.Proofs.Ytkkklfnooeofcab
