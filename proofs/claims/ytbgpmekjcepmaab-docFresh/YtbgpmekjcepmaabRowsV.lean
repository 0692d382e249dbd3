/-
  Rows of values; blocks told apart by their types.
-/
import Derived.Test.YtbgpmekjcepmaabRowsO
import Derived.Deep.DeepAppendWide
namespace Go.Proofs.Ytbgpmekjcepmaab
open Go.RowKit
set_option linter.unusedVariables false

/-- Block g is a row of cap cells of type e, the first N of them vs. -/
def RowV (w : World) (g N cap : Nat) (e : TypeId) (vs : List Value) : Prop :=
  ∃ cur : Array Value, w.heap[g]? = some (.cells cur e (0, 0)) ∧ cur.toList.take N = vs ∧ vs.length = N ∧ N ≤ cap ∧ cap ≤ 9223372036854775807 ∧ cur.size = cap

theorem RowV.fr {S : Nat → Prop} {w w' : World} {g N cap : Nat} {e : TypeId} {vs : List Value} (h : RowV w g N cap e vs) (hF : Fr S w w') (hS : ¬ S g) : RowV w' g N cap e vs := by
  obtain ⟨cur, hh, r⟩ := h
  exact ⟨cur, hF.keeps hh hS, r⟩
theorem RowV.lt {w : World} {g N cap : Nat} {e : TypeId} {vs : List Value} (h : RowV w g N cap e vs) : g < w.heap.size := by
  obtain ⟨cur, hh, _⟩ := h
  exact block_lt hh
theorem RowV.cell {w : World} {g N cap : Nat} {e : TypeId} {vs : List Value} (h : RowV w g N cap e vs) (i : Nat) (hi : i < N) : w.cell? ⟨g, i, none⟩ = vs[i]? := by
  obtain ⟨cur, hh, ht, _⟩ := h
  rw [cell_row hh, ← ht, List.getElem?_take, if_pos hi]
  simp
/-- nil, or a row. -/
def SRow (w : World) (e : TypeId) (β : Option Nat) (v : Value) (vs : List Value) : Prop :=
  match β with
  | none => v = .slice none 0 0 ∧ vs = []
  | some g => ∃ cap, v = .slice (some ⟨g, 0, none⟩) vs.length cap ∧ RowV w g vs.length cap e vs

theorem SRow.fr {S : Nat → Prop} {w w' : World} {e : TypeId} {β : Option Nat} {v : Value} {vs : List Value} (h : SRow w e β v vs) (hF : Fr S w w') (hS : ∀ g, β = some g → ¬ S g) : SRow w' e β v vs := by
  cases β with
  | none => exact h
  | some g =>
    obtain ⟨cap, hv, hR⟩ := h
    exact ⟨cap, hv, hR.fr hF (hS g rfl)⟩

theorem SRow.form {w : World} {e : TypeId} {β : Option Nat} {v : Value} {vs : List Value} (h : SRow w e β v vs) : ∃ a c, v = .slice a vs.length c := by
  cases β with
  | none =>
    obtain ⟨rfl, rfl⟩ := h
    exact ⟨none, 0, rfl⟩
  | some g =>
    obtain ⟨cap, rfl, _⟩ := h
    exact ⟨_, cap, rfl⟩

/-- What an append leaves: the same row, or a new one behind all that was there. -/
def Pushed (w w' : World) (e : TypeId) (β : Option Nat) (g' N cap' : Nat) (vs : List Value) : Prop :=
  RowV w' g' N cap' e vs ∧ ((β = some g' ∧ Fr (· = g') w w') ∨ (g' = w.heap.size ∧ Fr (fun _ => False) w w'))

theorem run_push {P : Program} (w : World) (t ty e : TypeId) (i : TypeInfo) (z : Value) (bytes : Nat) (ht : P.underlying t = some (.slice e)) (hi : P.info? e = some i) (hz : i.zero = some z) (hsz : i.size = 1) (hzs : z.cells.size = 1) (hby : i.bytes = bytes)
    (β : Option Nat) (v : Value) (vs : List Value) (hv : SRow w e β v vs) (ad : Addr) (m c : Nat) (news : List Value) (hl : news.length = m) (hnews : ∀ j u, news[j]? = some u → w.cell? (ad.add j) = some u) (h1 : ∀ u ∈ news, u.oneCell' = true)
    (hm : 0 < m) (h63 : vs.length + m ≤ 9223372036854775807) (hb : ((vs.length + m) + (vs.length + m) / 4 + 192) * bytes ≤ 281474976710656) :
    ∃ g' cap' w', (Builtin.append_ #[t, t] ty #[v, .slice (some ad) m c]).run P w = .ok (.slice (some ⟨g', 0, none⟩) (vs.length + m) cap') w' ∧ Pushed w w' e β g' (vs.length + m) cap' (vs ++ news) := by
  subst hby
  have hmx : vs.length + m ≤ maxLen := h63
  have hlm : news.length = m * i.size := by rw [hsz]; omega
  have newrow : ∀ old, RowV (w.drew.alloc (.cells ((vs ++ news).toArray ++ Builtin.zeroCells z.cells (grownCap w (vs.length + m) old e - (vs.length + m))) e)) w.heap.size (vs.length + m) (grownCap w (vs.length + m) old e) e (vs ++ news) := by
    intro old
    have hge := grownCap_ge w (vs.length + m) old e
    have hle := grownCap_le_maxLen w (vs.length + m) old e hmx
    refine ⟨_, heap_alloc_new w.drew _, ?_, by simp [hl], hge, hle, ?_⟩
    · rw [Array.toList_append, List.toList_toArray, List.take_append_of_le_length (by simp [hl]), List.take_of_length_le (by simp [hl])]
    · rw [Array.size_append, size_zeroCells, hzs]
      simp [hl]
      omega
  have newfr : ∀ o, Fr (fun _ => False) w (w.drew.alloc o) := fun o => (Fr.drew _ w).trans (Fr.alloc _ _ _)
  cases β with
  | none =>
    obtain ⟨rfl, rfl⟩ := hv
    have hr := run_append_nil (P := P) w t ty e i z ht hi hz ad m c news hlm hnews hm (by simp at h63; omega) (by
      simp only [List.length_nil, Nat.zero_add] at hb
      exact Nat.le_trans (Nat.mul_le_mul_right _ (by omega)) hb)
    have hn := newrow 0
    simp only [List.length_nil, Nat.zero_add, List.nil_append] at hn ⊢
    exact ⟨_, _, _, hr, hn, .inr ⟨rfl, newfr _⟩⟩
  | some g =>
    obtain ⟨cap, rfl, cur, hh, htk, hvl, hnc, hcm, hcs⟩ := hv
    by_cases hroom : vs.length + m ≤ cap
    · have hr := run_append_room (P := P) w t ty e i ht hi g vs.length cap cur hh ad m c news hlm hnews h1 hroom (by rw [hsz]; omega)
      rw [hsz, Nat.mul_one] at hr
      refine ⟨g, cap, _, hr, ⟨_, setRow_heap w g cur _ e _ hh, ?_, by simp [hl], hroom, hcm, ?_⟩, .inl ⟨rfl, Fr.setRow w g _ rfl⟩⟩
      · rw [List.toList_toArray, htk, List.take_append_of_le_length (by simp [hl]), List.take_of_length_le (by simp [hl])]
      · simp only [List.size_toArray, List.length_append, List.length_take, List.length_drop, Array.length_toList]
        omega
    · have holds : ∀ j u, vs[j]? = some u → w.cell? ((⟨g, 0, none⟩ : Addr).add j) = some u := by
        intro j u hj
        have hjl : j < vs.length := (List.getElem?_eq_some_iff.1 hj).1
        have ea : (⟨g, 0, none⟩ : Addr).add j = ⟨g, j, none⟩ := by
          by_cases h0 : j = 0
          · subst h0; simp [Addr.add]
          · simp [Addr.add, h0]
        rw [ea, RowV.cell (vs := vs) ⟨cur, hh, htk, hvl, hnc, hcm, hcs⟩ j hjl, hj]
      have hr := run_append_grow (P := P) w t ty e i z ht hi hz ⟨g, 0, none⟩ vs.length cap vs (by rw [hsz]; omega) holds ad m c news hlm hnews (by omega) (by omega) (growslice_fits_wide (by omega) hb)
      have hn := newrow cap
      rw [show vs.toArray ++ news.toArray = (vs ++ news).toArray from by simp] at hr
      exact ⟨_, _, _, hr, hn, .inr ⟨rfl, newfr _⟩⟩


/-- All blocks are as they were but for rows of elements of type t. -/
def TFr (t : TypeId) (w w' : World) : Prop := ∃ S, Fr S w w' ∧ ∀ g, S g → ∃ cur, w.heap[g]? = some (.cells cur t (0, 0))

theorem TFr.of_below {t : TypeId} {w w' : World} (h : Below w.heap.size w w') : TFr t w w' := ⟨fun _ => False, Fr.of_below h, fun g h => h.elim⟩
theorem TFr.keep {t e : TypeId} {w w' : World} (h : TFr t w w') {g : Nat} {cur : Array Value} (hg : w.heap[g]? = some (.cells cur e (0, 0))) (hne : e ≠ t) : w'.heap[g]? = some (.cells cur e (0, 0)) := by
  obtain ⟨S, hF, hS⟩ := h
  refine hF.keeps hg (fun hs => ?_)
  obtain ⟨c2, h2⟩ := hS g hs
  rw [hg] at h2
  have := Option.some.inj h2
  injection this with e1 e2
  exact hne e2
theorem TFr.size {t : TypeId} {w w' : World} (h : TFr t w w') : w.heap.size ≤ w'.heap.size := by
  obtain ⟨S, hF, hS⟩ := h
  exact hF.size
theorem RowE.tfr {t : TypeId} {w w' : World} {g N cap : Nat} {xs : List El} (h : RowE w g N cap xs) (hF : TFr t w w') (hne : 46 ≠ t) : RowE w' g N cap xs := by
  obtain ⟨cur, hh, r⟩ := h
  exact ⟨cur, hF.keep hh hne, r⟩
theorem SE.tfr {t : TypeId} {w w' : World} {β : Option Nat} {v : Value} {xs : List El} (h : SE w β v xs) (hF : TFr t w w') (hne : 46 ≠ t) : SE w' β v xs := by
  cases β with
  | none => exact h
  | some g =>
    obtain ⟨cap, hv, hR⟩ := h
    exact ⟨cap, hv, hR.tfr hF hne⟩
theorem SO.tfr {t : TypeId} {w w' : World} {β : Option Nat} {v : Value} {os : List OpE} (h : SO w β v os) (hF : TFr t w w') (hne : 29 ≠ t) : SO w' β v os := by
  cases β with
  | none => exact h
  | some g =>
    obtain ⟨cap, hv, cur, hh, r⟩ := h
    exact ⟨cap, hv, cur, hF.keep hh hne, r⟩
theorem SRow.tfr {t e : TypeId} {w w' : World} {β : Option Nat} {v : Value} {vs : List Value} (h : SRow w e β v vs) (hF : TFr t w w') (hne : e ≠ t) : SRow w' e β v vs := by
  cases β with
  | none => exact h
  | some g =>
    obtain ⟨cap, hv, cur, hh, r⟩ := h
    exact ⟨cap, hv, cur, hF.keep hh hne, r⟩
theorem SRow.below {e : TypeId} {w w' : World} {β : Option Nat} {v : Value} {vs : List Value} (h : SRow w e β v vs) (hb : Below w.heap.size w w') : SRow w' e β v vs :=
  h.fr (S := fun _ => False) (Fr.of_below hb) (fun _ _ h => h)
theorem SRow.lt {e : TypeId} {w : World} {β : Option Nat} {v : Value} {vs : List Value} (h : SRow w e β v vs) : ∀ g, β = some g → g < w.heap.size := by
  rintro g rfl
  obtain ⟨cap, hv, hR⟩ := h
  exact hR.lt

theorem Try.infoL : (Try.prog.info? 22).map (fun i => (i.zero, i.size, i.bytes)) = some (some (.slice none 0 0), 1, 24) := by kernel_rfl

/-- append of one text onto a list of texts. -/
theorem texts_push {w wr : World} {β : Option Nat} {v : Value} {vs : List Value} (h : SRow wr 22 β v vs) (hb : ∀ g, β = some g → w.heap.size ≤ g) (hB : Below w.heap.size w wr) (hn : vs.length ≤ 10000) (a : Option Addr) (n c : Nat) :
    ∃ v' w3 β', (∀ ty, (Builtin.append_ #[54, 54] ty #[v, .slice (some ⟨wr.heap.size, 0, none⟩) 1 1]).run Try.prog (wr.alloc (.cells #[.slice a n c] 22)) = .ok v' w3) ∧
      SRow w3 22 β' v' (vs ++ [.slice a n c]) ∧ (∀ g, β' = some g → w.heap.size ≤ g) ∧ TFr 22 wr w3 ∧ Below w.heap.size w w3 := by
  obtain ⟨i0, hi0, hz0, hz1, hz2⟩ := info_parts Try.infoL
  have B1 : Below wr.heap.size wr (wr.alloc (.cells #[.slice a n c] 22)) := (Below.refl _ _).alloc (Nat.le_refl _) _
  have hnews : ∀ j u, [Value.slice a n c][j]? = some u → (wr.alloc (.cells #[.slice a n c] 22)).cell? ((⟨wr.heap.size, 0, none⟩ : Addr).add j) = some u := by
    intro j u hj
    rw [add_lit, Nat.zero_add, cell_row (heap_alloc_new _ _)]
    simpa using hj
  have run := fun ty => run_push (P := Try.prog) (wr.alloc (.cells #[.slice a n c] 22)) 54 ty 22 i0 (.slice none 0 0) 24 Try.underlying54 hi0 hz0 hz1 rfl hz2 β v vs (h.below B1) ⟨wr.heap.size, 0, none⟩ 1 1 [.slice a n c] rfl hnews (by intro u hu; simp at hu; subst hu; rfl) (by omega) (by omega) (by omega)
  obtain ⟨g', cap', w3, hr, hP, hF⟩ := run 0
  have hl : (vs ++ [Value.slice a n c]).length = vs.length + 1 := by simp
  refine ⟨_, w3, some g', fun ty => ?_, ⟨cap', by rw [hl], by rw [hl]; exact hP⟩, ?_, ?_, ?_⟩
  · have : ∀ ty, Builtin.append_ #[54, 54] ty #[v, .slice (some ⟨wr.heap.size, 0, none⟩) 1 1] = Builtin.append_ #[54, 54] 0 #[v, .slice (some ⟨wr.heap.size, 0, none⟩) 1 1] := fun _ => rfl
    rw [this ty]
    exact hr
  · intro g hg
    obtain rfl := Option.some.inj hg
    rcases hF with ⟨hF, _⟩ | ⟨hF, _⟩
    · exact hb _ hF
    · rw [hF]
      have := B1.size
      have := hB.size
      omega
  · rcases hF with ⟨hF1, hF2⟩ | ⟨hF1, hF2⟩
    · refine ⟨fun k => k = g', (Fr.of_below B1).trans hF2, ?_⟩
      rintro g rfl
      subst hF1
      obtain ⟨cap, -, cur, hh, -⟩ := h
      exact ⟨cur, hh⟩
    · exact ⟨fun _ => False, (Fr.of_below B1).trans hF2, fun g h => h.elim⟩
  · have hB2 : Below w.heap.size w (wr.alloc (.cells #[.slice a n c] 22)) := hB.trans (B1.mono hB.size)
    rcases hF with ⟨hF1, hF2⟩ | ⟨hF1, hF2⟩
    · exact hB2.trans (hF2.below hB2.size (fun k hk => by rw [hk]; exact hb _ hF1))
    · exact hB2.trans (hF2.below hB2.size (fun k hk => hk.elim))

end Go.Proofs.Ytbgpmekjcepmaab
