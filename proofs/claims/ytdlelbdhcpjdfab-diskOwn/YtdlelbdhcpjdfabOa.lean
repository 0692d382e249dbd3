/-
  Rows of values, and append onto them.
-/
import Derived.Test.YtdlelbdhcpjdfabRow
import Derived.Test.YtdlelbdhcpjdfabApart
import Derived.Deep.DeepAppendWide
import Derived.Deep.RegionLaw
namespace Go.Proofs.Ytdlelbdhcpjdfab
open Go.RowKit
set_option linter.unusedVariables false

/-- Block g is a row of cap cells of type e, the first N of them vs. -/
def RowV (w : World) (g N cap : Nat) (e : TypeId) (vs : List Value) : Prop :=
  ∃ cur : Array Value, w.heap[g]? = some (.cells cur e (0, 0)) ∧ cur.toList.take N = vs ∧ vs.length = N ∧ N ≤ cap ∧ cap ≤ 9223372036854775807 ∧ cur.size = cap

theorem RowV.fr {S : Nat → Prop} {w w' : World} {g N cap : Nat} {e : TypeId} {vs : List Value} (h : RowV w g N cap e vs) (hF : Fr S w w') (hS : ¬ S g) : RowV w' g N cap e vs := by
  obtain ⟨cur, hh, r⟩ := h
  exact ⟨cur, hF.keeps hh hS, r⟩
theorem RowV.lt {w : World} {g N cap : Nat} {e : TypeId} {vs : List Value} (h : RowV w g N cap e vs) : g < w.heap.size := by
  obtain ⟨cur, hh, _⟩ := h
  exact block_lt hh
theorem RowV.cell {w : World} {g N cap : Nat} {e : TypeId} {vs : List Value} (h : RowV w g N cap e vs) (i : Nat) (hi : i < N) : w.cell? ⟨g, i, none⟩ = vs[i]? := by
  obtain ⟨cur, hh, ht, _⟩ := h
  rw [cell_row hh, ← ht, List.getElem?_take, if_pos hi]
  simp
theorem RowB.rowV {w : World} {g N cap : Nat} {ys : List Int} (h : RowB w g N cap ys) : RowV w g N cap 5 (ints ys) := by
  obtain ⟨cur, hh, ht, hl, r⟩ := h
  exact ⟨cur, hh, ht, by rw [ints_len]; exact hl, r⟩
theorem RowV.rowB {w : World} {g N cap : Nat} {ys : List Int} (h : RowV w g N cap 5 (ints ys)) : RowB w g N cap ys := by
  obtain ⟨cur, hh, ht, hl, r⟩ := h
  exact ⟨cur, hh, ht, by rw [ints_len] at hl; exact hl, r⟩
theorem RowB.shorter {w : World} {g N cap : Nat} {ys : List Int} (h : RowB w g N cap ys) (k : Nat) (hk : k ≤ N) : RowB w g k cap (ys.take k) := by
  obtain ⟨cur, hh, ht, hl, h1, h2, h3⟩ := h
  refine ⟨cur, hh, ?_, by simp; omega, by omega, h2, h3⟩
  rw [show ints (ys.take k) = (ints ys).take k from by simp [ints, List.map_take], ← ht, List.take_take, Nat.min_eq_left hk]

/-- nil, or a row. -/
def SRow (w : World) (e : TypeId) (β : Option Nat) (v : Value) (vs : List Value) : Prop :=
  match β with
  | none => v = .slice none 0 0 ∧ vs = []
  | some g => ∃ cap, v = .slice (some ⟨g, 0, none⟩) vs.length cap ∧ RowV w g vs.length cap e vs

theorem SRow.fr {S : Nat → Prop} {w w' : World} {e : TypeId} {β : Option Nat} {v : Value} {vs : List Value} (h : SRow w e β v vs) (hF : Fr S w w') (hS : ∀ g, β = some g → ¬ S g) : SRow w' e β v vs := by
  cases β with
  | none => exact h
  | some g =>
    obtain ⟨cap, hv, hR⟩ := h
    exact ⟨cap, hv, hR.fr hF (hS g rfl)⟩

theorem SRow.form {w : World} {e : TypeId} {β : Option Nat} {v : Value} {vs : List Value} (h : SRow w e β v vs) : ∃ a c, v = .slice a vs.length c := by
  cases β with
  | none =>
    obtain ⟨rfl, rfl⟩ := h
    exact ⟨none, 0, rfl⟩
  | some g =>
    obtain ⟨cap, rfl, _⟩ := h
    exact ⟨_, cap, rfl⟩

/-- What an append leaves: the same row, or a new one behind all that was there. -/
def Pushed (w w' : World) (e : TypeId) (β : Option Nat) (g' N cap' : Nat) (vs : List Value) : Prop :=
  RowV w' g' N cap' e vs ∧ ((β = some g' ∧ Fr (· = g') w w') ∨ (g' = w.heap.size ∧ Fr (fun _ => False) w w'))

theorem run_push {P : Program} (w : World) (t ty e : TypeId) (i : TypeInfo) (z : Value) (bytes : Nat) (ht : P.underlying t = some (.slice e)) (hi : P.info? e = some i) (hz : i.zero = some z) (hsz : i.size = 1) (hzs : z.cells.size = 1) (hby : i.bytes = bytes)
    (β : Option Nat) (v : Value) (vs : List Value) (hv : SRow w e β v vs) (ad : Addr) (m c : Nat) (news : List Value) (hl : news.length = m) (hnews : ∀ j u, news[j]? = some u → w.cell? (ad.add j) = some u) (h1 : ∀ u ∈ news, u.oneCell' = true)
    (hm : 0 < m) (h63 : vs.length + m ≤ 9223372036854775807) (hb : ((vs.length + m) + (vs.length + m) / 4 + 192) * bytes ≤ 281474976710656) :
    ∃ g' cap' w', (Builtin.append_ #[t, t] ty #[v, .slice (some ad) m c]).run P w = .ok (.slice (some ⟨g', 0, none⟩) (vs.length + m) cap') w' ∧ Pushed w w' e β g' (vs.length + m) cap' (vs ++ news) := by
  subst hby
  have hmx : vs.length + m ≤ maxLen := h63
  have hlm : news.length = m * i.size := by rw [hsz]; omega
  have newrow : ∀ old, RowV (w.drew.alloc (.cells ((vs ++ news).toArray ++ Builtin.zeroCells z.cells (grownCap w (vs.length + m) old e - (vs.length + m))) e)) w.heap.size (vs.length + m) (grownCap w (vs.length + m) old e) e (vs ++ news) := by
    intro old
    have hge := grownCap_ge w (vs.length + m) old e
    have hle := grownCap_le_maxLen w (vs.length + m) old e hmx
    refine ⟨_, heap_alloc_new w.drew _, ?_, by simp [hl], hge, hle, ?_⟩
    · rw [Array.toList_append, List.toList_toArray, List.take_append_of_le_length (by simp [hl]), List.take_of_length_le (by simp [hl])]
    · rw [Array.size_append, size_zeroCells, hzs]
      simp [hl]
      omega
  have newfr : ∀ o, Fr (fun _ => False) w (w.drew.alloc o) := fun o => (Fr.drew _ w).trans (Fr.alloc _ _ _)
  cases β with
  | none =>
    obtain ⟨rfl, rfl⟩ := hv
    have hr := run_append_nil (P := P) w t ty e i z ht hi hz ad m c news hlm hnews hm (by simp at h63; omega) (by
      simp only [List.length_nil, Nat.zero_add] at hb
      exact Nat.le_trans (Nat.mul_le_mul_right _ (by omega)) hb)
    have hn := newrow 0
    simp only [List.length_nil, Nat.zero_add, List.nil_append] at hn ⊢
    exact ⟨_, _, _, hr, hn, .inr ⟨rfl, newfr _⟩⟩
  | some g =>
    obtain ⟨cap, rfl, cur, hh, htk, hvl, hnc, hcm, hcs⟩ := hv
    by_cases hroom : vs.length + m ≤ cap
    · have hr := run_append_room (P := P) w t ty e i ht hi g vs.length cap cur hh ad m c news hlm hnews h1 hroom (by rw [hsz]; omega)
      rw [hsz, Nat.mul_one] at hr
      refine ⟨g, cap, _, hr, ⟨_, setRow_heap w g cur _ e _ hh, ?_, by simp [hl], hroom, hcm, ?_⟩, .inl ⟨rfl, Fr.setRow w g _ rfl⟩⟩
      · rw [List.toList_toArray, htk, List.take_append_of_le_length (by simp [hl]), List.take_of_length_le (by simp [hl])]
      · simp only [List.size_toArray, List.length_append, List.length_take, List.length_drop, Array.length_toList]
        omega
    · have holds : ∀ j u, vs[j]? = some u → w.cell? ((⟨g, 0, none⟩ : Addr).add j) = some u := by
        intro j u hj
        have hjl : j < vs.length := (List.getElem?_eq_some_iff.1 hj).1
        have ea : (⟨g, 0, none⟩ : Addr).add j = ⟨g, j, none⟩ := by
          by_cases h0 : j = 0
          · subst h0; simp [Addr.add]
          · simp [Addr.add, h0]
        rw [ea, RowV.cell (vs := vs) ⟨cur, hh, htk, hvl, hnc, hcm, hcs⟩ j hjl, hj]
      have hr := run_append_grow (P := P) w t ty e i z ht hi hz ⟨g, 0, none⟩ vs.length cap vs (by rw [hsz]; omega) holds ad m c news hlm hnews (by omega) (by omega) (growslice_fits_wide (by omega) hb)
      have hn := newrow cap
      rw [show vs.toArray ++ news.toArray = (vs ++ news).toArray from by simp] at hr
      exact ⟨_, _, _, hr, hn, .inr ⟨rfl, newfr _⟩⟩

theorem wpList_push {P : Program} (w : World) {ops : Array Oper} {rest : List Oper} {o : Oper} {a : Act} {Q : Exit → Act → World → Prop} (hgd : o.guard = none) (s x : Operand) (t : TypeId)
    (ho : o.op = .call { callee := .builtin .append, args := #[s, x], argTypes := #[t, t] }) (e : TypeId) (i : TypeInfo) (z : Value) (bytes : Nat) (ht : P.underlying t = some (.slice e)) (hi : P.info? e = some i) (hz : i.zero = some z) (hsz : i.size = 1) (hzs : z.cells.size = 1) (hby : i.bytes = bytes)
    (β : Option Nat) (v : Value) (vs : List Value) (N : Nat) (hN : Hid (vs.length = N)) (hs : a.eval s = v) (hv : Hid (SRow w e β v vs)) (ad : Addr) (m c : Nat) (news : List Value) (hx : a.eval x = .slice (some ad) m c) (hl : news.length = m) (hnews : Hid (∀ j u, news[j]? = some u → w.cell? (ad.add j) = some u)) (h1 : ∀ u ∈ news, u.oneCell' = true)
    (hm : 0 < m) (h63 : N + m ≤ 9223372036854775807) (hb : ((N + m) + (N + m) / 4 + 192) * bytes ≤ 281474976710656)
    (h : ∀ g' cap' w', Hid (Pushed w w' e β g' (N + m) cap' (vs ++ news)) → wpList P ops Q rest (a.put o.dst (.slice (some ⟨g', 0, none⟩) (N + m) cap')) w') : wpList P ops Q (o :: rest) a w := by
  obtain rfl := hN.out
  refine wpList_plain hgd fun K hK => ?_
  obtain ⟨g', cap', w', hr, h2⟩ := run_push (P := P) w t o.type e i z bytes ht hi hz hsz hzs hby β v vs hv.out ad m c news hl hnews.out h1 hm h63 hb
  unfold Oper.wp
  simp [execOp, ho, resolve, invoke, builtin, hs, hx, hr, Result.andThen]
  exact hK _ _ (h g' cap' w' h2)

theorem step_push {P : Program} {ops : Array Oper} {o : Oper} {a : Act} {w : World} {K : Act → World → Prop} {Q : Exit → Act → World → Prop} {E : Prop} (hgd : o.guard = none) (s x : Operand) (t : TypeId)
    (ho : o.op = .call { callee := .builtin .append, args := #[s, x], argTypes := #[t, t] }) (e : TypeId) (i : TypeInfo) (z : Value) (bytes : Nat) (ht : P.underlying t = some (.slice e)) (hi : P.info? e = some i) (hz : i.zero = some z) (hsz : i.size = 1) (hzs : z.cells.size = 1) (hby : i.bytes = bytes)
    (β : Option Nat) (v : Value) (vs : List Value) (N : Nat) (hN : Hid (vs.length = N)) (hs : a.eval s = v) (hv : Hid (SRow w e β v vs)) (ad : Addr) (m c : Nat) (news : List Value) (hx : a.eval x = .slice (some ad) m c) (hl : news.length = m) (hnews : Hid (∀ j u, news[j]? = some u → w.cell? (ad.add j) = some u)) (h1 : ∀ u ∈ news, u.oneCell' = true)
    (hm : 0 < m) (h63 : N + m ≤ 9223372036854775807) (hb : ((N + m) + (N + m) / 4 + 192) * bytes ≤ 281474976710656)
    (h : ∀ g' cap' w', Hid (Pushed w w' e β g' (N + m) cap' (vs ++ news)) → K (a.put o.dst (.slice (some ⟨g', 0, none⟩) (N + m) cap')) w') :
    if Region.wanted o (yielded ops a.tmps) = true then Oper.wp P o a w K Q else E := by
  obtain rfl := hN.out
  have hw : Region.wanted o (yielded ops a.tmps) = true := by simp [Region.wanted, hgd]
  rw [if_pos hw]
  obtain ⟨g', cap', w', hr, h2⟩ := run_push (P := P) w t o.type e i z bytes ht hi hz hsz hzs hby β v vs hv.out ad m c news hl hnews.out h1 hm h63 hb
  unfold Oper.wp
  simp [execOp, ho, resolve, invoke, builtin, hs, hx, hr, Result.andThen]
  exact h g' cap' w' h2

end Go.Proofs.Ytdlelbdhcpjdfab
