/-
  ScriptLines: what is written.
-/
import Derived.Test.YtplmhilkehkeiaaDoorLyh
namespace Go.Proofs.YtplmhilkehkeiaaDoor
open Go.RowKit
set_option linter.unusedVariables false

theorem lit_rb (w : World) : RB (w.alloc (.cells #[.int .u8 255, .int .u8 238] 5)) (some ⟨w.heap.size, 0, none⟩) 2 [255, 238] := by
  refine ⟨rfl, .inr ⟨w.heap.size, rfl, by simp, fun i hi => ?_⟩⟩
  rw [cell_row (heap_alloc_new _ _)]
  match i, hi with
  | 0, _ => rfl
  | 1, _ => rfl
  | n + 2, h => exact absurd h (by simp)
theorem mark_step {L : List Int} {i : Nat} (y : Int) (hi : i < L.length) : (List.replicate i y ++ L.drop i).set i y = List.replicate (i + 1) y ++ L.drop (i + 1) := by
  rw [List.set_append_right _ _ (by simp), List.length_replicate, Nat.sub_self, List.drop_eq_getElem_cons hi, List.set_cons_zero, List.replicate_succ']
  simp
theorem cl_bc (xs : List Int) : cl bc xs = xs.map (fun x => Value.int .u8 x) := by
  induction xs with
  | nil => rfl
  | cons x r ih => rw [cl_cons, ih]; rfl
theorem SF.setB {w : World} {g : Nat} {v : Value} {xs : List Int} (h : SF bc 1 w 5 (some g) v xs) (i : Nat) (hi : i < xs.length) (y : Int) : SF bc 1 (w.setCell ⟨g, i, none⟩ (.int .u8 y)) 5 (some g) v (xs.set i y) := by
  obtain ⟨cap, rfl, cur, hh, ht, hl, h1, h2, h3⟩ := h
  refine ⟨cap, by simp, cur.set i (.int .u8 y), ?_, ?_, rfl, by simpa using h1, h2, by simpa using h3⟩
  · rw [set_row hh i]
    simp
  · rw [cl_bc] at ht ⊢
    rw [List.length_set, List.take_set, ht]
    simp [List.map_set]
/-- A byte of the entry's row set. -/
theorem Ob.set {w : World} {lo x : Nat} {E : En} {a : Option Addr} {m c : Nat} {t : List Int} (h : Ob w lo x E a m c t) (i : Nat) (hi : i < m) : ∃ g, a = some ⟨g, 0, none⟩ ∧ lo ≤ g ∧ g < x ∧ w.cell? ⟨g, i, none⟩ = some (.int .u8 (t.getD i 0)) ∧ w.frozen? ⟨g, i, none⟩ = false ∧ g < w.heap.size ∧ ∀ y, Ob (w.setCell ⟨g, i, none⟩ (.int .u8 y)) lo x E a m c (t.set i y) := by
  have hl := h.len
  obtain ⟨β, h1, h2⟩ := h.row
  cases β with
  | none => obtain ⟨e, e2⟩ := h1; rw [e2] at hl; simp at hl; omega
  | some g =>
    have hg := h2 g rfl
    have hS := h1
    obtain ⟨cap, hv, hR⟩ := h1
    injection hv with hv1 hv2 hv3
    have hc := hR.cell sz_bc i 0 (by omega) (by omega)
    obtain ⟨cur, hh, -⟩ := hR
    refine ⟨g, hv1, hg.1, hg.2, ?_, frozen_row hh i, block_lt hh, fun y => ⟨?_, ⟨some g, hS.setB i (by omega) y, h2⟩, h.le⟩⟩
    · rw [Nat.mul_one, Nat.add_zero] at hc
      rw [hc]
      simp [bc, show i < t.length by omega]
    · exact (Fr.setCell (S := (· = g)) w ⟨g, i, none⟩ (.int .u8 y) rfl).keeps h.ent (fun e => by have : x = g := e; omega)

section
variable {w wr : World} {E : En} {m lb xb la xa lf xf lt xt : Nat} {ab aa af at' : Option Addr} {cb ca cf ct : Nat} {ta tt : List Int}
theorem LS.seta (h : LS w wr E m lb xb la xa lf xf lt xt ab aa af at' cb ca cf ct ta tt) (i : Nat) (hi : i < m) : ∃ g, aa = some ⟨g, 0, none⟩ ∧ wr.cell? ⟨g, i, none⟩ = some (.int .u8 (ta.getD i 0)) ∧ wr.frozen? ⟨g, i, none⟩ = false ∧ g < wr.heap.size ∧ ∀ y, LS w (wr.setCell ⟨g, i, none⟩ (.int .u8 y)) E m lb xb la xa lf xf lt xt ab aa af at' cb ca cf ct (ta.set i y) tt := by
  obtain ⟨g, h1, h2, h3, h4, h5, h6, h7⟩ := h.a.set i hi
  obtain ⟨o1, o2, o3, o4, o5⟩ := h.o
  have := h.b.le; have := h.a.le; have := h.f.le; have := h.t.le
  refine ⟨g, h1, h4, h5, h6, fun y => ?_⟩
  have hF : Fr (· = g) wr (wr.setCell ⟨g, i, none⟩ (.int .u8 y)) := Fr.setCell wr ⟨g, i, none⟩ (.int .u8 y) rfl
  exact ⟨h.bel.setCell (show w.heap.size ≤ g by omega) _, h.b.fr hF (fun k a b e => by omega), h7 y, h.f.fr hF (fun k a b e => by omega), h.t.fr hF (fun k a b e => by omega), o1, o2, o3, o4, by simpa using o5⟩
theorem LS.sett (h : LS w wr E m lb xb la xa lf xf lt xt ab aa af at' cb ca cf ct ta tt) (i : Nat) (hi : i < m) : ∃ g, at' = some ⟨g, 0, none⟩ ∧ lt ≤ g ∧ g < xt ∧ wr.cell? ⟨g, i, none⟩ = some (.int .u8 (tt.getD i 0)) ∧ wr.frozen? ⟨g, i, none⟩ = false ∧ g < wr.heap.size ∧ ∀ y, LS w (wr.setCell ⟨g, i, none⟩ (.int .u8 y)) E m lb xb la xa lf xf lt xt ab aa af at' cb ca cf ct ta (tt.set i y) := by
  obtain ⟨g, h1, h2, h3, h4, h5, h6, h7⟩ := h.t.set i hi
  obtain ⟨o1, o2, o3, o4, o5⟩ := h.o
  have := h.b.le; have := h.a.le; have := h.f.le; have := h.t.le
  refine ⟨g, h1, h2, h3, h4, h5, h6, fun y => ?_⟩
  have hF : Fr (· = g) wr (wr.setCell ⟨g, i, none⟩ (.int .u8 y)) := Fr.setCell wr ⟨g, i, none⟩ (.int .u8 y) rfl
  exact ⟨h.bel.setCell (show w.heap.size ≤ g by omega) _, h.b.fr hF (fun k a b e => by omega), h.a.fr hF (fun k a b e => by omega), h.f.fr hF (fun k a b e => by omega), h7 y, o1, o2, o3, o4, by simpa using o5⟩

/-- The list that was lengthened: all 17. -/
def GL (wr : World) (la xa xt g m : Nat) : Prop := ((la ≤ g ∧ g < xa) ∨ xt < g) ∧ g < wr.heap.size ∧ ∀ i, i < m + 2 → wr.cell? ⟨g, i, none⟩ = some (.int .u8 17)
theorem GL.fr {wu : World} {g : Nat} {S : Nat → Prop} (h : GL wr la xa xt g m) (hF : Fr S wr wu) (hS : ¬ S g) : GL wu la xa xt g m :=
  ⟨h.1, Nat.lt_of_lt_of_le h.2.1 hF.size, fun i hi => (hF.cell (p := ⟨g, i, none⟩) h.2.1 hS).trans (h.2.2 i hi)⟩

/-- The entry a once it has been written over and lengthened. -/
def AW (w : World) (la xa : Nat) (E : En) (a : Option Addr) (m c : Nat) : Prop := w.heap[xa]? = some (.cells (ecell E (.slice a m c)) 25 (0, 0)) ∧ (m = 0 ∨ ∃ g, a = some ⟨g, 0, none⟩ ∧ la ≤ g ∧ g < xa ∧ g < w.heap.size ∧ ∀ i, i < m → w.cell? ⟨g, i, none⟩ = some (.int .u8 17))
theorem AW.fr {wu : World} {S : Nat → Prop} (h : AW wr la xa E aa m ca) (hF : Fr S wr wu) (hS : ∀ k, la ≤ k → k ≤ xa → ¬ S k) (hle : la ≤ xa) : AW wu la xa E aa m ca := by
  refine ⟨hF.keeps h.1 (hS xa hle (Nat.le_refl _)), h.2.imp id ?_⟩
  rintro ⟨g, h1, h2, h3, h4, h5⟩
  exact ⟨g, h1, h2, h3, Nat.lt_of_lt_of_le h4 hF.size, fun i hi => (hF.cell (p := ⟨g, i, none⟩) h4 (hS g h2 (Nat.le_of_lt h3))).trans (h5 i hi)⟩

/-- What the law holds behind the lengthening. -/
structure LT (w wr : World) (E : En) (m lb xb la xa lf xf lt xt : Nat) (ab aa af at' : Option Addr) (cb ca cf ct g : Nat) (tt : List Int) : Prop where
  bel : Below w.heap.size w wr
  b : Ob wr lb xb E ab m cb (bI E.bytes)
  a : AW wr la xa E aa m ca
  f : Ob wr lf xf ({ kind := 13, site := 1, bytes := [255, 238] } : En) af 2 cf [255, 238]
  t : Ob wr lt xt E at' m ct tt
  g : GL wr la xa xt g m
  o : w.heap.size ≤ lb ∧ xb < la ∧ la ≤ xa ∧ xa < lf ∧ xf < lt ∧ xt < wr.heap.size

theorem LT.to {wu : World} {g : Nat} (h : LT w wr E m lb xb la xa lf xf lt xt ab aa af at' cb ca cf ct g tt) (hb : Below wr.heap.size wr wu) : LT w wu E m lb xb la xa lf xf lt xt ab aa af at' cb ca cf ct g tt := by
  obtain ⟨o1, o2, o3, o4, o5, o6⟩ := h.o
  have := h.b.le; have := h.f.le; have := h.t.le
  have := hb.size
  have hF : Fr (fun _ => False) wr wu := Fr.of_below hb
  exact ⟨h.bel.trans (hb.mono (by omega)), h.b.fr hF (fun _ _ _ h => h), h.a.fr hF (fun _ _ _ h => h) o3, h.f.fr hF (fun _ _ _ h => h), h.t.fr hF (fun _ _ _ h => h), h.g.fr hF (fun h => h), o1, o2, o3, o4, o5, by omega⟩
theorem LT.sett {g0 : Nat} (h : LT w wr E m lb xb la xa lf xf lt xt ab aa af at' cb ca cf ct g0 tt) (i : Nat) (hi : i < m) : ∃ g, at' = some ⟨g, 0, none⟩ ∧ wr.cell? ⟨g, i, none⟩ = some (.int .u8 (tt.getD i 0)) ∧ wr.frozen? ⟨g, i, none⟩ = false ∧ g < wr.heap.size ∧ ∀ y, LT w (wr.setCell ⟨g, i, none⟩ (.int .u8 y)) E m lb xb la xa lf xf lt xt ab aa af at' cb ca cf ct g0 (tt.set i y) := by
  obtain ⟨g, h1, h2, h3, h4, h5, h6, h7⟩ := h.t.set i hi
  obtain ⟨o1, o2, o3, o4, o5, o6⟩ := h.o
  have := h.b.le; have := h.f.le; have := h.t.le
  refine ⟨g, h1, h4, h5, h6, fun y => ?_⟩
  have hF : Fr (· = g) wr (wr.setCell ⟨g, i, none⟩ (.int .u8 y)) := Fr.setCell wr ⟨g, i, none⟩ (.int .u8 y) rfl
  have hg0 := h.g.1
  exact ⟨h.bel.setCell (show w.heap.size ≤ g by omega) _, h.b.fr hF (fun k a b e => by omega), h.a.fr hF (fun k a b e => by omega) o3, h.f.fr hF (fun k a b e => by omega), h7 y, h.g.fr hF (fun e => by have : g0 = g := e; omega), o1, o2, o3, o4, o5, by simpa using o6⟩

theorem LS.push (h : LS w wr E m lb xb la xa lf xf lt xt ab aa af at' cb ca cf ct (List.replicate m 17) tt) (hm : m ≤ 2000000) :
    ∃ g c w', (∀ ty, (Builtin.append_ #[22, 22] ty #[.slice aa m ca, .slice (some ⟨wr.heap.size, 0, none⟩) 2 2]).run Tryd.prog (wr.alloc (.cells #[.int .u8 17, .int .u8 17] 5)) = .ok (.slice (some ⟨g, 0, none⟩) (m + 2) c) w') ∧
      Hid (LT w w' E m lb xb la xa lf xf lt xt ab aa af at' cb ca cf ct g tt) := by
  obtain ⟨o1, o2, o3, o4, o5⟩ := h.o
  have := h.b.le; have hla := h.a.le; have := h.f.le; have := h.t.le
  have hl := h.a.len
  obtain ⟨i0, hi0, hz0, hz1, hz2⟩ := info_parts' Tryd.infoB
  obtain ⟨β, hS, hg⟩ := h.a.row
  have hA : Fr (fun _ => False) wr (wr.alloc (.cells #[.int .u8 17, .int .u8 17] 5)) := Fr.alloc _ _ _
  have hS' := hS.fr hA (fun _ _ h => h)
  obtain ⟨v', w', hr, hN⟩ := run_pushF sz_bc (P := Tryd.prog) (wr.alloc (.cells #[.int .u8 17, .int .u8 17] 5)) 22 0 5 i0 (.int .u8 0) 1 Tryd.underlying22 hi0 hz0 hz1 rfl hz2 β _ _ hS' ⟨wr.heap.size, 0, none⟩ 2 2 [17, 17] rfl (fun j u hj => by
    rw [add_lit, Nat.zero_add, cell_row (heap_alloc_new _ _)]
    simpa [cl, bc] using hj) (by omega) (by rw [hl]; omega) (by rw [hl]; omega)
  obtain ⟨g, hG, hor⟩ := hN
  obtain ⟨cap, hv, hR⟩ := hG
  have hlen : (List.replicate m (17 : Int) ++ [17, 17]).length = m + 2 := by simp
  have hall : ∀ i, i < m + 2 → w'.cell? ⟨g, i, none⟩ = some (.int .u8 17) := by
    intro i hi
    have hc := hR.cell sz_bc i 0 (by rw [hlen]; exact hi) (by omega)
    rw [Nat.mul_one, Nat.add_zero] at hc
    rw [hc]
    have : (List.replicate m (17 : Int) ++ [17, 17])[i]'(by rw [hlen]; exact hi) = 17 := by
      have e : List.replicate m (17 : Int) ++ [17, 17] = List.replicate (m + 2) 17 := by rw [show ([17, 17] : List Int) = List.replicate 2 17 from rfl, List.replicate_append_replicate]
      simp [e]
    rw [this]
    rfl
  have hglt := hR.lt
  rw [hlen] at hv
  subst hv
  refine ⟨g, cap, w', fun ty => hr, ?_⟩
  rcases hor with ⟨hb, hF⟩ | ⟨hb, hF⟩
  · have hgg := hg g hb
    have hFF : Fr (· = g) wr w' := (hA.mono (fun _ _ h => h.elim)).trans hF
    have hsz := hFF.size
    refine ⟨h.bel.trans (hFF.below (by omega) (fun k hk => by have : k = g := hk; omega)), h.b.fr hFF (fun k a b e => by have : k = g := e; omega), ⟨hFF.keeps h.a.ent (fun e => by have : xa = g := e; omega), .inr ⟨g, ?_, hgg.1, hgg.2, hglt, fun i hi => hall i (by omega)⟩⟩, h.f.fr hFF (fun k a b e => by have : k = g := e; omega), h.t.fr hFF (fun k a b e => by have : k = g := e; omega), ⟨.inl hgg, hglt, hall⟩, o1, o2, hla, o3, o4, by omega⟩
    subst hb
    obtain ⟨cap0, hv0, -⟩ := hS
    injection hv0
  · have hFF : Fr (fun _ => False) wr w' := hA.trans hF
    have hsz := hFF.size
    have hb' : g = wr.heap.size + 1 := by rw [hb]; simp
    refine ⟨h.bel.trans (hFF.below (by omega) (fun k hk => hk.elim)), h.b.fr hFF (fun _ _ _ h => h), ⟨hFF.keeps h.a.ent (fun h => h), ?_⟩, h.f.fr hFF (fun _ _ _ h => h), h.t.fr hFF (fun _ _ _ h => h), ⟨.inr (by omega), hglt, hall⟩, o1, o2, hla, o3, o4, by omega⟩
    by_cases hm0 : m = 0
    · exact .inl hm0
    · obtain ⟨ga, q1, q2, q3, -, -, q6, -⟩ := h.a.set 0 (by omega)
      refine .inr ⟨ga, q1, q2, q3, Nat.lt_of_lt_of_le q6 hsz, fun i hi => ?_⟩
      obtain ⟨ga', r1, -, -, r4, -, r6, -⟩ := h.a.set i hi
      have r2 : ga = ga' := by
        have h1 := congrArg (fun x : Option Addr => (x.getD ⟨0, 0, none⟩).block) (q1.symm.trans r1)
        exact h1
      subst r2
      refine (hFF.cell (p := ⟨ga, i, none⟩) r6 (fun h => h)).trans (r4.trans ?_)
      have e : (List.replicate m (17 : Int)).getD i 0 = 17 := by
        rw [List.getD_eq_getElem?_getD, List.getElem?_replicate, if_pos hi]
        rfl
      rw [e]
end

end Go.Proofs.YtplmhilkehkeiaaDoor
