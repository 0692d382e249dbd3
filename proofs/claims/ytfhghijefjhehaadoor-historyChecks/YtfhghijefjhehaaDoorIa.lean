/-
  The tale in memory.
-/
import Derived.Test.YtfhghijefjhehaaDoorHw
import Derived.Test.YtfhghijefjhehaaDoorHh
namespace Go.Proofs.YtfhghijefjhehaaDoor
open Go.RowKit
set_option linter.unusedVariables false

/-- A deed: the edit, the element. -/
structure Dd where
  e : Ed
  c : Int
  l : Int
  s : Int
def nic (n : Nat) : List Value := [.int .i64 (n : Int)]
def ddc (d : Dd) : List Value := [.int .i64 d.e.tag, .int .i64 d.e.o.kind, .int .i64 d.e.o.pos, .int .u8 d.e.o.ch, .int .i64 d.e.o.cl, .int .i64 d.e.o.sq, .int .u8 d.c, .int .i64 d.l, .int .i64 d.s]
theorem szN : Sz nic 1 := fun n => ⟨rfl, fun v hv => by simp [nic] at hv; subst hv; rfl⟩
theorem szD : Sz ddc 9 := fun d => ⟨rfl, fun v hv => by
  simp only [ddc, List.mem_cons, List.not_mem_nil, or_false] at hv
  rcases hv with rfl | rfl | rfl | rfl | rfl | rfl | rfl | rfl | rfl <;> rfl⟩

inductive Ls where
  | ns (l : List Nat)
  | ds (l : List Dd)
def Ls.len : Ls → Nat
  | .ns l => l.length
  | .ds l => l.length
def Ls.is (w : World) (β : Option Nat) (v : Value) : Ls → Prop
  | .ns l => SF nic 1 w 3 β v l
  | .ds l => SF ddc 9 w 89 β v l
theorem Ls.fr {w w' : World} {β : Option Nat} {v : Value} {S : Nat → Prop} {s : Ls} (h : s.is w β v) (hF : Fr S w w') (hS : ∀ g, β = some g → ¬ S g) : s.is w' β v := by
  cases s with
  | ns l => exact SF.fr h hF hS
  | ds l => exact SF.fr h hF hS
theorem Ls.form {w : World} {β : Option Nat} {v : Value} {s : Ls} (h : s.is w β v) : ∃ a c, v = .slice a s.len c ∧ s.len ≤ c ∧ c ≤ 9223372036854775807 := by
  cases s with
  | ns l => exact SF.form h
  | ds l => exact SF.form h
theorem Ls.lt {w : World} {β : Option Nat} {v : Value} {s : Ls} (h : s.is w β v) : ∀ g, β = some g → g < w.heap.size := by
  cases s with
  | ns l => exact SF.lt h
  | ds l => exact SF.lt h

def upd {α : Type} (S : Nat → α) (i : Nat) (s : α) : Nat → α := fun j => if j = i then s else S j
theorem upd_same {α : Type} (S : Nat → α) (i : Nat) (s : α) : upd S i s i = s := by simp [upd]
theorem upd_ne {α : Type} (S : Nat → α) {i j : Nat} (s : α) (h : j ≠ i) : upd S i s j = S j := by simp [upd, h]

/-- The tale at block x: its lists S, at the rows L. -/
structure TL (w : World) (x : Nat) (C : Int) (vL vE : Value) (S : Nat → Ls) (L : Nat → Option Nat) : Prop where
  blk : ∃ cur : Array Value, w.heap[x]? = some (.cells cur 69 (0, 0)) ∧ cur.size = 198 ∧ cur[0]? = some (.int .i64 C) ∧ cur[1]? = some vL ∧ cur[2]? = some vE ∧ ∀ i, i < 195 → ∃ v, cur[3 + i]? = some v ∧ (S i).is w (L i) v
  inj : ∀ i j g, i < 195 → j < 195 → L i = some g → L j = some g → i = j
  far : ∀ i g, i < 195 → L i = some g → x < g

section
variable {w w' : World} {x : Nat} {C : Int} {vL vE : Value} {S : Nat → Ls} {L : Nat → Option Nat}
theorem TL.lt (h : TL w x C vL vE S L) : x < w.heap.size := by
  obtain ⟨cur, hh, -⟩ := h.blk
  exact block_lt hh
theorem TL.old (h : TL w x C vL vE S L) {i g : Nat} (hi : i < 195) (hg : L i = some g) : g < w.heap.size := by
  obtain ⟨cur, -, -, -, -, -, hs⟩ := h.blk
  obtain ⟨v, -, hv⟩ := hs i hi
  exact Ls.lt hv g hg
theorem TL.fr {T : Nat → Prop} (h : TL w x C vL vE S L) (hF : Fr T w w') (hx : ¬ T x) (hT : ∀ i g, i < 195 → L i = some g → ¬ T g) : TL w' x C vL vE S L := by
  obtain ⟨cur, hh, h1, h2, h3, h4, hs⟩ := h.blk
  refine ⟨⟨cur, hF.keeps hh hx, h1, h2, h3, h4, fun i hi => ?_⟩, h.inj, h.far⟩
  obtain ⟨v, hv, hi'⟩ := hs i hi
  exact ⟨v, hv, Ls.fr hi' hF (fun g hg => hT i g hi hg)⟩
theorem TL.below (h : TL w x C vL vE S L) (hb : Below w.heap.size w w') : TL w' x C vL vE S L := h.fr (T := fun _ => False) (Fr.of_below hb) (fun h => h) (fun _ _ _ _ h => h)
theorem TL.heads (h : TL w x C vL vE S L) : w.cell? ⟨x, 0, none⟩ = some (.int .i64 C) ∧ w.cell? ⟨x, 1, none⟩ = some vL ∧ w.cell? ⟨x, 2, none⟩ = some vE := by
  obtain ⟨cur, hh, h1, h2, h3, h4, hs⟩ := h.blk
  exact ⟨(cell_row hh 0).trans h2, (cell_row hh 1).trans h3, (cell_row hh 2).trans h4⟩
theorem TL.slot (h : TL w x C vL vE S L) (i : Nat) (hi : i < 195) : ∃ v, w.cell? ⟨x, 3 + i, none⟩ = some v ∧ (S i).is w (L i) v := by
  obtain ⟨cur, hh, h1, h2, h3, h4, hs⟩ := h.blk
  obtain ⟨v, hv, hi'⟩ := hs i hi
  exact ⟨v, (cell_row hh _).trans hv, hi'⟩
theorem TL.frozen (h : TL w x C vL vE S L) (i : Nat) : w.frozen? ⟨x, i, none⟩ = false := by
  obtain ⟨cur, hh, -⟩ := h.blk
  exact frozen_row hh i

/-- One list gets longer: the append's row, then the slot. -/
theorem TL.put {w1 w2 : World} (h : TL w x C vL vE S L) (hb : Below w.heap.size w w1) {i g' : Nat} (hi : i < 195) {s' : Ls} {v' : Value} (hs : s'.is w2 (some g') v') (hN : (L i = some g' ∧ Fr (· = g') w1 w2) ∨ (g' = w1.heap.size ∧ Fr (fun _ => False) w1 w2)) :
    TL (w2.setCell ⟨x, 3 + i, none⟩ v') x C vL vE (upd S i s') (upd L i (some g')) ∧ Fr (fun k => k = x ∨ L i = some k) w (w2.setCell ⟨x, 3 + i, none⟩ v') ∧ (L i = some g' ∨ w.heap.size ≤ g') := by
  have h1 := h.below hb
  have hx1 : x < w1.heap.size := h1.lt
  have xg : x < g' := by
    rcases hN with ⟨a, -⟩ | ⟨a, -⟩
    · exact h1.far i g' hi a
    · omega
  have hF : Fr (fun k => L i = some k) w1 w2 := by
    rcases hN with ⟨a, b⟩ | ⟨a, b⟩
    · exact b.mono (fun k _ hk => by rw [hk]; exact a)
    · exact b.mono (fun k _ hk => hk.elim)
  have hFs : Fr (fun k => k = x) w2 (w2.setCell ⟨x, 3 + i, none⟩ v') := Fr.setCell _ _ _ rfl
  have nx : ∀ g, L i = some g → g ≠ x := fun g hg e => by have := h.far i g hi hg; omega
  have x1 : ¬ (L i = some x) := fun e => nx x e rfl
  obtain ⟨cur, hh, c1, c2, c3, c4, hsl⟩ := h1.blk
  have hh2 := hF.keeps hh x1
  have g'lt : g' < w2.heap.size := Ls.lt hs g' rfl
  refine ⟨⟨⟨cur.setIfInBounds (3 + i) v', set_row hh2 (3 + i) v', by simp [c1], ?_, ?_, ?_, ?_⟩, ?_, ?_⟩, ?_, ?_⟩
  · rw [Array.getElem?_setIfInBounds_ne (by omega)]; exact c2
  · rw [Array.getElem?_setIfInBounds_ne (by omega)]; exact c3
  · rw [Array.getElem?_setIfInBounds_ne (by omega)]; exact c4
  · intro j hj
    by_cases e : j = i
    · subst e
      refine ⟨v', by rw [Array.getElem?_setIfInBounds_self_of_lt (by omega)], ?_⟩
      rw [upd_same, upd_same]
      exact Ls.fr hs hFs (fun g hg => by injection hg with hg; subst hg; omega)
    · obtain ⟨v, hv, hj'⟩ := hsl j hj
      refine ⟨v, by rw [Array.getElem?_setIfInBounds_ne (by omega)]; exact hv, ?_⟩
      rw [upd_ne _ _ e, upd_ne _ _ e]
      refine Ls.fr (Ls.fr hj' hF (fun g hg hgi => e (h1.inj j i g hj hi hg hgi))) hFs (fun g hg => ?_)
      have := h1.far j g hj hg
      omega
  · intro j k g hj hk hg1 hg2
    by_cases e1 : j = i
    · by_cases e2 : k = i
      · omega
      · subst e1
        rw [upd_same] at hg1
        rw [upd_ne _ _ e2] at hg2
        injection hg1 with hg1
        subst hg1
        rcases hN with ⟨a, -⟩ | ⟨a, -⟩
        · exact h1.inj _ _ _ hj hk a hg2
        · have := h1.old hk hg2
          omega
    · by_cases e2 : k = i
      · subst e2
        rw [upd_same] at hg2
        rw [upd_ne _ _ e1] at hg1
        injection hg2 with hg2
        subst hg2
        rcases hN with ⟨a, -⟩ | ⟨a, -⟩
        · exact h1.inj _ _ _ hj hk hg1 a
        · have := h1.old hj hg1
          omega
      · rw [upd_ne _ _ e1] at hg1
        rw [upd_ne _ _ e2] at hg2
        exact h1.inj _ _ _ hj hk hg1 hg2
  · intro j g hj hg
    by_cases e : j = i
    · subst e
      rw [upd_same] at hg
      injection hg with hg
      omega
    · rw [upd_ne _ _ e] at hg
      exact h1.far j g hj hg
  · have f1 : Fr (fun k => k = x ∨ L i = some k) w w1 := Fr.of_below hb
    exact (f1.trans (hF.mono (fun k _ hk => .inr hk))).trans (hFs.mono (fun k _ hk => .inl hk))
  · rcases hN with ⟨a, -⟩ | ⟨a, -⟩
    · exact .inl a
    · exact .inr (by rw [a]; exact hb.size)
end

end Go.Proofs.YtfhghijefjhehaaDoor
