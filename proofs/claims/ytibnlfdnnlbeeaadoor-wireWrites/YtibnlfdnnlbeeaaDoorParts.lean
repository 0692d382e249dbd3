/-
  What a walk is told of a list of bytes, and small laws of it.
-/
import Derived.Test.YtibnlfdnnlbeeaaDoorRows
import Derived.WalkKit
import Derived.WalkSpells
import Derived.WalkLawsBesides
import Derived.Laws.CopyOwn
import Derived.Laws.MakeOwn
namespace Go.Proofs.YtibnlfdnnlbeeaaDoor
open Go.RowKit

theorem hd {p : Prop} (h : p) : Hid p := h

def ints (xs : List Int) : List Value := xs.map (Value.int .u8)

/-- The slice value at a, of n elements and capacity c, holds the bytes xs in w. -/
def IsB (w : World) (a : Option Addr) (n c : Nat) (xs : List Int) : Prop :=
  xs.length = n ∧ n ≤ c ∧ c ≤ 9223372036854775807 ∧
  (0 < n → ∃ b off, a = some ⟨b, off, none⟩ ∧ b < w.heap.size ∧ ∀ i, i < n → w.cell? ⟨b, off + i, none⟩ = some (.int .u8 (xs.getD i 0)))

/-- The slice value is a row that the call has made, from block base on, and holds the bytes xs. -/
def OwnB (w : World) (base : Nat) (v : Value) (n : Nat) (xs : List Int) : Prop := w.ownsRow base 5 1 v n (ints xs)

theorem IsB.below {w w' : World} {a : Option Addr} {n c : Nat} {xs : List Int} (h : IsB w a n c xs) (hb : Below w.heap.size w w') : IsB w' a n c xs := by
  obtain ⟨h1, h2, h3, h4⟩ := h
  refine ⟨h1, h2, h3, fun hn => ?_⟩
  obtain ⟨b, off, e, hlt, hc⟩ := h4 hn
  refine ⟨b, off, e, Nat.lt_of_lt_of_le hlt hb.size, fun i hi => ?_⟩
  rw [hb.cell (p := ⟨b, off + i, none⟩) hlt]
  exact hc i hi

theorem IsB.take {w : World} {a : Option Addr} {n c : Nat} {xs : List Int} (h : IsB w a n c xs) (m : Nat) (hm : m ≤ n) : IsB w a m c (xs.take m) := by
  obtain ⟨h1, h2, h3, h4⟩ := h
  refine ⟨by simp; omega, by omega, h3, fun hn => ?_⟩
  obtain ⟨b, off, e, hlt, hc⟩ := h4 (by omega)
  refine ⟨b, off, e, hlt, fun i hi => ?_⟩
  rw [hc i (by omega)]
  simp [hi]

theorem OwnB.isB {w : World} {base : Nat} {v : Value} {n : Nat} {xs : List Int} (h : OwnB w base v n xs) : ∃ a c, v = .slice a n c ∧ IsB w a n c xs := by
  have hl := h.1
  simp [ints] at hl
  rcases h.2 with ⟨rfl, rfl⟩ | ⟨g, cap, cur, rfl, hbg, hh, hnc, hcm, hcs, htk⟩
  · exact ⟨none, 0, rfl, by omega, Nat.le_refl _, by omega, fun h => by omega⟩
  · refine ⟨_, cap, rfl, hl, hnc, hcm, fun hn => ⟨g, 0, rfl, ?_, fun i hi => ?_⟩⟩
    · by_cases hg : g < w.heap.size
      · exact hg
      · rw [Array.getElem?_eq_none (by omega)] at hh
        simp at hh
    · have := World.ownsRow.cellAt (g := g) (cap := cap) h i (by omega)
      rw [Nat.zero_add, this]
      simp [ints, List.getElem?_map]
      rw [List.getElem?_eq_getElem (by omega)]
      simp

theorem OwnB.below {w w' : World} {B base : Nat} {v : Value} {n : Nat} {xs : List Int} (h : OwnB w base v n xs) (hb : Below B w w') (hB : w.heap.size ≤ B) : OwnB w' base v n xs := by
  refine ⟨h.1, ?_⟩
  rcases h.2 with h0 | ⟨g, cap, cur, e, hbg, hh, r⟩
  · exact .inl h0
  · refine .inr ⟨g, cap, cur, e, hbg, ?_, r⟩
    have hg : g < w.heap.size := by
      by_cases hg : g < w.heap.size
      · exact hg
      · rw [Array.getElem?_eq_none (by omega)] at hh
        simp at hh
    rw [hb.block g (by omega)]
    exact hh

theorem OwnB.mono {w : World} {base base' : Nat} {v : Value} {n : Nat} {xs : List Int} (h : OwnB w base v n xs) (hb : base' ≤ base) : OwnB w base' v n xs := by
  refine ⟨h.1, ?_⟩
  rcases h.2 with h0 | ⟨g, cap, cur, e, hbg, r⟩
  · exact .inl h0
  · exact .inr ⟨g, cap, cur, e, by omega, r⟩

theorem fill_step (xs : List Int) (n k : Nat) (hl : xs.length = n) (hk : k < n) :
    (ints (xs.take k ++ List.replicate (n - k) 0)).set k (.int .u8 (xs.getD k 0)) = ints (xs.take (k + 1) ++ List.replicate (n - (k + 1)) 0) := by
  have e : List.replicate (n - k) (0 : Int) = 0 :: List.replicate (n - (k + 1)) 0 := by
    rw [show n - k = (n - (k + 1)) + 1 from by omega, List.replicate_succ]
  have t : xs.take (k + 1) = xs.take k ++ [xs.getD k 0] := by
    rw [List.take_succ_eq_append_getElem (by omega)]
    simp [List.getD, List.getElem?_eq_getElem (show k < xs.length by omega)]
  rw [e, t]
  simp only [ints, List.map_append, List.map_cons, List.append_assoc, List.cons_append, List.nil_append]
  rw [List.set_append_right _ _ (by simp; omega)]
  simp [Nat.min_eq_left (show k ≤ xs.length by omega)]

theorem app_step {w wr w' : World} {B : Nat} {v v' : Value} {m : Nat} {ys : List Int} {x : Int} {o : Obj} (O : OwnB wr B v m ys) (hb : Below B w wr) (hB : B ≤ w.heap.size)
    (hown : w'.ownsRow B 5 1 v' (m + 1) (ints ys ++ [.int .u8 x])) (hg : (wr.alloc o).grownBy w' v.ownBlock) : OwnB w' B v' (m + 1) (ys ++ [x]) ∧ Below B w w' := by
  refine ⟨?_, ?_⟩
  · have e : ints (ys ++ [x]) = ints ys ++ [.int .u8 x] := by simp [ints]
    unfold OwnB
    rw [e]
    exact hown
  · have hs : B ≤ wr.heap.size := Nat.le_trans hB hb.size
    exact (hb.alloc hs o).grown hg (by simp; omega) (fun k hk => (World.ownsRow.lt O k hk).1)

theorem one_of (x : Int) : ∀ u ∈ [Value.int .u8 x], u.oneCell' = true := by
  intro u hu
  simp at hu
  subst hu
  rfl

theorem Tryd.info5 : (Tryd.prog.info? 5).map (fun i => (i.zero, i.size, i.bytes)) = some (some (.int .u8 0), 1, 1) := by kernel_rfl

end Go.Proofs.YtibnlfdnnlbeeaaDoor
