/-
  wire.read, of items: what the bytes say, without memory; what holds in the loop.
-/
import Derived.Test.YtibnlfdnnlbeeaaDoorVs
import Derived.Test.YtibnlfdnnlbeeaaDoorVo
import Derived.Deep.RegionWith
namespace Go.Proofs.YtibnlfdnnlbeeaaDoor
open Go.RowKit
set_option linter.unusedVariables false

/-- How many bytes field f takes in a layout. -/
def wdt (nm f : Nat) : Nat := if hasP nm f then (if hasP 1512 f then 2 else 1) else 0
/-- Where field k stands. -/
def posAt (nm k : Nat) : Nat := 1 + ((List.range k).map (wdt nm)).sum
/-- What the bytes say of field f. -/
def fldV (nm : Nat) (bs : List Int) (f : Nat) : Int :=
  if f = 0 then bs.getD 0 0 else if hasP nm f then (if hasP 1512 f then bs.getD (posAt nm f) 0 * 256 + bs.getD (posAt nm f + 1) 0 else bs.getD (posAt nm f) 0) else 0
/-- The fields ahead of k. -/
def valsTo (nm : Nat) (bs : List Int) (k : Nat) : Nat → Int := fun f => if f = 0 then bs.getD 0 0 else if f < k then fldV nm bs f else 0
def goodTo (nm : Nat) (bs : List Int) (k : Nat) : Prop := ∀ f, f < k → hasP nm f = true → allowsP nm (valsTo nm bs (f + 1)) f = true
def sizeP (nm : Nat) : Nat := posAt nm 14

theorem posAt_succ (nm k : Nat) : posAt nm (k + 1) = posAt nm k + wdt nm k := by
  simp [posAt, List.range_succ]
  omega
theorem posAt_mono (nm : Nat) {i j : Nat} (h : i ≤ j) : posAt nm i ≤ posAt nm j := by
  induction j with
  | zero => obtain rfl : i = 0 := by omega
            exact Nat.le_refl _
  | succ j ih =>
    rcases Nat.lt_or_ge i (j + 1) with h1 | h1
    · exact Nat.le_trans (ih (by omega)) (by rw [posAt_succ]; omega)
    · obtain rfl : i = j + 1 := by omega
      exact Nat.le_refl _
theorem size_2 : sizeP 2 = 2 := by decide
theorem size_16128 : sizeP 16128 = 9 := by decide
theorem hasP_zero (nm : Nat) (hs : nm = 2 ∨ nm = 16128) : hasP nm 0 = false := by rcases hs with rfl | rfl <;> decide
theorem goodTo_zero (nm : Nat) (bs : List Int) : goodTo nm bs 0 := fun f h => by omega
theorem goodTo_succ {nm : Nat} {bs : List Int} {k : Nat} (h : goodTo nm bs k) (hk : hasP nm k = true → allowsP nm (valsTo nm bs (k + 1)) k = true) : goodTo nm bs (k + 1) := fun f hf ha => by
  rcases Nat.lt_or_ge f k with h1 | h1
  · exact h f h1 ha
  · obtain rfl : f = k := by omega
    exact hk ha
theorem valsTo_skip (nm : Nat) (bs : List Int) (k : Nat) (h : hasP nm k = false) : valsTo nm bs (k + 1) = valsTo nm bs k := by
  funext f
  unfold valsTo
  by_cases h0 : f = 0
  · simp [h0]
  · by_cases h1 : f < k
    · simp [h0, h1, Nat.lt_succ_of_lt h1]
    · by_cases h2 : f = k
      · subst h2
        simp [h0, fldV, h]
      · have : ¬ f < k + 1 := by omega
        simp [h0, h1, this]
theorem valsTo_step (nm : Nat) (bs : List Int) (k : Nat) (hk : k ≠ 0) : valsTo nm bs (k + 1) = fun f => if f = k then fldV nm bs k else valsTo nm bs k f := by
  funext f
  unfold valsTo
  by_cases h0 : f = 0
  · simp [h0, Ne.symm hk]
  · by_cases h2 : f = k
    · subst h2
      simp [h0]
    · by_cases h1 : f < k
      · simp [h0, h1, h2, Nat.lt_succ_of_lt h1]
      · have : ¬ f < k + 1 := by omega
        simp [h0, h1, h2, this]

/-- What holds in read. -/
structure RS (w wr : World) (rb r vb lb nm : Nat) (bs : List Int) (V : Nat → Int) (p : Nat) : Prop where
  res : VB wr rb (fun _ => 0)
  v : VB wr vb V
  l : LB wr lb nm
  lim : Lims wr
  rd : RD (fun b => rb < b ∧ b < r) wr r bs p false
  bel : Below w.heap.size w wr
  o0 : 1 < w.heap.size
  o1 : w.heap.size ≤ rb
  o2 : rb < r
  o3 : r < vb
  o4 : vb < lb
theorem RS.below {w wr w' : World} {rb r vb lb nm : Nat} {bs : List Int} {V : Nat → Int} {p : Nat} (h : RS w wr rb r vb lb nm bs V p) (hb : Below wr.heap.size wr w') : RS w w' rb r vb lb nm bs V p :=
  ⟨h.res.below hb, h.v.below hb, h.l.below hb, h.lim.below hb h.lim.lt, h.rd.below hb, h.bel.trans (hb.mono h.bel.size), h.o0, h.o1, h.o2, h.o3, h.o4⟩
theorem RS.good {w wr w' : World} {rb r vb lb nm : Nat} {bs : List Int} {V : Nat → Int} {p k : Nat} (h : RS w wr rb r vb lb nm bs V p) (hg : Good (fun b => rb < b ∧ b < r) wr w' r bs p k) : RS w w' rb r vb lb nm bs V (p + k) := by
  have := h.o0; have := h.o1; have := h.o2; have := h.o3; have := h.o4
  exact ⟨h.res.but hg.2 (by omega), h.v.but hg.2 (by omega), h.l.but hg.2 (by omega), h.lim.but hg.2 (by omega), hg.1, h.bel.trans (hg.2.below h.bel.size (by omega)), h.o0, h.o1, h.o2, h.o3, h.o4⟩
theorem RS.set {w wr : World} {rb r vb lb nm : Nat} {bs : List Int} {V : Nat → Int} {p : Nat} (h : RS w wr rb r vb lb nm bs V p) (f : Nat) (hf : f < 14) (x : Int) : RS w (wr.setCell ⟨vb, f, none⟩ (.int .i64 x)) rb r vb lb nm bs (fun i => if i = f then x else V i) p := by
  have := h.o0; have := h.o1; have := h.o2; have := h.o3; have := h.o4
  have hb := But.setCell vb wr f (.int .i64 x)
  exact ⟨h.res.but hb (by omega), h.v.set f hf x, h.l.but hb (by omega), h.lim.but hb (by omega), h.rd.but hb (by omega) (fun b hb => by omega), h.bel.trans (hb.below h.bel.size (by omega)), h.o0, h.o1, h.o2, h.o3, h.o4⟩

theorem be_one (bs : List Int) (p : Nat) (h : p + 1 ≤ bs.length) : be ((bs.drop p).take 1) = bs.getD p 0 := by
  rw [take_snoc _ 0 (by simp; omega)]
  simp [be, List.getD]
theorem be_two (bs : List Int) (p : Nat) (h : p + 2 ≤ bs.length) : be ((bs.drop p).take 2) = bs.getD p 0 * 256 + bs.getD (p + 1) 0 := by
  rw [take_snoc _ 1 (by simp; omega), take_snoc _ 0 (by simp; omega)]
  simp [be, List.getD]

theorem size_any (nm : Nat) (hs : nm = 2 ∨ nm = 16128) (w : World) : Calls Tryd.prog 42 #[.agg #[.int .u16 nm, .bool false]] w fun e w' => e = .returned (.int .i64 (sizeP nm)) ∧ Below w.heap.size w w' := by
  rcases hs with rfl | rfl
  · rw [size_2]; exact size_boot w
  · rw [size_16128]; exact size_edit w

end Go.Proofs.YtibnlfdnnlbeeaaDoor
