/-
  The laws' copied.
-/
import Derived.Test.YtfhghijefjhehaaDoorIr
namespace Go.Proofs.YtfhghijefjhehaaDoor
open Go.RowKit Go.Lib
set_option linter.unusedVariables false

/-- An event whose text lies at the block t. -/
def evt (x : Ev × Nat) : List Value := [.int .i64 x.1.step, .int .i64 x.1.site, .int .i64 x.1.hav, .int .i64 x.1.made, .int .i64 x.1.o.kind, .int .i64 x.1.o.pos, .int .u8 x.1.o.ch, .int .i64 x.1.o.cl, .int .i64 x.1.o.sq, .slice (some ⟨x.2, 0, none⟩) x.1.len x.1.len]
theorem szEv : Sz evt 10 := fun x => ⟨rfl, fun v hv => by
  simp only [evt, List.mem_cons, List.not_mem_nil, or_false] at hv
  rcases hv with rfl | rfl | rfl | rfl | rfl | rfl | rfl | rfl | rfl | rfl <;> rfl⟩

/-- A row of n elements at block g that opens with xs. -/
def RowX {α : Type} (f : α → List Value) (k : Nat) (e : TypeId) (w : World) (g n : Nat) (xs : List α) : Prop :=
  ∃ cur : List Value, w.heap[g]? = some (.cells cur.toArray e (0, 0)) ∧ cur.length = n * k ∧ ∀ q (hq : q < xs.length), ∀ j, j < k → cur[q * k + j]? = (f xs[q])[j]?
section
variable {α : Type} {f : α → List Value} {k : Nat} {e : TypeId} {w u : World} {g n : Nat} {xs : List α}
theorem RowX.lt (h : RowX f k e w g n xs) : g < w.heap.size := by obtain ⟨cur, h1, -⟩ := h; exact block_lt h1
theorem RowX.fr {S : Nat → Prop} (h : RowX f k e w g n xs) (hF : Fr S w u) (hS : ¬ S g) : RowX f k e u g n xs := by
  obtain ⟨cur, h1, h2⟩ := h
  exact ⟨cur, hF.keeps h1 hS, h2⟩
theorem RowX.below (h : RowX f k e w g n xs) (hb : Below w.heap.size w u) : RowX f k e u g n xs := h.fr (S := fun _ => False) (Fr.of_below hb) (fun h => h)
theorem RowX.get (h : RowX f k e w g n xs) (q j : Nat) (hq : q < xs.length) (hj : j < k) : w.cell? ⟨g, q * k + j, none⟩ = (f xs[q])[j]? := by
  obtain ⟨cur, h1, h2, h3⟩ := h
  rw [cell_row h1, ← h3 q hq j hj]
  simp
theorem RowX.old (h : RowX f k e w g n xs) {i : Nat} (hi : i < n) (j : Nat) (hj : j < k) : (∃ v, w.cell? ⟨g, i * k + j, none⟩ = some v) ∧ w.frozen? ⟨g, i * k + j, none⟩ = false := by
  obtain ⟨cur, h1, h2, -⟩ := h
  have : (i + 1) * k ≤ n * k := Nat.mul_le_mul_right _ (by omega)
  rw [Nat.add_mul] at this
  exact ⟨⟨cur[i * k + j]'(by omega), by rw [cell_row h1]; simp⟩, frozen_row h1 _⟩
/-- Cells behind xs. -/
theorem RowX.sets (h : RowX f k e w g n xs) (o : Nat) (vs : List Value) (ho : xs.length * k ≤ o) (hv : o + vs.length ≤ n * k) : RowX f k e (setsL w g o vs) g n xs ∧ Fr (fun k => k = g) w (setsL w g o vs) := by
  obtain ⟨cur, h1, h2, h3⟩ := h
  obtain ⟨⟨cur', a1, a2, a3, a4⟩, a5⟩ := setsL_row vs w o cur h1 (by omega)
  refine ⟨⟨cur', a1, by rw [a2]; exact h2, fun q hq j hj => ?_⟩, a5⟩
  have hq1 : (q + 1) * k ≤ xs.length * k := Nat.mul_le_mul_right _ (by omega)
  rw [Nat.add_mul, Nat.one_mul] at hq1
  rw [a4 _ (.inl (by omega))]
  exact h3 q hq j hj
/-- One element more. -/
theorem RowX.push (hz : Sz f k) (h : RowX f k e w g n xs) (hi : xs.length < n) (y : α) : RowX f k e (setsL w g (xs.length * k) (f y)) g n (xs ++ [y]) ∧ Fr (fun k => k = g) w (setsL w g (xs.length * k) (f y)) := by
  obtain ⟨cur, h1, h2, h3⟩ := h
  have hlen : (xs.length + 1) * k ≤ n * k := Nat.mul_le_mul_right _ (by omega)
  rw [Nat.add_mul, Nat.one_mul] at hlen
  have hfl := (hz y).1
  obtain ⟨⟨cur', a1, a2, a3, a4⟩, a5⟩ := setsL_row (f y) w (xs.length * k) cur h1 (by rw [hfl]; omega)
  refine ⟨⟨cur', a1, by rw [a2]; exact h2, fun q hq j hj => ?_⟩, a5⟩
  rw [List.length_append, List.length_singleton] at hq
  by_cases e : q = xs.length
  · subst e
    rw [List.getElem_append_right (Nat.le_refl _)]
    simp only [Nat.sub_self, List.getElem_singleton]
    exact a3 j (by rw [hfl]; exact hj)
  · have hq1 : (q + 1) * k ≤ xs.length * k := Nat.mul_le_mul_right _ (by omega)
    rw [Nat.add_mul, Nat.one_mul] at hq1
    rw [a4 _ (.inl (by omega)), List.getElem_append_left (by omega)]
    exact h3 q (by omega) j hj
end
/-- The last element's last cell is stored anew. -/
theorem RowX.last {w u : World} {g n : Nat} {xs : List (Ev × Nat)} {y : Ev} {d : Value} {t : Nat} (h : RowX evt 10 50 w g n xs) (hi : xs.length < n)
    (hF : Fr (fun k => k ≠ g) (setsL w g (xs.length * 10) [.int .i64 y.step, .int .i64 y.site, .int .i64 y.hav, .int .i64 y.made, .int .i64 y.o.kind, .int .i64 y.o.pos, .int .u8 y.o.ch, .int .i64 y.o.cl, .int .i64 y.o.sq, d]) u) :
    RowX evt 10 50 (u.setCell ⟨g, xs.length * 10 + 9, none⟩ (.slice (some ⟨t, 0, none⟩) y.len y.len)) g n (xs ++ [(y, t)]) := by
  obtain ⟨cur, h1, h2, h3⟩ := h
  have hlen : (xs.length + 1) * 10 ≤ n * 10 := Nat.mul_le_mul_right _ (by omega)
  obtain ⟨⟨cur', a1, a2, a3, a4⟩, a5⟩ := setsL_row [.int .i64 y.step, .int .i64 y.site, .int .i64 y.hav, .int .i64 y.made, .int .i64 y.o.kind, .int .i64 y.o.pos, .int .u8 y.o.ch, .int .i64 y.o.cl, .int .i64 y.o.sq, d] w (xs.length * 10) cur h1 (by simp; omega)
  have b1 := hF.keeps a1 (fun h => h rfl)
  refine ⟨(cur'.set (xs.length * 10 + 9) (.slice (some ⟨t, 0, none⟩) y.len y.len)), ?_, by rw [List.length_set, a2]; exact h2, fun q hq j hj => ?_⟩
  · rw [set_row b1]
    simp
  · rw [List.length_append, List.length_singleton] at hq
    by_cases e : q = xs.length
    · subst e
      rw [List.getElem_append_right (Nat.le_refl _)]
      simp only [Nat.sub_self, List.getElem_singleton]
      by_cases e9 : j = 9
      · subst e9
        rw [List.getElem?_set_self (by rw [a2, h2]; omega)]
        rfl
      · rw [List.getElem?_set_ne (by omega)]
        have := a3 j (by simp; omega)
        rw [this]
        have : j = 0 ∨ j = 1 ∨ j = 2 ∨ j = 3 ∨ j = 4 ∨ j = 5 ∨ j = 6 ∨ j = 7 ∨ j = 8 := by omega
        rcases this with rfl | rfl | rfl | rfl | rfl | rfl | rfl | rfl | rfl <;> rfl
    · rw [List.getElem?_set_ne (by omega), a4 _ (.inl (by omega)), List.getElem_append_left (by omega)]
      exact h3 q (by omega) j hj

/-- The texts of the first events, at blocks of their own. -/
def TxI (w : World) (B g2 : Nat) (D : Nat → List El) (tx : List Nat) : Prop := ∀ q (hq : q < tx.length), B ≤ tx[q] ∧ tx[q] < w.heap.size ∧ tx[q] ≠ g2 ∧ ∀ m (hm : m < (D q).length), w.cell? ⟨tx[q], m * 3, none⟩ = some (.int .u8 (D q)[m].1) ∧ w.cell? ⟨tx[q], m * 3 + 1, none⟩ = some (.int .i64 (D q)[m].2.1) ∧ w.cell? ⟨tx[q], m * 3 + 2, none⟩ = some (.int .i64 (D q)[m].2.2)
theorem TxI.fr {w u : World} {B g2 : Nat} {D : Nat → List El} {tx : List Nat} {S : Nat → Prop} (h : TxI w B g2 D tx) (hF : Fr S w u) (hS : ∀ q (hq : q < tx.length), ¬ S tx[q]) : TxI u B g2 D tx := fun q hq => by
  obtain ⟨h1, h2, h3, h4⟩ := h q hq
  refine ⟨h1, Nat.lt_of_lt_of_le h2 hF.size, h3, fun m hm => ?_⟩
  have k : ∀ i, u.cell? ⟨tx[q], i, none⟩ = w.cell? ⟨tx[q], i, none⟩ := fun i => hF.cell (p := ⟨tx[q], i, none⟩) h2 (hS q hq)
  simp only [k]
  exact h4 m hm

end Go.Proofs.YtfhghijefjhehaaDoor
