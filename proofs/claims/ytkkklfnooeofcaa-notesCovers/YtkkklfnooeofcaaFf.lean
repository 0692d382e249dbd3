/-
  NotesFollow: its states.
-/
import Derived.Test.YtkkklfnooeofcaaFe
namespace Go.Proofs.Ytkkklfnooeofcaa
open Go.RowKit Go.Maps Go.ChangeMaps Go.MapKept Go.WideMaps
set_option linter.unusedVariables false

def tuc (t : Bool × Int) : List Value := [.bool t.1, .int .i64 t.2]
theorem sz_tuc : Sz tuc 2 := fun x => ⟨rfl, fun v hv => by simp [tuc] at hv; rcases hv with rfl | rfl <;> rfl⟩
/-- The slice value at a, of n turns and capacity c, holds the list ts in w. -/
def IsT (w : World) (a : Option Addr) (n c : Nat) (ts : List (Bool × Int)) : Prop :=
  ts.length = n ∧ n ≤ c ∧ c ≤ 9223372036854775807 ∧ (0 < n → ∃ b off, a = some ⟨b, off, none⟩ ∧ b < w.heap.size ∧ ∀ j v, (cl tuc ts)[j]? = some v → w.cell? ⟨b, off + j, none⟩ = some v)
theorem IsT.at {w : World} {a : Option Addr} {n c : Nat} {ts : List (Bool × Int)} (h : IsT w a n c ts) (k : Nat) (hk : k < ts.length) : ∃ b off, a = some ⟨b, off, none⟩ ∧ b < w.heap.size ∧ w.cell? ⟨b, off + k * 2, none⟩ = some (.bool ts[k].1) ∧ w.cell? ⟨b, off + k * 2 + 1, none⟩ = some (.int .i64 ts[k].2) := by
  obtain ⟨h1, h2, h3, h5⟩ := h
  obtain ⟨b, off, e, hb, hc⟩ := h5 (by omega)
  refine ⟨b, off, e, hb, ?_, ?_⟩
  · have := hc (k * 2 + 0) _ (by rw [cl_get sz_tuc ts k 0 hk (by omega)]; rfl)
    simpa using this
  · have := hc (k * 2 + 1) _ (by rw [cl_get sz_tuc ts k 1 hk (by omega)]; rfl)
    simpa [Nat.add_assoc] using this

def hereB : ByteArray := ⟨#[104, 101, 114, 101]⟩
theorem say_here : sayE 7 hereB = 0 := by decide
def ntF (es : List El) : Nt := ⟨1, 7, hereB, false, [], es⟩

/-- Between two turns. -/
def FoI (w wr : World) (r : Nat) (v m : Value) (xs es : List El) (bs : List Bool) : Prop :=
  (∃ O, BD wr O r 1 ([] ++ ntF es :: [])) ∧ (∃ β, SE wr β v xs) ∧ (∃ β, SF bc 1 wr 4 β m bs) ∧ Below w.heap.size w wr
theorem FoI.below {w wr u : World} {r : Nat} {v m : Value} {xs es : List El} {bs : List Bool} (h : FoI w wr r v m xs es bs) (hb : Below wr.heap.size wr u) : FoI w u r v m xs es bs := by
  obtain ⟨⟨O, h1⟩, ⟨β, h2⟩, ⟨γ, h3⟩, h4⟩ := h
  exact ⟨⟨O, h1.below hb⟩, ⟨β, h2.below hb⟩, ⟨γ, h3.fr (S := fun _ => False) (Fr.of_below hb) (fun _ _ h => h)⟩, h4.trans (hb.mono h4.size)⟩

/-- While the marks are laid, up to place j. -/
def FmI (w wr : World) (r g n f j : Nat) (v : Value) (xs es : List El) : Prop :=
  (∃ O, BD wr O r 1 ([] ++ ntF es :: []) ∧ ¬ O g) ∧ (∃ β, SE wr β v xs) ∧ wr.heap[g]? = some (.cells ((mkL n f j).map Value.bool).toArray 4 (0, 0)) ∧ w.heap.size ≤ g ∧ Below w.heap.size w wr
theorem FmI.set {w wr : World} {r g n f j : Nat} {v : Value} {xs es : List El} (h : FmI w wr r g n f j v xs es) (h1 : f ≤ j) (h2 : j < n) : FmI w (wr.setCell ⟨g, j, none⟩ (.bool true)) r g n f (j + 1) v xs es := by
  obtain ⟨⟨O, q1, q2⟩, ⟨β, q3⟩, q4, q5, q6⟩ := h
  have hF : Fr (· = g) wr (wr.setCell ⟨g, j, none⟩ (.bool true)) := Fr.setCell wr ⟨g, j, none⟩ _ rfl
  refine ⟨⟨O, q1.fr hF (fun k hk e => q2 (e ▸ hk)), q2⟩, ⟨β, q3.fr hF (fun k hk e => ?_)⟩, ?_, q5, q6.trans (hF.below q6.size (fun k hk => by omega))⟩
  · rw [hk] at q3
    obtain ⟨cur, hc⟩ := (se_sf q3).blk
    exact ty_ne hc q4 (by decide) e
  · have := set_row q4 j (.bool true)
    rw [this, ← mkL_set h1 h2]
    simp [List.map_set]
theorem FmI.cell {w wr : World} {r g n f j : Nat} {v : Value} {xs es : List El} (h : FmI w wr r g n f j v xs es) (h2 : j < n) : (∃ b, wr.cell? ⟨g, j, none⟩ = some (.bool b)) ∧ wr.frozen? ⟨g, j, none⟩ = false := by
  obtain ⟨-, -, q4, -⟩ := h
  refine ⟨⟨decide (f ≤ j ∧ j < j), ?_⟩, frozen_row q4 j⟩
  · rw [cell_row q4]
    simp only [List.getElem?_toArray, List.getElem?_map, mkL_get h2]
    rfl
theorem FmI.fo {w wr : World} {r g n f j : Nat} {v : Value} {xs es : List El} (h : FmI w wr r g n f j v xs es) (hn : n ≤ 2048) : FoI w wr r v (.slice (some ⟨g, 0, none⟩) n n) xs es (mkL n f j) := by
  obtain ⟨⟨O, q1, q2⟩, q3, q4, q5, q6⟩ := h
  refine ⟨⟨O, q1⟩, q3, ⟨some g, n, by rw [mkL_len], ?_⟩, q6⟩
  rw [mkL_len]
  refine ⟨(mkL n f j).map Value.bool, q4, ?_, mkL_len _ _ _, Nat.le_refl _, by omega, by simp [mkL_len]⟩
  rw [Nat.mul_one, List.take_of_length_le (by simp [mkL_len])]
  unfold cl bc
  induction mkL n f j with
  | nil => rfl
  | cons b l ih => simp [ih]

theorem fm_start {w wr u : World} {r n f : Nat} {v : Value} {xs es : List El} {cur : List Value} {O : Nat → Prop} {β : Option Nat} (hD : BD wr O r 1 ([] ++ ntF es :: [])) (hS : SE wr β v xs) (hB : Below w.heap.size w wr) (hg : u.heap[wr.heap.size]? = some (.cells cur.toArray 4 (0, 0))) (hc : cur = (madeCells (Value.bool false).cells (n * 1)).toList) (hb : Below wr.heap.size wr u) : FmI w u r wr.heap.size n f f v xs es := by
  refine ⟨⟨O, hD.below hb, fun h => by have := hD.old _ h; omega⟩, ⟨β, hS.below hb⟩, ?_, hB.size, hB.trans (hb.mono hB.size)⟩
  rw [hg, hc, mkL_zero, Nat.mul_one, show (Value.bool false).cells = #[Value.bool false] from rfl, toList_madeCells_one]
  simp

end Go.Proofs.Ytkkklfnooeofcaa
