/-
  line: moves turned into a line that fits.
-/
import Derived.Test.YtmkgkgdngjmcmabDoorQb
import Derived.Test.YtmkgkgdngjmcmabDoorEe
import Derived.Test.YtmkgkgdngjmcmabDoorEg
import Derived.Deep.DeepCutAuto
namespace Go.Proofs.YtmkgkgdngjmcmabDoor
open Go.RowKit
set_option linter.unusedVariables false

/-- The slice value at a, of n moves, holds M. -/
def IsM (w : World) (a : Option Addr) (n c : Nat) (M : Nat → Bool × Int × Int) : Prop :=
  n ≤ c ∧ c ≤ 9223372036854775807 ∧
  (0 < n → ∃ b off, a = some ⟨b, off, none⟩ ∧ b < w.heap.size ∧ ∀ i, i < n → w.cell? ⟨b, off + i * 3, none⟩ = some (.bool (M i).1) ∧ w.cell? ⟨b, off + i * 3 + 1, none⟩ = some (.int .i64 (M i).2.1) ∧ w.cell? ⟨b, off + i * 3 + 2, none⟩ = some (.int .u8 (M i).2.2))

/-- append of one operation onto a row with room. -/
theorem run_app1O (w : World) (g N cap : Nat) (xs : List OpE) (hR : RowO w g N cap xs) (x : OpE) (hroom : N + 1 ≤ cap) :
    ∃ w', (∀ ty, (Builtin.append_ #[24, 24] ty #[.slice (some ⟨g, 0, none⟩) N cap, .slice (some ⟨w.heap.size, 0, none⟩) 1 1]).run Tryd.prog (w.alloc (.cells (opc x).toArray 23)) = .ok (.slice (some ⟨g, 0, none⟩) (N + 1) cap) w') ∧ RowO w' g (N + 1) cap (xs ++ [x]) ∧ Fr (· = g) w w' := by
  obtain ⟨i0, hi0, hz0, hz1, hz2⟩ := info_parts Tryd.infoO
  have F := Fr.alloc (· = g) w (.cells (opc x).toArray 23)
  obtain ⟨cur, hh, htk, hvl, hnc, hcm, hcs⟩ := hR.fr (S := fun _ => False) (Fr.alloc _ w (.cells (opc x).toArray 23)) (fun h => h)
  have hnews : ∀ j u, (opc x)[j]? = some u → (w.alloc (.cells (opc x).toArray 23)).cell? ((⟨w.heap.size, 0, none⟩ : Addr).add j) = some u := fun j u hj => by
    rw [add_lit, Nat.zero_add, cell_row (heap_alloc_new _ _), List.getElem?_toArray]
    exact hj
  have h1 : ∀ u ∈ opc x, u.oneCell' = true := by rw [← cO_one]; exact cO_one' _
  have hr := fun ty => run_append_room (P := Tryd.prog) (w.alloc (.cells (opc x).toArray 23)) 24 ty 23 i0 Tryd.underlying24 hi0 g N cap cur.toArray hh ⟨w.heap.size, 0, none⟩ 1 1 (opc x) (by rw [hz1]; rfl) hnews h1 hroom (by rw [hz1]; simp [opc, hcs]; omega)
  refine ⟨_, hr, ?_, F.trans (Fr.setRow _ _ _ rfl)⟩
  rw [hz1]
  refine ⟨splice cur (N * 5) (opc x), ?_, push_takeO cur xs x N hvl (by omega) htk, by simp [hvl], hroom, hcm, ?_⟩
  · have := setRow_heap (w.alloc (.cells (opc x).toArray 23)) g cur.toArray (splice cur (N * 5) (opc x)).toArray 23 _ hh
    simpa [splice] using this
  · rw [length_splice _ _ _ (by simp [opc]; omega), hcs]

theorem FitL_snoc : ∀ (l : List OpE) (d : List El) (o : OpE), FitL d l → FitO (runP d l).length o → FitL d (l ++ [o])
  | [], d, o, _, h => ⟨h, trivial⟩
  | x :: l, d, o, h1, h2 => ⟨h1.1, FitL_snoc l _ o h1.2 h2⟩
theorem runP_snoc : ∀ (l : List OpE) (d : List El) (o : OpE), runP d (l ++ [o]) = putP (runP d l) o
  | [], d, o => rfl
  | x :: l, d, o => runP_snoc l _ o

/-- A line of a client's from the text d on: it fits, its kinds, its tags. -/
def LineP (d : List El) (cl : Int) (L : List OpE) : Prop := FitL d L ∧ ∀ i (h : i < L.length), (L[i].kind = 1 ∨ L[i].kind = 2) ∧ L[i].cl = cl ∧ L[i].sq = (i : Int) + 1

theorem LineP.snoc {d : List El} {cl : Int} {L : List OpE} {o : OpE} (h : LineP d cl L) (ho : MadeO (runP d L).length cl ((L.length : Int) + 1) o) : LineP d cl (L ++ [o]) := by
  refine ⟨FitL_snoc L d o h.1 ho.1, fun i hi => ?_⟩
  by_cases hl : i < L.length
  · rw [List.getElem_append_left hl]
    exact h.2 i hl
  · obtain rfl : i = L.length := by simp at hi; omega
    rw [List.getElem_append_right (Nat.le_refl _)]
    simp
    exact ⟨ho.2.1, ho.2.2.1, ho.2.2.2⟩

theorem put_len {n : Nat} {d : List El} {o : OpE} {cl sq : Int} (hn : d.length = n) (ho : MadeO n cl sq o) : (o.kind = 1 ∧ (putP d o).length = n + 1) ∨ (o.kind = 2 ∧ 0 < n ∧ (putP d o).length = n - 1) := by
  obtain ⟨k, p, c, l, s⟩ := o
  obtain ⟨hf, hk, _⟩ := ho
  unfold FitO at hf
  simp only at hf hk
  rcases hf with ⟨rfl, _⟩ | ⟨rfl, p, rfl, hp⟩ | ⟨rfl, p, rfl, hp⟩
  · omega
  · exact .inl ⟨rfl, by rw [putP_ins, insert_len _ _ _ (by omega), hn]⟩
  · exact .inr ⟨rfl, by omega, by rw [putP_del, erase_len _ _ (by omega), hn]⟩

end Go.Proofs.YtmkgkgdngjmcmabDoor
