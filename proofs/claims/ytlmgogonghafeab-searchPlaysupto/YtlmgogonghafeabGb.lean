/-
  slices.Insert of one byte: in place.
-/
import Derived.Test.YtlmgogonghafeabGa
import Derived.Shelf.RegionOpenPlain
import Derived.Deep.RegionLaw
import Derived.Laws.Externs
namespace Go.Proofs.Ytlmgogonghafeab
open Go.RowKit Go.Lib
set_option linter.unusedVariables false

theorem Try.infoU : (Try.prog.info? 5).map (fun i => (i.zero, i.size, i.bytes)) = some (some (.int .u8 0), 1, 1) := by kernel_rfl
theorem sizeU (w : World) : (Go.sizeOf 5).run Try.prog w = .ok 1 w := by
  obtain ⟨i0, hi, hz0, hz1, hz2⟩ := info_parts Try.infoU
  simp [sizeOf, typeInfo, hi, hz1]
theorem sizeU' : (Try.prog.info? 5).map (·.size) = some 1 := by
  obtain ⟨i0, hi, hz0, hz1, hz2⟩ := info_parts Try.infoU
  rw [hi]
  simp [hz1]

theorem splice_in1 {α : Type} (L A ds S R : List α) (d s0 : α) : splice (L ++ ((A ++ d :: ds) ++ ((s0 :: S) ++ R))) (L.length + A.length + 1) (d :: ds) = L ++ ((A ++ [d]) ++ ((d :: ds) ++ (S ++ R))) := by
  have e1 : L ++ ((A ++ d :: ds) ++ ((s0 :: S) ++ R)) = (L ++ A ++ [d]) ++ ((ds ++ [s0]) ++ (S ++ R)) := by simp
  have l1 : L.length + A.length + 1 = (L ++ A ++ [d]).length := by simp; omega
  rw [e1, l1, splice_mid _ _ _ _ (by simp)]
  simp

set_option maxHeartbeats 4000000 in
set_option maxRecDepth 100000 in
theorem binsert_shift (g vb o i n c : Nat) (x d s0 : Value) (L A ds S R : List Value) (fz : Nat × Nat) (w : World) (hx1 : Hid (x.oneCell' = true)) (hall : Hid (∀ v ∈ d :: ds, v.oneCell' = true))
    (hL : Hid (L.length = o)) (hA : Hid (A.length = i)) (hn : Hid (i + (ds.length + 1) = n)) (hin : i < n) (hroom : n + 1 ≤ c) (hc63 : c ≤ 9223372036854775807) (hvb : vb ≠ g)
    (hg : Hid (Seg w g 5 fz L (A ++ d :: ds) (s0 :: S) R)) (hv : Hid (w.heap[vb]? = some (.cells [x].toArray 5 (0, 0)))) :
    Calls Try.prog 47 #[.slice (some ⟨g, o, none⟩) n c, .int .i64 i, .slice (some ⟨vb, 0, none⟩) 1 1] w fun e w' =>
      e = .returned (.slice (some ⟨g, o, none⟩) (n + 1) c) ∧ Seg w' g 5 fz L (A ++ x :: d :: ds) S R ∧ Fr (· = g) w w' := by
  have hov : ∀ q lb cb, (callFunc 65 #[.slice (some ⟨vb, 0, none⟩) 1 1, .slice (some ⟨g, q, none⟩) lb cb]).run Try.prog w = .ok (.value (.bool false)) w := fun q lb cb => by
    have hsa : w.shape? vb = some (5, 1) := by simp [World.shape?, hv.out]
    have hsb : w.shape? g = some (5, (L ++ ((A ++ d :: ds) ++ ((s0 :: S) ++ R))).length) := by simp [World.shape?, hg.out.1]
    rw [run_callFunc_extern Try.func65 (by kernel_rfl) (by kernel_rfl) (by kernel_rfl) (e := Extern.SlicesOverlaps.overlaps #[35, 35] #[4]) (by kernel_rfl),
      Lib.run_overlaps_apart w 35 4 5 Try.underlying35 1 sizeU ⟨vb, 0, none⟩ ⟨g, q, none⟩ 1 1 lb cb hvb 5 5 1 _ hsa hsb (by simp) (frozen_row hv.out 0) (frozen_row hv.out 1)]
    rfl
  have hgd : Seg w.drew g 5 fz L (A ++ d :: ds) (s0 :: S) R := hg.out
  have hcp1 : ∀ q r n1 n2 ty dc sc, q = o + (i + 1) → r = o + i → n1 = n - i → n2 = n + 1 - i → (Builtin.copy_ #[35, 35] ty #[.slice (some ⟨g, q, none⟩) n1 dc, .slice (some ⟨g, r, none⟩) n2 sc]).run Try.prog w.drew = .ok (goInt (n - i : Nat)) (w.drew.setRow g (L ++ ((A ++ [d]) ++ ((d :: ds) ++ (S ++ R)))).toArray) := fun q r n1 n2 ty dc sc e1 e2 e3 e4 => by
    subst e1 e2 e3 e4
    have := run_copyM (P := Try.prog) w.drew 35 35 ty 5 g (o + (i + 1)) (n - i) dc ⟨g, o + i, none⟩ (n + 1 - i) sc (n - i) _ 5 fz (d :: ds) Try.underlying35 sizeU' hgd.1 (by have := hgd.2; simp only [List.length_append] at this ⊢; exact this) (by simp only [Nat.min_def]; split <;> omega) (by have := hn.out; simp; omega)
      (by
        have h := hgd.cells i (by rw [← hA.out]; simp)
        rw [hL.out, ← hA.out, List.drop_left] at h
        rw [← hA.out]
        exact h) (by have := hL.out; have := hA.out; simp; omega) hall.out
    rw [this, show o + (i + 1) = L.length + A.length + 1 by rw [hL.out, hA.out]; omega, splice_in1]
  obtain ⟨W1, hW1⟩ : ∃ W1, W1 = w.drew.setRow g (L ++ ((A ++ [d]) ++ ((d :: ds) ++ (S ++ R)))).toArray := ⟨_, rfl⟩
  rw [← hW1] at hcp1
  have hf2 : Free fz (L ++ ((A ++ [d]) ++ ((d :: ds) ++ (S ++ R)))).length := by
    have h := hgd.2
    rw [show (L ++ ((A ++ [d]) ++ ((d :: ds) ++ (S ++ R)))).length = L.length + ((A ++ d :: ds).length + ((s0 :: S).length + R.length)) by simp; omega]
    exact h
  have hg1 : W1.heap[g]? = some (.cells (L ++ ((A ++ [d]) ++ ((d :: ds) ++ (S ++ R)))).toArray 5 fz) := by rw [hW1]; exact setRow_heap w.drew g _ _ 5 _ hgd.1
  have F1 : Fr (· = g) w W1 := by rw [hW1]; exact (Fr.drew _ w).trans (Fr.setRow _ _ _ rfl)
  have hv1 : W1.heap[vb]? = some (.cells [x].toArray 5 (0, 0)) := F1.keeps hv.out hvb
  have hcp2 : ∀ q n1 ty dc, q = o + i → n1 = n + 1 - i → (Builtin.copy_ #[35, 35] ty #[.slice (some ⟨g, q, none⟩) n1 dc, .slice (some ⟨vb, 0, none⟩) 1 1]).run Try.prog W1 = .ok (goInt (1 : Nat)) (W1.setRow g (L ++ ((A ++ x :: d :: ds) ++ (S ++ R))).toArray) := fun q n1 ty dc e1 e2 => by
    subst e1 e2
    have := run_copyM (P := Try.prog) W1 35 35 ty 5 g (o + i) (n + 1 - i) dc ⟨vb, 0, none⟩ 1 1 1 _ 5 fz [x] Try.underlying35 sizeU' hg1 hf2 (by simp only [Nat.min_def]; split <;> omega) rfl
      (fun j v hj => by rw [add_lit, Nat.zero_add, cell_row hv1, List.getElem?_toArray]; exact hj) (by have := hL.out; have := hA.out; simp; omega) (by intro v hv; simp at hv; subst hv; exact hx1.out)
    have e : L ++ ((A ++ [d]) ++ ((d :: ds) ++ (S ++ R))) = (L ++ A) ++ ([d] ++ ((d :: ds) ++ (S ++ R))) := by simp
    rw [this, e, show o + i = (L ++ A).length by simp [hL.out, hA.out], splice_mid _ _ _ _ (by simp)]
    simp
  obtain ⟨W2, hW2⟩ : ∃ W2, W2 = W1.setRow g (L ++ ((A ++ x :: d :: ds) ++ (S ++ R))).toArray := ⟨_, rfl⟩
  rw [← hW2] at hcp2
  have R : Hid (Seg W2 g 5 fz L (A ++ x :: d :: ds) S R ∧ Fr (· = g) w W2) := by
    rw [hW2]
    refine ⟨⟨setRow_heap W1 g _ _ 5 _ hg1, ?_⟩, F1.trans (Fr.setRow _ _ _ rfl)⟩
    have h := hgd.2
    rw [show L.length + ((A ++ x :: d :: ds).length + (S.length + R.length)) = L.length + ((A ++ d :: ds).length + ((s0 :: S).length + R.length)) by simp; omega]
    exact h
  clear hW1 hg1 F1 hv1 hW2 hgd hf2
  have hz2 : ¬ ((i : Int) = (n : Int)) := by omega
  have hw1 : IntKind.i64.wrap ((i : Int) + 1) = (i : Int) + 1 := by rw [IntKind.wrap_i64]; omega
  have hb1 : (0 : Int) ≤ (i : Int) + 1 := by omega
  have hin' : i ≤ n := by omega
  have htn : ((i : Int) + 1).toNat = i + 1 := by omega
  have hb2 : ¬ (c = i + 1) := by omega
  have hb3 : (i : Int) ≤ (n : Int) + 1 := by omega
  have hb4 : ¬ (c = i) := by omega
  go_enter Try.func47, Try.ntmps47
  go_wp2_with (simp only [hov])
  go_region_law (refine step_copy_k rfl _ _ 35 35 rfl _ _ (by simp [Act.eval, Act.put]) (by simp [Act.eval, Act.put]) (hcp1 _ _ _ _ _ _ _ (by omega) (by omega) (by omega) (by omega)) ?_)
  go_wp2_with (at_builtin; refine wpList_copy_k _ rfl _ _ 35 35 rfl _ _ rfl rfl (hcp2 _ _ _ _ (by omega) (by omega)) ?_)
  go_ret
  exact ⟨rfl, R.out⟩
end Go.Proofs.Ytlmgogonghafeab
