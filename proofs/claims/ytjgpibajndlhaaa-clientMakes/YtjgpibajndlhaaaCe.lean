/-
  Insert, Delete.
-/
import Derived.Test.YtjgpibajndlhaaaCd
namespace Go.Proofs.Ytjgpibajndlhaaa
open Go.RowKit
set_option linter.unusedVariables false
variable {T : Nat → Prop}

def zed : Value := .agg #[.int .i64 0, .int .i64 0, .int .i64 0, .int .u8 0, .int .i64 0, .int .i64 0]

/-- What an edit leaves. -/
def Done (T : Nat → Prop) (w w' : World) (x z : Nat) (id : Int) (ds : List El) (es : List (Int × OpE)) (βp : Option Nat) (o : OpE) (n : Nat) : Prop :=
  ∃ βp' p', CL (TU T w.heap.size) w' x z id (applyP ds o) (es ++ [(0, o)]) βp' p' ∧ p'.last = (n : Int) + 1 ∧ (βp' = βp ∨ ∃ g, βp' = some g ∧ w.heap.size ≤ g) ∧ Fr (fun j => T j ∧ (Tg w j 64 ∨ SpS T w j ∨ βp = some j)) w w'

theorem Done.after {w u w' : World} {x z : Nat} {id : Int} {ds : List El} {es : List (Int × OpE)} {βp : Option Nat} {o : OpE} {n : Nat} {p : Sp} (hb : Below w.heap.size w u) (h : CL T w x z id ds es βp p) (hD : Done T u w' x z id ds es βp o n) : Done T w w' x z id ds es βp o n := by
  obtain ⟨β, q, h1, h2, h3, h4⟩ := hD
  refine ⟨β, q, h1.mono (fun k h => h.imp (fun h => h) (fun h => Nat.le_trans hb.size h)), h2, h3.imp (fun h => h) (fun ⟨g, hg, hl⟩ => ⟨g, hg, Nat.le_trans hb.size hl⟩), (Fr.of_below (S := fun j => T j ∧ (Tg w j 64 ∨ SpS T w j ∨ βp = some j)) hb).next h4 ?_⟩
  have tg : ∀ i t, i < w.heap.size → Tg u i t → Tg w i t := fun i t hi ⟨c, hc⟩ => ⟨c, (hb.block i hi).symm.trans hc⟩
  rintro i hi ⟨hB, hh | ⟨-, hh | hh | hh⟩ | hh⟩
  · exact ⟨hB, .inl (tg _ _ hi hh)⟩
  · exact ⟨hB, .inr (.inl ⟨hB, .inl (tg _ _ hi hh)⟩)⟩
  · exact ⟨hB, .inr (.inl ⟨hB, .inr (.inl (tg _ _ hi hh))⟩)⟩
  · exact ⟨hB, .inr (.inl ⟨hB, .inr (.inr (tg _ _ hi hh))⟩)⟩
  · exact ⟨hB, .inr (.inr hh)⟩

/-- The answer is stored in a block of the call's own. -/
theorem Done.out {w w2 : World} {x z : Nat} {id : Int} {ds : List El} {es : List (Int × OpE)} {βp : Option Nat} {o : OpE} {n : Nat} {p : Sp} (h : CL T w x z id ds es βp p) (hD : Done T (w.alloc (.cells #[.int .i64 0, .int .i64 0, .int .i64 0, .int .u8 0, .int .i64 0, .int .i64 0] 36)) w2 x z id ds es βp o n) :
    w2.heap[w.heap.size]? = some (.cells #[.int .i64 0, .int .i64 0, .int .i64 0, .int .u8 0, .int .i64 0, .int .i64 0] 36 (0, 0)) ∧ ∀ W, Fr (· = w.heap.size) w2 W → Done T w W x z id ds es βp o n := by
  have hb : Below w.heap.size w (w.alloc (.cells #[.int .i64 0, .int .i64 0, .int .i64 0, .int .u8 0, .int .i64 0, .int .i64 0] 36)) := (Below.refl _ _).alloc (Nat.le_refl _) _
  have hX := heap_alloc_new w (.cells #[.int .i64 0, .int .i64 0, .int .i64 0, .int .u8 0, .int .i64 0, .int .i64 0] 36)
  have hD' := hD.after hb h
  obtain ⟨β, q, h1, h2, h3, h4⟩ := hD
  have ht : Tg (w.alloc (.cells #[.int .i64 0, .int .i64 0, .int .i64 0, .int .u8 0, .int .i64 0, .int .i64 0] 36)) w.heap.size 36 := ⟨_, hX⟩
  have hX2 : w2.heap[w.heap.size]? = some (.cells #[.int .i64 0, .int .i64 0, .int .i64 0, .int .u8 0, .int .i64 0, .int .i64 0] 36 (0, 0)) := by
    refine h4.keeps hX ?_
    rintro ⟨-, hh | hh | hh⟩
    · exact hh.ne ht (by decide) rfl
    · exact hh.not ht (by decide) (by decide) (by decide) rfl
    · have := h.plt hh; omega
  have ht2 : Tg w2 w.heap.size 36 := ⟨_, hX2⟩
  refine ⟨hX2, fun W hF => ?_⟩
  obtain ⟨β', q', g1, g2, g3, g4⟩ := hD'
  refine ⟨β, q, (h1.mono (fun k h => h.imp (fun h => h) (fun h => by simp at h; omega))).fr hF ?_ ?_, h2, ?_, g4.next hF (fun j hj hh => by omega)⟩
  · rintro j (hj | hj | hj | hj)
    · exact hj.ne ht2 (by decide)
    · exact hj.ne ht2 (by decide)
    · exact hj.ne ht2 (by decide)
    · exact hj.not ht2 (by decide) (by decide) (by decide)
  · rintro g hg rfl
    rcases h3 with h3 | ⟨g', h3, hl⟩
    · have := h.plt (h3 ▸ hg); omega
    · rw [h3] at hg
      injection hg with hg
      simp at hl
      omega
  · rcases h3 with h3 | ⟨g', h3, hl⟩
    · exact .inl h3
    · simp at hl
      exact .inr ⟨g', h3, by omega⟩

theorem fits_ins {n p : Nat} {c l s : Int} (h1 : 32 ≤ c) (h2 : c ≤ 126) (h3 : 1 ≤ l) (h4 : l ≤ 64) (h5 : 1 ≤ s) (h6 : s ≤ 64) (h7 : p ≤ n) (h8 : n < 4096) : fitsP n ⟨1, p, c, l, s⟩ = 0 := by
  have hv : validP ⟨1, p, c, l, s⟩ = 0 := by
    have a1 : inR l 1 64 = true := by simp [inR]; omega
    have a2 : inR s 1 64 = true := by simp [inR]; omega
    have a3 : holdP 1 c = true := by simp [holdP, inR]; omega
    have a4 : pointP 1 p = true := by simp [pointP, inR]; omega
    simp [validP, a1, a2, a3, a4]
  have a5 : inR (n : Int) 0 4096 = true := by simp [inR]; omega
  rw [fitsP, if_neg (by rw [hv]; omega), if_neg (by rw [a5]; simp; omega), if_neg (by simp; omega)]
theorem fits_del {n p : Nat} {l s : Int} (h3 : 1 ≤ l) (h4 : l ≤ 64) (h5 : 1 ≤ s) (h6 : s ≤ 64) (h7 : p < n) (h8 : n ≤ 4096) : fitsP n ⟨2, p, 0, l, s⟩ = 0 := by
  have hv : validP ⟨2, p, 0, l, s⟩ = 0 := by
    have a1 : inR l 1 64 = true := by simp [inR]; omega
    have a2 : inR s 1 64 = true := by simp [inR]; omega
    have a3 : holdP 2 0 = true := by simp [holdP]
    have a4 : pointP 2 p = true := by simp [pointP, inR]; omega
    simp [validP, a1, a2, a3, a4]
  have a5 : inR (n : Int) 0 4096 = true := by simp [inR]; omega
  rw [fitsP, if_neg (by rw [hv]; omega), if_neg (by rw [a5]; simp), if_neg (by simp; omega)]

end Go.Proofs.Ytjgpibajndlhaaa
