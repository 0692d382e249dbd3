/-
  Items and their bytes, without memory.
-/
import Derived.Test.YtibnlfdnnlbeeaaDoorVi
namespace Go.Proofs.YtibnlfdnnlbeeaaDoor
open Go.RowKit
set_option linter.unusedVariables false

def itOf (V : Nat → Int) : It := ⟨V 0, V 1, V 8, V 9, V 10, V 11, V 12, V 13⟩
/-- An item whose numbers are in their ranges, and its bytes. -/
def Rel (x : It) (bs : List Int) : Prop :=
  (∃ e, 1 ≤ e ∧ e ≤ 255 ∧ x = ⟨1, e, 0, 0, 0, 0, 0, 0⟩ ∧ bs = [1, e]) ∨
  (∃ t k p c l s, 0 ≤ t ∧ t ≤ 4096 ∧ 0 ≤ k ∧ k ≤ 2 ∧ 1 ≤ l ∧ l ≤ 64 ∧ 1 ≤ s ∧ s ≤ 64 ∧ (k = 0 → p = 0) ∧ (k ≠ 0 → 0 ≤ p ∧ p ≤ 4095) ∧ (k = 1 → 32 ≤ c ∧ c ≤ 126) ∧ (k ≠ 1 → c = 0) ∧
    x = ⟨2, 0, t, k, p, c, l, s⟩ ∧ bs = [2, t / 256, t % 256, k, p / 256, p % 256, c, l, s])

theorem pos2 : posAt 2 1 = 1 := by decide
theorem posE : posAt 16128 8 = 1 ∧ posAt 16128 9 = 3 ∧ posAt 16128 10 = 4 ∧ posAt 16128 11 = 6 ∧ posAt 16128 12 = 7 ∧ posAt 16128 13 = 8 := by decide

theorem list2 {bs : List Int} (h : bs.length = 2) : ∃ a b, bs = [a, b] := by
  match bs, h with
  | [a, b], _ => exact ⟨a, b, rfl⟩
theorem list9 {bs : List Int} (h : bs.length = 9) : ∃ a b c d e f g i j, bs = [a, b, c, d, e, f, g, i, j] := by
  match bs, h with
  | [a, b, c, d, e, f, g, i, j], _ => exact ⟨a, b, c, d, e, f, g, i, j, rfl⟩

theorem rel_of_read (bs : List Int) (hR : Rng bs) (h0 : nmP (bs.getD 0 0) ≠ 0) (hl : bs.length = sizeP (nmP (bs.getD 0 0))) (hg : goodTo (nmP (bs.getD 0 0)) bs 14) : Rel (itOf (valsTo (nmP (bs.getD 0 0)) bs 14)) bs := by
  rcases kind_of _ h0 with hk | hk
  · rw [hk] at hl hg ⊢
    have e : nmP 1 = 2 := rfl
    rw [e] at hl hg ⊢
    rw [size_2] at hl
    obtain ⟨a, b, rfl⟩ := list2 hl
    simp at hk
    subst hk
    have h1 := hg 1 (by omega) (by decide)
    simp [allowsP, hasP, valsTo, fldV, pos2, lo, hi] at h1
    exact .inl ⟨b, h1.1, h1.2, by simp [itOf, valsTo, fldV, hasP, pos2], rfl⟩
  · rw [hk] at hl hg ⊢
    have e : nmP 2 = 16128 := rfl
    rw [e] at hl hg ⊢
    rw [size_16128] at hl
    obtain ⟨a, b, c, d, e, f, g, i, j, rfl⟩ := list9 hl
    obtain ⟨p8, p9, p10, p11, p12, p13⟩ := posE
    simp at hk
    subst hk
    have r1 := hR b (by simp)
    have r2 := hR c (by simp)
    have r4 := hR e (by simp)
    have r5 := hR f (by simp)
    have h8 := hg 8 (by omega) (by decide)
    have h9 := hg 9 (by omega) (by decide)
    have h10 := hg 10 (by omega) (by decide)
    have h11 := hg 11 (by omega) (by decide)
    have h12 := hg 12 (by omega) (by decide)
    have h13 := hg 13 (by omega) (by decide)
    simp [allowsP, hasP, valsTo, fldV, p8, p9, p10, p11, p12, p13, lo, hi] at h8 h9 h10 h11 h12 h13
    refine .inr ⟨b * 256 + c, d, e * 256 + f, g, i, j, by omega, by omega, by omega, by omega, by omega, by omega, by omega, by omega, ?_, ?_, ?_, ?_, by simp [itOf, valsTo, fldV, hasP, p8, p9, p10, p11, p12, p13], ?_⟩
    · intro hd0
      simp [hd0] at h10
      omega
    · intro hd0
      simp [hd0] at h10
      omega
    · intro hd0
      simp [hd0] at h11
      omega
    · intro hd0
      simp [hd0] at h11
      omega
    · have e1 : (b * 256 + c) / 256 = b := by omega
      have e2 : (b * 256 + c) % 256 = c := by omega
      have e3 : (e * 256 + f) / 256 = e := by omega
      have e4 : (e * 256 + f) % 256 = f := by omega
      rw [e1, e2, e3, e4]

theorem read_of_rel {x : It} {bs : List Int} (h : Rel x bs) : Rng bs ∧ bs ≠ [] ∧ nmP (bs.getD 0 0) ≠ 0 ∧ bs.length = sizeP (nmP (bs.getD 0 0)) ∧ goodTo (nmP (bs.getD 0 0)) bs 14 ∧ itOf (valsTo (nmP (bs.getD 0 0)) bs 14) = x := by
  have cs : ∀ f, f < 14 → f = 0 ∨ f = 1 ∨ f = 2 ∨ f = 3 ∨ f = 4 ∨ f = 5 ∨ f = 6 ∨ f = 7 ∨ f = 8 ∨ f = 9 ∨ f = 10 ∨ f = 11 ∨ f = 12 ∨ f = 13 := by intro f hf; omega
  rcases h with ⟨e, h1, h2, rfl, rfl⟩ | ⟨t, k, p, c, l, s, t1, t2, k1, k2, l1, l2, s1, s2, q1, q2, q3, q4, rfl, rfl⟩
  · have e1 : nmP ([1, e].getD 0 0) = 2 := rfl
    rw [e1, size_2]
    refine ⟨?_, by simp, by decide, rfl, ?_, by simp [itOf, valsTo, fldV, hasP, pos2]⟩
    · intro x hx
      simp at hx
      omega
    · intro f hf hp
      rcases cs f hf with rfl | rfl | rfl | rfl | rfl | rfl | rfl | rfl | rfl | rfl | rfl | rfl | rfl | rfl <;> first | (exact absurd hp (by decide)) | skip
      simp [allowsP, hasP, valsTo, fldV, pos2, lo, hi]
      omega
  · obtain ⟨p8, p9, p10, p11, p12, p13⟩ := posE
    have e1 : nmP ([2, t / 256, t % 256, k, p / 256, p % 256, c, l, s].getD 0 0) = 16128 := rfl
    have hp0 : 0 ≤ p ∧ p ≤ 4095 := by
      by_cases hk : k = 0
      · have := q1 hk; omega
      · exact q2 hk
    have hc0 : 0 ≤ c ∧ c ≤ 126 := by
      by_cases hk : k = 1
      · have := q3 hk; omega
      · have := q4 hk; omega
    have et : t / 256 * 256 + t % 256 = t := by omega
    have ep : p / 256 * 256 + p % 256 = p := by omega
    rw [e1, size_16128]
    refine ⟨?_, by simp, by decide, rfl, ?_, by simp [itOf, valsTo, fldV, hasP, p8, p9, p10, p11, p12, p13, et, ep]⟩
    · intro x hx
      simp at hx
      omega
    · intro f hf hp
      rcases cs f hf with rfl | rfl | rfl | rfl | rfl | rfl | rfl | rfl | rfl | rfl | rfl | rfl | rfl | rfl <;> first | (exact absurd hp (by decide)) | skip
      · simp [allowsP, hasP, valsTo, fldV, p8, lo, hi, et]; omega
      · simp [allowsP, hasP, valsTo, fldV, p9, lo, hi]; omega
      · by_cases hk : k = 0
        · simp [allowsP, hasP, valsTo, fldV, p9, p10, hk, q1 hk]
        · simp [allowsP, hasP, valsTo, fldV, p9, p10, lo, hi, ep, hk]; omega
      · by_cases hk : k = 1
        · have := q3 hk
          simp [allowsP, hasP, valsTo, fldV, p9, p11, lo, hi, hk]; omega
        · simp [allowsP, hasP, valsTo, fldV, p9, p11, hk, q4 hk]
      · simp [allowsP, hasP, valsTo, fldV, p12, lo, hi]; omega
      · simp [allowsP, hasP, valsTo, fldV, p13, lo, hi]; omega

theorem write_of_rel {x : It} {bs : List Int} (h : Rel x bs) : nmP x.kind ≠ 0 ∧ okTo (nmP x.kind) (VX x) 14 ∧ bytesAt (nmP x.kind) (VX x) 14 = bs ∧ OkI x := by
  have cs : ∀ f, f < 14 → f = 0 ∨ f = 1 ∨ f = 2 ∨ f = 3 ∨ f = 4 ∨ f = 5 ∨ f = 6 ∨ f = 7 ∨ f = 8 ∨ f = 9 ∨ f = 10 ∨ f = 11 ∨ f = 12 ∨ f = 13 := by intro f hf; omega
  rcases h with ⟨e, h1, h2, rfl, rfl⟩ | ⟨t, k, p, c, l, s, t1, t2, k1, k2, l1, l2, s1, s2, q1, q2, q3, q4, rfl, rfl⟩
  · have e1 : nmP 1 = 2 := rfl
    refine ⟨by rw [e1]; decide, ?_, ?_, by unfold OkI; simp⟩
    · rw [e1]
      intro f hf hp
      rcases cs f hf with rfl | rfl | rfl | rfl | rfl | rfl | rfl | rfl | rfl | rfl | rfl | rfl | rfl | rfl <;> first | (exact absurd hp (by decide)) | skip
      all_goals first | (simp [allowsP, hasP, VX, lo, hi]; done) | (simp [allowsP, hasP, VX, lo, hi]; omega)
    · rw [e1]
      have : e % 256 = e := by omega
      simp [bytesAt, List.range_succ, hasP, fldB, VX, this]
  · have e1 : nmP 2 = 16128 := rfl
    have hp0 : 0 ≤ p ∧ p ≤ 4095 := by
      by_cases hk : k = 0
      · have := q1 hk; omega
      · exact q2 hk
    have hc0 : 0 ≤ c ∧ c ≤ 126 := by
      by_cases hk : k = 1
      · have := q3 hk; omega
      · have := q4 hk; omega
    refine ⟨by rw [e1]; decide, ?_, ?_, by unfold OkI; simp; omega⟩
    · rw [e1]
      intro f hf hp
      rcases cs f hf with rfl | rfl | rfl | rfl | rfl | rfl | rfl | rfl | rfl | rfl | rfl | rfl | rfl | rfl <;> first | (exact absurd hp (by decide)) | skip
      · simp [allowsP, hasP, VX]
      · simp [allowsP, hasP, VX, lo, hi]; omega
      · simp [allowsP, hasP, VX, lo, hi]; omega
      · by_cases hk : k = 0
        · simp [allowsP, hasP, VX, hk, q1 hk]
        · simp [allowsP, hasP, VX, lo, hi, hk]; omega
      · by_cases hk : k = 1
        · have := q3 hk
          simp [allowsP, hasP, VX, lo, hi, hk]; omega
        · simp [allowsP, hasP, VX, hk, q4 hk]
      · simp [allowsP, hasP, VX, lo, hi]; omega
      · simp [allowsP, hasP, VX, lo, hi]; omega
    · rw [e1]
      have a1 : t / 256 % 256 = t / 256 := by omega
      have a2 : p / 256 % 256 = p / 256 := by omega
      have a3 : k % 256 = k := by omega
      have a4 : c % 256 = c := by omega
      have a5 : l % 256 = l := by omega
      have a6 : s % 256 = s := by omega
      simp [bytesAt, List.range_succ, hasP, fldB, VX, a1, a2, a3, a4, a5, a6]

/-- A number brought into its range. -/
def withinP (v lo hi : Int) : Int := if lo ≤ v ∧ v ≤ hi then v else lo + v % (hi - lo + 1)
theorem within_rng (v lo hi : Int) (h : lo ≤ hi) : lo ≤ withinP v lo hi ∧ withinP v lo hi ≤ hi := by
  unfold withinP
  split
  · assumption
  · have := Int.emod_nonneg v (show hi - lo + 1 ≠ 0 by omega)
    have := Int.emod_lt_of_pos v (show 0 < hi - lo + 1 by omega)
    omega
theorem within_id (v lo hi : Int) (h : lo ≤ v ∧ v ≤ hi) : withinP v lo hi = v := by simp [withinP, h]

def posP (k p : Int) : Int := if k = 0 then 0 else withinP p 0 4095
def chP (k c : Int) : Int := if k = 1 then withinP c 32 126 else 0
def itemP (x : It) : It :=
  if withinP x.kind 1 2 = 1 then ⟨1, withinP x.epoch 1 255, 0, 0, 0, 0, 0, 0⟩
  else ⟨2, 0, withinP x.tag 0 4096, withinP x.ok 0 2, posP (withinP x.ok 0 2) x.pos, chP (withinP x.ok 0 2) x.ch, withinP x.cl 1 64, withinP x.sq 1 64⟩

theorem rel_itemP (x : It) : ∃ bs, Rel (itemP x) bs := by
  unfold itemP
  split
  · have := within_rng x.epoch 1 255 (by omega)
    exact ⟨_, .inl ⟨_, this.1, this.2, rfl, rfl⟩⟩
  · have a1 := within_rng x.tag 0 4096 (by omega)
    have a2 := within_rng x.ok 0 2 (by omega)
    have a3 := within_rng x.cl 1 64 (by omega)
    have a4 := within_rng x.sq 1 64 (by omega)
    refine ⟨_, .inr ⟨_, _, _, _, _, _, a1.1, a1.2, a2.1, a2.2, a3.1, a3.2, a4.1, a4.2, ?_, ?_, ?_, ?_, rfl, rfl⟩⟩
    · intro h; simp [posP, h]
    · intro h; simp only [posP, h, if_false]; exact within_rng _ _ _ (by omega)
    · intro h; simp only [chP, h, if_true]; exact within_rng _ _ _ (by omega)
    · intro h; simp [chP, h]

theorem itemP_rel {x : It} {bs : List Int} (h : Rel x bs) : itemP x = x := by
  rcases h with ⟨e, h1, h2, rfl, rfl⟩ | ⟨t, k, p, c, l, s, t1, t2, k1, k2, l1, l2, s1, s2, q1, q2, q3, q4, rfl, rfl⟩
  · have a : withinP 1 1 2 = 1 := within_id _ _ _ (by omega)
    simp [itemP, a, within_id e 1 255 ⟨h1, h2⟩]
  · have a : withinP 2 1 2 = 2 := within_id _ _ _ (by omega)
    have b1 := within_id t 0 4096 ⟨t1, t2⟩
    have b2 := within_id k 0 2 ⟨k1, k2⟩
    have b3 := within_id l 1 64 ⟨l1, l2⟩
    have b4 := within_id s 1 64 ⟨s1, s2⟩
    have b5 : posP k p = p := by
      unfold posP
      split
      · rename_i hk; exact (q1 hk).symm
      · rename_i hk; exact within_id _ _ _ (q2 hk)
    have b6 : chP k c = c := by
      unfold chP
      split
      · rename_i hk; exact within_id _ _ _ (q3 hk)
      · rename_i hk; exact (q4 hk).symm
    simp [itemP, a, b1, b2, b3, b4, b5, b6]

end Go.Proofs.YtibnlfdnnlbeeaaDoor
