/-
  What the law Fresh's text is.
-/
import Derived.Test.YtlmgogonghafeabML
import Derived.Test.YtlmgogonghafeabMV
import Derived.Test.YtlmgogonghafeabSq
namespace Go.Proofs.Ytlmgogonghafeab
open Go.RowKit Go.Lib
set_option linter.unusedVariables false

/-- The text begins so. -/
def FT (T : By) : Prop := ∃ R : By, T = 97 :: 98 :: 32 :: 97 :: 98 :: 32 :: R
theorem FT.len {T : By} (h : FT T) : 6 ≤ T.length := by
  obtain ⟨R, rfl⟩ := h
  simp
theorem FT.two {T : By} (h : FT T) : 2 ≤ (plc T (⟨#[97, 98]⟩ : ByteArray).data.toList).length := by
  have h0 : (0 : Nat) ∈ plc T (⟨#[97, 98]⟩ : ByteArray).data.toList := by
    obtain ⟨R, rfl⟩ := h
    exact fnd_mem.2 (.inl ⟨Nat.le_refl _, by simp, by simp [stB, List.isPrefixOf]⟩)
  have h3 : (3 : Nat) ∈ plc T (⟨#[97, 98]⟩ : ByteArray).data.toList := by
    obtain ⟨R, rfl⟩ := h
    exact fnd_mem.2 (.inl ⟨by omega, by simp, by simp [stB, List.isPrefixOf]⟩)
  match hl : plc T (⟨#[97, 98]⟩ : ByteArray).data.toList, h0, h3 with
  | [], h0, h3 => cases h0
  | [x], h0, h3 =>
    rw [List.mem_singleton] at h0 h3
    omega
  | x :: y :: l, _, _ => simp
theorem FT.wd {T : By} (h : FT T) : ([97, 98] : By) ∈ wdP T := by
  obtain ⟨R, rfl⟩ := h
  unfold wdP
  rw [wdF, if_pos (by decide), wdF, if_pos (by decide), wdF, if_neg (by decide), if_neg (by simp)]
  exact List.mem_cons_self
theorem FT.ks {T : By} {ks : List By} (h : FT T) (hk : Wds (wdP T) ks) : 1 ≤ ks.length := List.length_pos_of_mem ((hk.mem _).2 h.wd)
theorem apS_grow (m : Nat) : ∀ (l : List Nat) (s : Nat × List Nat), s.2.length ≤ (l.foldl (apN m) s).2.length
  | [], s => Nat.le_refl _
  | p :: l, s => by
    refine Nat.le_trans ?_ (apS_grow m l (apN m s p))
    unfold apN
    split
    · simp
    · exact Nat.le_refl _
theorem apS_pos {m : Nat} : ∀ {l : List Nat}, 1 ≤ l.length → 1 ≤ (apS m l).2.length
  | p :: l, _ => by
    have := apS_grow m l (apN m (0, []) p)
    unfold apS
    rw [List.foldl_cons]
    refine Nat.le_trans ?_ this
    unfold apN
    rw [if_pos (Nat.zero_le _)]
    simp
theorem swL_pos {T p b : By} {cl fs : Int} (hp : 1 ≤ p.length) (h : 1 ≤ (plc T p).length) : (swE T p b cl fs = 0 ∧ 0 < (swL T p b cl fs).length) ∨ (swE T p b cl fs ≠ 0 ∧ (swL T p b cl fs).length = 0) := by
  by_cases h0 : swE T p b cl fs = 0
  · refine .inl ⟨h0, ?_⟩
    unfold swL
    rw [if_pos h0, swS_len]
    have h1 : 1 ≤ (apP T p).length := apS_pos h
    exact Nat.mul_pos h1 (by omega)
  · refine .inr ⟨h0, ?_⟩
    unfold swL
    rw [if_neg h0]
    rfl
theorem FT.sw {T b : By} {cl fs : Int} (h : FT T) : (swE T (⟨#[97, 98]⟩ : ByteArray).data.toList b cl fs = 0 ∧ 0 < (swL T (⟨#[97, 98]⟩ : ByteArray).data.toList b cl fs).length) ∨ (swE T (⟨#[97, 98]⟩ : ByteArray).data.toList b cl fs ≠ 0 ∧ (swL T (⟨#[97, 98]⟩ : ByteArray).data.toList b cl fs).length = 0) :=
  swL_pos (by decide) (by have := h.two; omega)
theorem FT.k {T : By} (h : FT T) (n : Nat) : T ≠ List.replicate n 107 := by
  obtain ⟨R, rfl⟩ := h
  intro e
  have h1 : (97 : UInt8) ∈ List.replicate n (107 : UInt8) := by rw [← e]; exact List.mem_cons_self
  have := List.eq_of_mem_replicate h1
  revert this
  decide
/-- The text behind the law's two operations. -/
theorem apT_two (T : By) (n : Nat) (q : Int) (hn : T.length = n) (h0 : 1 ≤ n) : apT (apT T ⟨1, (n : Int), q, 1, 1⟩) ⟨2, 0, 0, 1, 2⟩ = T.drop 1 ++ [UInt8.ofNat q.toNat] := by
  unfold apT
  simp only []
  rw [if_neg (by decide), if_pos trivial, if_pos trivial]
  have h1 : (n : Int).toNat = T.length := by omega
  rw [h1, List.take_length, List.drop_length]
  simp only [Int.toNat_zero, List.take_zero, List.nil_append, Nat.zero_add]
  rw [List.drop_append_of_le_length (by omega)]
theorem now_str (T : By) (n : Nat) (b : UInt8) (hn : T.length = n) (h0 : 1 ≤ n) : (bsA T).extract 1 n ++ bsA [b] = bsA (T.drop 1 ++ [b]) := by
  apply ByteArray.ext
  apply Array.ext'
  rw [ByteArray.data_append, Array.toList_append, ByteArray.data_extract, Array.toList_extract, List.extract_eq_take_drop, bsA_list, bsA_list, bsA_list, List.take_of_length_le (by simp; omega)]

/-- append of the law's two elements. -/
theorem run_room (w0 w : World) (v : Value) (xs : List El) (n : Nat) (h : TxI w0 w v xs) (hn : xs.length = n) (h3 : n ≤ 300) :
    ∃ g c w2, (∀ ty, (Builtin.append_ #[22, 22] ty #[v, .slice (some ⟨w.heap.size, 0, none⟩) 2 2]).run Try.prog (w.alloc (.cells #[.int .u8 82, .int .i64 1, .int .i64 9, .int .u8 83, .int .i64 1, .int .i64 9] 25)) = .ok (.slice (some ⟨g, 0, none⟩) (n + 2) c) w2) ∧
      w0.heap.size ≤ g ∧ g < w2.heap.size ∧ SF elc 3 w2 25 (some g) (.slice (some ⟨g, 0, none⟩) (n + 2) c) (xs ++ [(82, 1, 9), (83, 1, 9)]) ∧ n + 2 ≤ c ∧ c ≤ 9223372036854775807 ∧ Below w0.heap.size w0 w2 := by
  obtain ⟨β, hS, hβ, hb⟩ := h
  obtain ⟨i0, hi0, hz0, hz1, hz2⟩ := info_parts Try.infoE
  have hz := heap_alloc_new w (.cells #[.int .u8 82, .int .i64 1, .int .i64 9, .int .u8 83, .int .i64 1, .int .i64 9] 25)
  have b0 : Below w.heap.size w (w.alloc (.cells #[.int .u8 82, .int .i64 1, .int .i64 9, .int .u8 83, .int .i64 1, .int .i64 9] 25)) := (Below.refl _ _).alloc (Nat.le_refl _) _
  obtain ⟨v', w', hr, hN⟩ := run_pushF sz_elc (P := Try.prog) (w.alloc (.cells #[.int .u8 82, .int .i64 1, .int .i64 9, .int .u8 83, .int .i64 1, .int .i64 9] 25)) 22 0 25 i0 _ 24 Try.underlying22 hi0 hz0 hz1 rfl hz2 β v xs (hS.fr (Fr.alloc (fun _ => False) _ _) (fun _ _ h => h)) ⟨w.heap.size, 0, none⟩ 2 2 [(82, 1, 9), (83, 1, 9)] rfl (fun j u hj => by
    rw [add_lit, Nat.zero_add, cell_row hz]
    have e : cl elc [((82 : Int), ((1 : Int), (9 : Int))), (83, 1, 9)] = [.int .u8 82, .int .i64 1, .int .i64 9, .int .u8 83, .int .i64 1, .int .i64 9] := rfl
    rw [e] at hj
    rw [List.getElem?_toArray]
    exact hj) (by omega) (by omega) (by omega)
  obtain ⟨g, hS2, hg⟩ := hN
  have hlt := hS2.lt g rfl
  obtain ⟨cap, hvv, hR⟩ := hS2
  have hR2 := hR
  obtain ⟨cur, hh, ht, hl, hn2, hm, hs⟩ := hR
  have hll : (xs ++ [((82 : Int), ((1 : Int), (9 : Int))), (83, 1, 9)]).length = n + 2 := by simp [hn]
  have hvv2 := hvv
  rw [hll] at hvv hn2
  subst hvv
  refine ⟨g, cap, w', fun ty => hr, ?_, hlt, ⟨cap, hvv2, hR2⟩, hn2, hm, ?_⟩
  · rcases hg with ⟨e1, -⟩ | ⟨e1, -⟩
    · exact hβ _ e1
    · have := hb.size
      have := b0.size
      omega
  · rcases hg with ⟨e1, hF⟩ | ⟨e1, hF⟩
    · exact (hb.trans (b0.mono hb.size)).trans (hF.below (Nat.le_trans hb.size b0.size) (fun q hq => by rw [hq]; exact hβ _ e1))
    · exact (hb.trans (b0.mono hb.size)).trans (hF.below (Nat.le_trans hb.size b0.size) (fun q hq => hq.elim))
end Go.Proofs.Ytlmgogonghafeab
