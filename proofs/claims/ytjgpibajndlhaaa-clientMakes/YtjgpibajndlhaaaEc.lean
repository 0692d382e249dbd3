/-
  put: a deletion.
-/
import Derived.Test.YtjgpibajndlhaaaEb
namespace Go.Proofs.Ytjgpibajndlhaaa
open Go.RowKit
set_option linter.unusedVariables false

set_option maxRecDepth 100000 in
set_option maxHeartbeats 4000000 in
theorem put_del_of (b off n c p : Nat) (ch cl sq : Int) (xs : List El) (w : World) (hE : IsE w (some ⟨b, off, none⟩) n c xs) (hn : (n + 1) * 24 ≤ 281474976710656) (hp' : p < n) (hcp : ¬ c = p + 1) :
    Calls Try.prog 9 #[.slice (some ⟨b, off, none⟩) n c, .agg #[.int .i64 2, .int .i64 p, .int .u8 ch, .int .i64 cl, .int .i64 sq]] w fun e w' => ∃ v, e = .returned (.tuple #[v, .bool true]) ∧ PutE w w' v (xs.eraseIdx p) := by
  have hp : p ≤ n := by omega
  obtain ⟨i0, hi0, hz0, hz1, hz2⟩ := info_parts Try.infoE
  have hw : IntKind.i64.wrap ((n : Int) + 1) = (n : Int) + 1 := by rw [IntKind.wrap_i64]; omega
  have HE := hd hE
  have HL := hd hE.1
  have hc := hE.2.1
  have hc' := hE.2.2.1
  have j1 : ¬ (p : Int) < 0 := by omega
  have j2 : ¬ (p : Int) ≥ (n : Int) := by omega
  have j3 : decide ((p : Int) < 0) = false := by simp
  have j4 : decide ((p : Int) ≥ (n : Int)) = false := by simp; omega
  have hw2 : IntKind.i64.wrap ((p : Int) + 1) = (p : Int) + 1 := by rw [IntKind.wrap_i64]; omega
  have q1 : (0 : Int) ≤ (p : Int) + 1 := by omega
  have q2 : ((p : Int) + 1).toNat = p + 1 := by omega
  have q3 : p + 1 ≤ n := by omega
  have q4 : (p : Int) + 1 ≤ (n : Int) := by omega
  have DD : Hid (∀ W, Below w.heap.size w W → IsE W (some ⟨b, off + (p + 1) * 3, none⟩) (n - (p + 1)) (c - (p + 1)) (xs.drop (p + 1))) := fun W h => drop_at (p + 1) hp' _ (HE.out.below h) (.inr rfl)
  clear hE
  go_enter Try.func9, Try.ntmps9
  go_wp2_with (first | (at_make; refine wpList_make_k _ rfl _ _ 29 rfl 67 i0 _ Try.underlying29 hi0 hz0 _ _ _ _ 0 (n + 1) rfl rfl (by go_num) (by first | go_num | (rw [hw]; go_num)) (by omega) (by rw [hz2]; omega) (by omega) ?_; intro w3 cur hg3 hcur hb3; have hp3 : w3.heap[w.heap.size]? = some (.cells #[.int .i64 2, .int .i64 p, .int .u8 ch, .int .i64 cl, .int .i64 sq] 34 (0, 0)) := (hb3.out.block _ (by simp)).trans (heap_alloc_new w _); obtain ⟨o0, o1, o2, o3, o4⟩ := cells_op hp3; have hR3 := (row_emptyE hg3.out (by have := hcur.out; rw [hz1] at this; exact this) (by omega)); simp only [World.size_alloc] at hR3; have hB3 := (((Below.refl w.heap.size w).alloc (Nat.le_refl _) _).trans (hb3.out.mono (by simp))); obtain ⟨w4, hap1, hR4, hF4⟩ := run_app_roomE w3 (w.heap.size + 1) 0 (n + 1) [] hR3 _ p c (xs.take p) ((HE.out.below hB3).take p hp) (by omega); simp only [List.nil_append, Nat.zero_add] at hap1 hR4; have hp4 := hF4.keeps hp3 (by omega); have R4 := hd hR4; have P4 := hd hp4; have B3 := hd hB3; have F4 := hd hF4; clear hp3 hR3 hB3 hR4 hp4 hF4; clear hg3 hcur hb3) | (at_builtin; refine wpList_append_k _ rfl _ _ 29 29 rfl _ _ rfl rfl (hap1 _) ?_; clear hap1 o0 o1 o2 o3 o4; obtain ⟨o0, o1, o2, o3, o4⟩ := cells_op P4.out; obtain ⟨w6, hap3, hR6, hF6⟩ := run_app_roomE w4 (w.heap.size + 1) p (n + 1) (xs.take p) R4.out _ (n - (p + 1)) (c - (p + 1)) (xs.drop (p + 1)) (DD.out w4 (B3.out.trans (F4.out.below B3.out.size (fun k h => by omega)))) (by omega); have R6 := hd hR6; have F6 := hd hF6; clear hR6 hF6) | (at_builtin; refine wpList_append_k _ rfl _ _ 29 29 rfl _ _ rfl rfl (hap3 _) ?_; clear hap3) | fail)
  have G : Hid (PutE w w6 (.slice (some ⟨w.heap.size + 1, 0, none⟩) (p + (n - (p + 1))) (n + 1)) (xs.eraseIdx p)) := by
    have l : (xs.eraseIdx p).length = p + (n - (p + 1)) := by have := HL.out; rw [erase_len _ _ (by omega)]; omega
    refine ⟨w.heap.size + 1, n + 1, by rw [l], by omega, ?_, ?_⟩
    · rw [l, List.eraseIdx_eq_take_drop_succ]
      exact R6.out
    · exact (B3.out.trans (F4.out.below B3.out.size (fun k h => by omega))).trans (F6.out.below (Nat.le_trans B3.out.size F4.out.size) (fun k h => by omega))
  refine bodyPost_ret (v := .tuple #[.slice (some ⟨w.heap.size + 1, 0, none⟩) (p + (n - (p + 1))) (n + 1), .bool true]) (by simp [results, Try.results9, go_sem]) rfl ?_
  exact ⟨_, rfl, G.out⟩

set_option maxRecDepth 100000 in
set_option maxHeartbeats 4000000 in
theorem put_del_end (b off p : Nat) (ch cl sq : Int) (xs : List El) (w : World) (hE : IsE w (some ⟨b, off, none⟩) (p + 1) (p + 1) xs) (hn : (p + 1 + 1) * 24 ≤ 281474976710656) :
    Calls Try.prog 9 #[.slice (some ⟨b, off, none⟩) (p + 1) (p + 1), .agg #[.int .i64 2, .int .i64 p, .int .u8 ch, .int .i64 cl, .int .i64 sq]] w fun e w' => ∃ v, e = .returned (.tuple #[v, .bool true]) ∧ PutE w w' v (xs.eraseIdx p) := by
  have hp : p ≤ p + 1 := by omega
  obtain ⟨i0, hi0, hz0, hz1, hz2⟩ := info_parts Try.infoE
  have hw : IntKind.i64.wrap (((p + 1) : Int) + 1) = ((p + 1) : Int) + 1 := by rw [IntKind.wrap_i64]; omega
  have HE := hd hE
  have HL := hd hE.1
  have hc := hE.2.1
  have hc' := hE.2.2.1
  have j1 : ¬ (p : Int) < 0 := by omega
  have j2 : ¬ (p : Int) ≥ ((p + 1) : Int) := by omega
  have j3 : decide ((p : Int) < 0) = false := by simp
  have j4 : decide ((p : Int) ≥ ((p + 1) : Int)) = false := by simp; omega
  have hw2 : IntKind.i64.wrap ((p : Int) + 1) = (p : Int) + 1 := by rw [IntKind.wrap_i64]; omega
  have q1 : (0 : Int) ≤ (p : Int) + 1 := by omega
  have q2 : ((p : Int) + 1).toNat = p + 1 := by omega
  have q3 : p + 1 ≤ (p + 1) := by omega
  have q4 : (p : Int) + 1 ≤ ((p + 1) : Int) := by omega
  clear hE
  go_enter Try.func9, Try.ntmps9
  go_wp2_with (first | (at_make; refine wpList_make_k _ rfl _ _ 29 rfl 67 i0 _ Try.underlying29 hi0 hz0 _ _ _ _ 0 (p + 1 + 1) rfl rfl (by go_num) (by first | go_num | (rw [hw]; go_num)) (by omega) (by rw [hz2]; omega) (by omega) ?_; intro w3 cur hg3 hcur hb3; have hp3 : w3.heap[w.heap.size]? = some (.cells #[.int .i64 2, .int .i64 p, .int .u8 ch, .int .i64 cl, .int .i64 sq] 34 (0, 0)) := (hb3.out.block _ (by simp)).trans (heap_alloc_new w _); obtain ⟨o0, o1, o2, o3, o4⟩ := cells_op hp3; have hR3 := (row_emptyE hg3.out (by have := hcur.out; rw [hz1] at this; exact this) (by omega)); simp only [World.size_alloc] at hR3; have hB3 := (((Below.refl w.heap.size w).alloc (Nat.le_refl _) _).trans (hb3.out.mono (by simp))); obtain ⟨w4, hap1, hR4, hF4⟩ := run_app_roomE w3 (w.heap.size + 1) 0 (p + 1 + 1) [] hR3 _ p (p + 1) (xs.take p) ((HE.out.below hB3).take p hp) (by omega); simp only [List.nil_append, Nat.zero_add] at hap1 hR4; have hp4 := hF4.keeps hp3 (by omega); have R4 := hd hR4; have P4 := hd hp4; have B3 := hd hB3; have F4 := hd hF4; clear hp3 hR3 hB3 hR4 hp4 hF4; clear hg3 hcur hb3) | (at_builtin; refine wpList_append_k _ rfl _ _ 29 29 rfl _ _ rfl rfl (hap1 _) ?_; clear hap1 o0 o1 o2 o3 o4; obtain ⟨o0, o1, o2, o3, o4⟩ := cells_op P4.out; have hap3 : ∀ A k ty, (Builtin.append_ #[29, 29] ty #[.slice (some ⟨w.heap.size + 1, 0, none⟩) p (p + 1 + 1), .slice A 0 k]).run Try.prog w4 = .ok (.slice (some ⟨w.heap.size + 1, 0, none⟩) p (p + 1 + 1)) w4 := (fun A k ty => run_app_zeroE w4 (w.heap.size + 1) p (p + 1 + 1) A k (by omega) ty)) | (at_builtin; refine wpList_append_k _ rfl _ _ 29 29 rfl _ _ rfl rfl (hap3 _ _ _) ?_; clear hap3) | fail)
  have G : Hid (PutE w w4 (.slice (some ⟨w.heap.size + 1, 0, none⟩) p (p + 1 + 1)) (xs.eraseIdx p)) := by
    have l : (xs.eraseIdx p).length = p := by have := HL.out; rw [erase_len _ _ (by omega)]; omega
    refine ⟨w.heap.size + 1, p + 1 + 1, by rw [l], by omega, ?_, ?_⟩
    · rw [l, List.eraseIdx_eq_take_drop_succ]
      have := R4.out
      rw [show xs.drop (p + 1) = [] from List.drop_of_length_le (by rw [HL.out]; exact Nat.le_refl _), List.append_nil]
      exact this
    · exact B3.out.trans (F4.out.below B3.out.size (fun k h => by omega))
  refine bodyPost_ret (v := .tuple #[.slice (some ⟨w.heap.size + 1, 0, none⟩) p (p + 1 + 1), .bool true]) (by simp [results, Try.results9, go_sem]) rfl ?_
  exact ⟨_, rfl, G.out⟩

end Go.Proofs.Ytjgpibajndlhaaa
