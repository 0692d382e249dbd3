/-
  put: the text behind one operation that fits.
-/
import Derived.Test.YtjgpibajndlhaaaEa
namespace Go.Proofs.Ytjgpibajndlhaaa
open Go.RowKit
set_option linter.unusedVariables false

theorem cells_op {w : World} {g : Nat} {a b c d e : Value} {t : TypeId} (h : w.heap[g]? = some (.cells #[a, b, c, d, e] t (0, 0))) :
    w.cell? ⟨g, 0, none⟩ = some a ∧ w.cell? ⟨g, 1, none⟩ = some b ∧ w.cell? ⟨g, 2, none⟩ = some c ∧ w.cell? ⟨g, 3, none⟩ = some d ∧ w.cell? ⟨g, 4, none⟩ = some e := by
  simp [World.cell?, h]

/-- What put leaves: a new row. -/
def PutE (w w' : World) (v : Value) (ys : List El) : Prop := ∃ g c, v = .slice (some ⟨g, 0, none⟩) ys.length c ∧ w.heap.size ≤ g ∧ RowE w' g ys.length c ys ∧ Below w.heap.size w w'

theorem run_app_zeroE (w : World) (g N cap : Nat) (a : Option Addr) (c : Nat) (hc : N ≤ cap) (ty : TypeId) :
    (Builtin.append_ #[29, 29] ty #[.slice (some ⟨g, 0, none⟩) N cap, .slice a 0 c]).run Try.prog w = .ok (.slice (some ⟨g, 0, none⟩) N cap) w := by
  obtain ⟨i0, hi0, hz0, hz1, hz2⟩ := info_parts Try.infoE
  have hl : ∀ (x : Addr), (loadCells x 0).run Try.prog w = .ok #[] w := fun x => by simpa using run_loadCells_list (P := Try.prog) w x [] (by simp)
  cases a <;> simp [Builtin.append_, run_underlying Try.underlying29, Builtin.lenOf, Builtin.firstCells, sizeOf, typeInfo, hi0, storeCells, hl, hc]

theorem drop_at {w : World} {b off n c : Nat} {xs : List El} (p : Nat) (hp : p ≤ n) (A : Option Addr) (hE : IsE w (some ⟨b, off, none⟩) n c xs) (hA : (c = p) ∨ A = some ⟨b, off + p * 3, none⟩) : IsE w A (n - p) (c - p) (xs.drop p) := by
  rcases hA with h | rfl
  · have := hE.2.1
    have h0 : n - p = 0 := by omega
    rw [h0]
    exact ⟨by have := hE.1; simp; omega, by omega, by have := hE.2.2.1; omega, fun h => by omega⟩
  · exact hE.drop p hp

set_option maxRecDepth 100000 in
set_option maxHeartbeats 4000000 in
theorem put_ins_of (b off n c p : Nat) (ch cl sq : Int) (xs : List El) (w : World) (hE : IsE w (some ⟨b, off, none⟩) n c xs) (hn : (n + 1) * 24 ≤ 281474976710656) (hp : p ≤ n) (hcp : ¬ c = p) :
    Calls Try.prog 9 #[.slice (some ⟨b, off, none⟩) n c, .agg #[.int .i64 1, .int .i64 p, .int .u8 ch, .int .i64 cl, .int .i64 sq]] w fun e w' => ∃ v, e = .returned (.tuple #[v, .bool true]) ∧ PutE w w' v (xs.insertIdx p (ch, cl, sq)) := by
  obtain ⟨i0, hi0, hz0, hz1, hz2⟩ := info_parts Try.infoE
  have hw : IntKind.i64.wrap ((n : Int) + 1) = (n : Int) + 1 := by rw [IntKind.wrap_i64]; omega
  have HE := hd hE
  have HL := hd hE.1
  have hc := hE.2.1
  have hc' := hE.2.2.1
  have j1 : ¬ (p : Int) < 0 := by omega
  have j2 : ¬ (p : Int) > (n : Int) := by omega
  have j3 : decide ((p : Int) < 0) = false := by simp
  have j4 : decide ((p : Int) > (n : Int)) = false := by simp; omega
  have DD : Hid (∀ W, Below w.heap.size w W → IsE W (some ⟨b, off + p * 3, none⟩) (n - p) (c - p) (xs.drop p)) := fun W h => drop_at p hp _ (HE.out.below h) (.inr rfl)
  clear hE
  go_enter Try.func9, Try.ntmps9
  go_wp2_with (first | (at_make; refine wpList_make_k _ rfl _ _ 29 rfl 67 i0 _ Try.underlying29 hi0 hz0 _ _ _ _ 0 (n + 1) rfl rfl (by go_num) (by first | go_num | (rw [hw]; go_num)) (by omega) (by rw [hz2]; omega) (by omega) ?_; intro w3 cur hg3 hcur hb3; have hp3 : w3.heap[w.heap.size]? = some (.cells #[.int .i64 1, .int .i64 p, .int .u8 ch, .int .i64 cl, .int .i64 sq] 34 (0, 0)) := (hb3.out.block _ (by simp)).trans (heap_alloc_new w _); obtain ⟨o0, o1, o2, o3, o4⟩ := cells_op hp3; have hR3 := (row_emptyE hg3.out (by have := hcur.out; rw [hz1] at this; exact this) (by omega)); simp only [World.size_alloc] at hR3; have hB3 := (((Below.refl w.heap.size w).alloc (Nat.le_refl _) _).trans (hb3.out.mono (by simp))); obtain ⟨w4, hap1, hR4, hF4⟩ := run_app_roomE w3 (w.heap.size + 1) 0 (n + 1) [] hR3 _ p c (xs.take p) ((HE.out.below hB3).take p hp) (by omega); simp only [List.nil_append, Nat.zero_add] at hap1 hR4; have hp4 := hF4.keeps hp3 (by omega); have R4 := hd hR4; have P4 := hd hp4; have B3 := hd hB3; have F4 := hd hF4; clear hp3 hR3 hB3 hR4 hp4 hF4; clear hg3 hcur hb3) | (at_builtin; refine wpList_append_k _ rfl _ _ 29 29 rfl _ _ rfl rfl (hap1 _) ?_; clear hap1 o0 o1 o2 o3 o4; obtain ⟨o0, o1, o2, o3, o4⟩ := cells_op P4.out; obtain ⟨w5, hap2, hR5, hF5⟩ := run_app1E w4 (w.heap.size + 1) p (n + 1) (xs.take p) R4.out (ch, cl, sq) (by omega); simp only [elc] at hap2; have hp5 := hF5.keeps P4.out (by omega); have R5 := hd hR5; have P5 := hd hp5; have F5 := hd hF5; clear hR5 hp5 hF5) | (at_builtin; refine wpList_append_k _ rfl _ _ 29 29 rfl _ _ rfl rfl (hap2 _) ?_; clear hap2 o0 o1 o2 o3 o4; obtain ⟨o0, o1, o2, o3, o4⟩ := cells_op P5.out; obtain ⟨w6, hap3, hR6, hF6⟩ := run_app_roomE w5 (w.heap.size + 1) (p + 1) (n + 1) (xs.take p ++ [(ch, cl, sq)]) R5.out _ (n - p) (c - p) (xs.drop p) (DD.out w5 ((B3.out.trans (F4.out.below B3.out.size (fun k h => by omega))).trans (F5.out.below (Nat.le_trans B3.out.size F4.out.size) (fun k h => by omega)))) (by omega); have R6 := hd hR6; have F6 := hd hF6; clear hR6 hF6) | (at_builtin; refine wpList_append_k _ rfl _ _ 29 29 rfl _ _ rfl rfl (hap3 _) ?_; clear hap3) | fail)
  have G : Hid (PutE w w6 (.slice (some ⟨w.heap.size + 1, 0, none⟩) (p + 1 + (n - p)) (n + 1)) (xs.insertIdx p (ch, cl, sq))) := by
    have e : xs.insertIdx p (ch, cl, sq) = xs.take p ++ [(ch, cl, sq)] ++ xs.drop p := by rw [insertIdx_parts _ _ _ (by rw [HL.out]; exact hp), List.append_assoc]
    have l : (xs.insertIdx p (ch, cl, sq)).length = p + 1 + (n - p) := by have := HL.out; rw [insert_len _ _ _ (by omega)]; omega
    refine ⟨w.heap.size + 1, n + 1, by rw [l], by omega, ?_, ?_⟩
    · rw [l, e]
      exact R6.out
    · exact ((B3.out.trans (F4.out.below B3.out.size (fun k h => by omega))).trans (F5.out.below (Nat.le_trans B3.out.size F4.out.size) (fun k h => by omega))).trans (F6.out.below (Nat.le_trans (Nat.le_trans B3.out.size F4.out.size) F5.out.size) (fun k h => by omega))
  refine bodyPost_ret (v := .tuple #[.slice (some ⟨w.heap.size + 1, 0, none⟩) (p + 1 + (n - p)) (n + 1), .bool true]) (by simp [results, Try.results9, go_sem]) rfl ?_
  exact ⟨_, rfl, G.out⟩

set_option maxRecDepth 100000 in
set_option maxHeartbeats 4000000 in
theorem put_ins_end (b off p : Nat) (ch cl sq : Int) (xs : List El) (w : World) (hE : IsE w (some ⟨b, off, none⟩) p p xs) (hn : (p + 1) * 24 ≤ 281474976710656) :
    Calls Try.prog 9 #[.slice (some ⟨b, off, none⟩) p p, .agg #[.int .i64 1, .int .i64 p, .int .u8 ch, .int .i64 cl, .int .i64 sq]] w fun e w' => ∃ v, e = .returned (.tuple #[v, .bool true]) ∧ PutE w w' v (xs.insertIdx p (ch, cl, sq)) := by
  have hp : p ≤ p := Nat.le_refl _
  obtain ⟨i0, hi0, hz0, hz1, hz2⟩ := info_parts Try.infoE
  have hw : IntKind.i64.wrap ((p : Int) + 1) = (p : Int) + 1 := by rw [IntKind.wrap_i64]; omega
  have HE := hd hE
  have HL := hd hE.1
  have hc := hE.2.1
  have hc' := hE.2.2.1
  have j1 : ¬ (p : Int) < 0 := by omega
  have j2 : ¬ (p : Int) > (p : Int) := by omega
  have j3 : decide ((p : Int) < 0) = false := by simp
  have j4 : decide ((p : Int) > (p : Int)) = false := by simp
  clear hE
  go_enter Try.func9, Try.ntmps9
  go_wp2_with (first | (at_make; refine wpList_make_k _ rfl _ _ 29 rfl 67 i0 _ Try.underlying29 hi0 hz0 _ _ _ _ 0 (p + 1) rfl rfl (by go_num) (by first | go_num | (rw [hw]; go_num)) (by omega) (by rw [hz2]; omega) (by omega) ?_; intro w3 cur hg3 hcur hb3; have hp3 : w3.heap[w.heap.size]? = some (.cells #[.int .i64 1, .int .i64 p, .int .u8 ch, .int .i64 cl, .int .i64 sq] 34 (0, 0)) := (hb3.out.block _ (by simp)).trans (heap_alloc_new w _); obtain ⟨o0, o1, o2, o3, o4⟩ := cells_op hp3; have hR3 := (row_emptyE hg3.out (by have := hcur.out; rw [hz1] at this; exact this) (by omega)); simp only [World.size_alloc] at hR3; have hB3 := (((Below.refl w.heap.size w).alloc (Nat.le_refl _) _).trans (hb3.out.mono (by simp))); obtain ⟨w4, hap1, hR4, hF4⟩ := run_app_roomE w3 (w.heap.size + 1) 0 (p + 1) [] hR3 _ p p (xs.take p) ((HE.out.below hB3).take p hp) (by omega); simp only [List.nil_append, Nat.zero_add] at hap1 hR4; have hp4 := hF4.keeps hp3 (by omega); have R4 := hd hR4; have P4 := hd hp4; have B3 := hd hB3; have F4 := hd hF4; clear hp3 hR3 hB3 hR4 hp4 hF4; clear hg3 hcur hb3) | (at_builtin; refine wpList_append_k _ rfl _ _ 29 29 rfl _ _ rfl rfl (hap1 _) ?_; clear hap1 o0 o1 o2 o3 o4; obtain ⟨o0, o1, o2, o3, o4⟩ := cells_op P4.out; obtain ⟨w5, hap2, hR5, hF5⟩ := run_app1E w4 (w.heap.size + 1) p (p + 1) (xs.take p) R4.out (ch, cl, sq) (by omega); simp only [elc] at hap2; have hp5 := hF5.keeps P4.out (by omega); have R5 := hd hR5; have P5 := hd hp5; have F5 := hd hF5; clear hR5 hp5 hF5) | (at_builtin; refine wpList_append_k _ rfl _ _ 29 29 rfl _ _ rfl rfl (hap2 _) ?_; clear hap2 o0 o1 o2 o3 o4; obtain ⟨o0, o1, o2, o3, o4⟩ := cells_op P5.out; have hap3 : ∀ A k ty, (Builtin.append_ #[29, 29] ty #[.slice (some ⟨w.heap.size + 1, 0, none⟩) (p + 1) (p + 1), .slice A 0 k]).run Try.prog w5 = .ok (.slice (some ⟨w.heap.size + 1, 0, none⟩) (p + 1) (p + 1)) w5 := (fun A k ty => run_app_zeroE w5 (w.heap.size + 1) (p + 1) (p + 1) A k (Nat.le_refl _) ty)) | (at_builtin; refine wpList_append_k _ rfl _ _ 29 29 rfl _ _ rfl rfl (hap3 _ _ _) ?_; clear hap3) | fail)
  have G : Hid (PutE w w5 (.slice (some ⟨w.heap.size + 1, 0, none⟩) (p + 1) (p + 1)) (xs.insertIdx p (ch, cl, sq))) := by
    have e : xs.insertIdx p (ch, cl, sq) = xs.take p ++ [(ch, cl, sq)] ++ xs.drop p := by rw [insertIdx_parts _ _ _ (by rw [HL.out]; exact hp), List.append_assoc]
    have l : (xs.insertIdx p (ch, cl, sq)).length = p + 1 := by have := HL.out; rw [insert_len _ _ _ (by omega)]; omega
    refine ⟨w.heap.size + 1, p + 1, by rw [l], by omega, ?_, ?_⟩
    · rw [l, e]
      have := R5.out
      rw [show xs.drop p = [] from List.drop_of_length_le (by rw [HL.out]; exact Nat.le_refl _), List.append_nil]
      exact this
    · exact (B3.out.trans (F4.out.below B3.out.size (fun k h => by omega))).trans (F5.out.below (Nat.le_trans B3.out.size F4.out.size) (fun k h => by omega))
  refine bodyPost_ret (v := .tuple #[.slice (some ⟨w.heap.size + 1, 0, none⟩) (p + 1) (p + 1), .bool true]) (by simp [results, Try.results9, go_sem]) rfl ?_
  exact ⟨_, rfl, G.out⟩

end Go.Proofs.Ytjgpibajndlhaaa
