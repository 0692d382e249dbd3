/-
  put, Clone, Doc, Pending; texts and edits held against one another.
-/
import Derived.Test.YtjgpibajndlhaaaCf
import Derived.Test.YtjgpibajndlhaaaEc
namespace Go.Proofs.Ytjgpibajndlhaaa
open Go.RowKit
set_option linter.unusedVariables false

set_option maxRecDepth 100000 in
set_option maxHeartbeats 4000000 in
theorem put_ins_nil (ch cl sq : Int) (w : World) :
    Calls Try.prog 9 #[.slice none 0 0, .agg #[.int .i64 1, .int .i64 0, .int .u8 ch, .int .i64 cl, .int .i64 sq]] w fun e w' => ∃ v, e = .returned (.tuple #[v, .bool true]) ∧ PutE w w' v [(ch, cl, sq)] := by
  obtain ⟨i0, hi0, hz0, hz1, hz2⟩ := info_parts Try.infoE
  go_enter Try.func9, Try.ntmps9
  go_wp2_with (first | (at_make; refine wpList_make_k _ rfl _ _ 29 rfl 67 i0 _ Try.underlying29 hi0 hz0 _ _ _ _ 0 1 rfl rfl (by go_num) (by go_num) (by omega) (by rw [hz2]; omega) (by omega) ?_; intro w3 cur hg3 hcur hb3; have hp3 : w3.heap[w.heap.size]? = some (.cells #[.int .i64 1, .int .i64 0, .int .u8 ch, .int .i64 cl, .int .i64 sq] 34 (0, 0)) := (hb3.out.block _ (by simp)).trans (heap_alloc_new w _); obtain ⟨o0, o1, o2, o3, o4⟩ := cells_op hp3; have hR3 := (row_emptyE (m := 1) hg3.out (by have := hcur.out; rw [hz1] at this; exact this) (by omega)); simp only [World.size_alloc] at hR3; have hB3 := (((Below.refl w.heap.size w).alloc (Nat.le_refl _) _).trans (hb3.out.mono (by simp))); have hap1 := fun ty => run_app_zeroE w3 (w.heap.size + 1) 0 1 none 0 (by omega) ty; have R3 := hd hR3; have P3 := hd hp3; have B3 := hd hB3; clear hp3 hR3 hB3; clear hg3 hcur hb3) | (at_builtin; refine wpList_append_k _ rfl _ _ 29 29 rfl _ _ rfl rfl (hap1 _) ?_; clear hap1; obtain ⟨w5, hap2, hR5, hF5⟩ := run_app1E w3 (w.heap.size + 1) 0 1 [] R3.out (ch, cl, sq) (by omega); simp only [elc] at hap2; have hp5 := hF5.keeps P3.out (by omega); have R5 := hd hR5; have P5 := hd hp5; have F5 := hd hF5; clear hR5 hp5 hF5) | (at_builtin; refine wpList_append_k _ rfl _ _ 29 29 rfl _ _ rfl rfl (hap2 _) ?_; clear hap2 o0 o1 o2 o3 o4; obtain ⟨o0, o1, o2, o3, o4⟩ := cells_op P5.out; have hap3 := fun ty => run_app_zeroE w5 (w.heap.size + 1) 1 1 none 0 (by omega) ty) | (at_builtin; refine wpList_append_k _ rfl _ _ 29 29 rfl _ _ rfl rfl (hap3 _) ?_; clear hap3) | fail)
  have G : Hid (PutE w w5 (.slice (some ⟨w.heap.size + 1, 0, none⟩) 1 1) [(ch, cl, sq)]) :=
    ⟨w.heap.size + 1, 1, rfl, by omega, R5.out, B3.out.trans (F5.out.below B3.out.size (fun k h => by omega))⟩
  refine bodyPost_ret (v := .tuple #[.slice (some ⟨w.heap.size + 1, 0, none⟩) 1 1, .bool true]) (by simp [results, Try.results9, go_sem]) rfl ?_
  exact ⟨_, rfl, G.out⟩

/-- put of what fits, at nil or a row. -/
theorem put_se (β : Option Nat) (v : Value) (ds : List El) (o : OpE) (w : World) (hS : SE w β v ds) (hl : ds.length ≤ 4096) (ho : (o.kind = 1 ∧ ∃ q : Nat, o.pos = q ∧ q ≤ ds.length) ∨ (o.kind = 2 ∧ ∃ q : Nat, o.pos = q ∧ q < ds.length)) :
    Calls Try.prog 9 #[v, o.val] w fun e w' => ∃ v' g, e = .returned (.tuple #[v', .bool true]) ∧ SE w' (some g) v' (applyP ds o) ∧ w.heap.size ≤ g ∧ Below w.heap.size w w' := by
  have fin : ∀ {e : Ending} {w' : World} {ys : List El}, ys = applyP ds o → (∃ v, e = .returned (.tuple #[v, .bool true]) ∧ PutE w w' v ys) → ∃ v' g, e = .returned (.tuple #[v', .bool true]) ∧ SE w' (some g) v' (applyP ds o) ∧ w.heap.size ≤ g ∧ Below w.heap.size w w' := by
    rintro e w' ys rfl ⟨v, rfl, g, c, rfl, h1, h2, h3⟩
    exact ⟨_, g, rfl, ⟨c, rfl, h2⟩, h1, h3⟩
  obtain ⟨k, ps, ch, cl, sq⟩ := o
  rcases ho with ⟨rfl, q, rfl, hq⟩ | ⟨rfl, q, rfl, hq⟩
  · have ha : ds.insertIdx q (ch, cl, sq) = applyP ds ⟨1, q, ch, cl, sq⟩ := by
      rw [insertIdx_parts _ _ _ hq]
      simp [applyP]
    cases β with
    | none =>
      obtain ⟨rfl, rfl⟩ := hS
      obtain rfl : q = 0 := by simpa using hq
      exact (put_ins_nil ch cl sq w).mono (fun e w' h => fin (by simp [applyP]) h)
    | some g =>
      obtain ⟨c, rfl, hR⟩ := hS
      by_cases hc : c = q
      · obtain rfl : ds.length = q := by have := hR.isE.2.1; omega
        subst hc
        exact (put_ins_end g 0 _ ch cl sq ds w hR.isE (by omega)).mono (fun e w' h => fin ha h)
      · exact (put_ins_of g 0 _ c q ch cl sq ds w hR.isE (by omega) hq hc).mono (fun e w' h => fin ha h)
  · have ha : ds.eraseIdx q = applyP ds ⟨2, q, ch, cl, sq⟩ := by
      rw [List.eraseIdx_eq_take_drop_succ]
      simp [applyP]
    cases β with
    | none =>
      obtain ⟨rfl, rfl⟩ := hS
      simp at hq
    | some g =>
      obtain ⟨c, rfl, hR⟩ := hS
      by_cases hc : c = q + 1
      · have e : ds.length = q + 1 := by have := hR.isE.2.1; omega
        subst hc
        have hE := hR.isE
        rw [e] at hE ⊢
        exact (put_del_end g 0 q ch cl sq ds w hE (by omega)).mono (fun e w' h => fin ha h)
      · exact (put_del_of g 0 _ c q ch cl sq ds w hR.isE (by omega) hq hc).mono (fun e w' h => fin ha h)

end Go.Proofs.Ytjgpibajndlhaaa
