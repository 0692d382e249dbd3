/-
  put: a Nop; what fits; a whole line.
-/
import Derived.Test.YtmkgkgdngjmcmabDoorEc
import Derived.Deep.RegionHeld3
namespace Go.Proofs.YtmkgkgdngjmcmabDoor
open Go.RowKit
set_option linter.unusedVariables false

set_option maxRecDepth 100000 in
set_option maxHeartbeats 4000000 in
theorem put_nop (a : Option Addr) (n c : Nat) (cl sq : Int) (xs : List El) (w : World) (hE : IsE w a n c xs) (hn : (n + 1) * 24 ≤ 281474976710656) :
    Calls Tryd.prog 25 #[.slice a n c, .agg #[.int .i64 0, .int .i64 0, .int .u8 0, .int .i64 cl, .int .i64 sq]] w fun e w' => ∃ v, e = .returned (.tuple #[v, .bool true]) ∧ PutE w w' v xs := by
  obtain ⟨i0, hi0, hz0, hz1, hz2⟩ := info_parts Tryd.infoE
  have hw : IntKind.i64.wrap ((n : Int) + 1) = (n : Int) + 1 := by rw [IntKind.wrap_i64]; omega
  have HE := hd hE
  have HL := hd hE.1
  clear hE
  go_enter Tryd.func25, Tryd.ntmps25
  go_wp2_with (first | (at_make; refine wpList_make_k _ rfl _ _ 42 rfl 50 i0 _ Tryd.underlying42 hi0 hz0 _ _ _ _ 0 (n + 1) rfl rfl (by go_num) (by first | go_num | (rw [hw]; go_num)) (by omega) (by rw [hz2]; omega) (by omega) ?_; intro w3 cur hg3 hcur hb3; have hp3 : w3.heap[w.heap.size]? = some (.cells #[.int .i64 0, .int .i64 0, .int .u8 0, .int .i64 cl, .int .i64 sq] 23 (0, 0)) := (hb3.out.block _ (by simp)).trans (heap_alloc_new w _); obtain ⟨o0, o1, o2, o3, o4⟩ := cells_op hp3; have hR3 := (row_emptyE hg3.out (by have := hcur.out; rw [hz1] at this; exact this) (by omega)); simp only [World.size_alloc] at hR3; have hB3 := (((Below.refl w.heap.size w).alloc (Nat.le_refl _) _).trans (hb3.out.mono (by simp))); obtain ⟨w4, hap1, hR4, hF4⟩ := run_app_roomE w3.drew (w.heap.size + 1) 0 (n + 1) [] (hR3.fr (S := fun _ => False) (Fr.drew _ _) (fun h => h)) _ n c xs ((HE.out.below hB3).fr (S := fun _ => False) (Fr.drew _ _) (fun _ _ _ _ h => h)) (by omega); simp only [List.nil_append, Nat.zero_add] at hap1 hR4; have hp4 := hF4.keeps (show w3.drew.heap[w.heap.size]? = _ from hp3) (by omega); have R4 := hd hR4; have P4 := hd hp4; have B3 := hd hB3.drew; have F4 := hd hF4; clear hp3 hR3 hB3 hR4 hp4 hF4; clear hg3 hcur hb3) | (at_builtin; refine wpList_append_k _ rfl _ _ 42 42 rfl _ _ rfl rfl (hap1 _) ?_; clear hap1 o0 o1 o2 o3 o4; obtain ⟨o0, o1, o2, o3, o4⟩ := cells_op P4.out) | fail)
  go_region_held3 (fun W => W.cell? ⟨w.heap.size, 1, none⟩ = some (.int .i64 0) ∧ W.cell? ⟨w.heap.size, 2, none⟩ = some (.int .u8 0)) (first | (with_reducible exact ⟨by assumption, by assumption⟩) | (go_keep; done)) (first | (refine step_append_k rfl (.tmp 15) (.tmp 16) 42 42 rfl (.slice (some ⟨w.heap.size + 1, 0, none⟩) 0 (n + 1)) (.slice a n c) (by simp [Act.eval]) (by simp [Act.eval]) (hap1 _) ?_; clear hap1; obtain ⟨o0, o1, o2, o3, o4⟩ := cells_op P4.out))
  have G : Hid (PutE w w4 (.slice (some ⟨w.heap.size + 1, 0, none⟩) n (n + 1)) xs) :=
    ⟨w.heap.size + 1, n + 1, by rw [HL.out], by omega, by rw [HL.out]; exact R4.out, B3.out.trans (F4.out.below B3.out.size (fun k h => by omega))⟩
  go_wp2
  refine bodyPost_ret (v := .tuple #[.slice (some ⟨w.heap.size + 1, 0, none⟩) n (n + 1), .bool true]) (by simp [results, Tryd.results25, go_sem]) rfl ?_
  exact ⟨_, rfl, G.out⟩

/-- put, of an operation that fits. -/
theorem put_fit (b off n c : Nat) (o : OpE) (xs : List El) (w : World) (hE : IsE w (some ⟨b, off, none⟩) n c xs) (hn : (n + 1) * 24 ≤ 281474976710656) (ho : FitO n o) :
    Calls Tryd.prog 25 #[.slice (some ⟨b, off, none⟩) n c, o.val] w fun e w' => ∃ v, e = .returned (.tuple #[v, .bool true]) ∧ PutE w w' v (putP xs o) := by
  obtain ⟨k, p, ch, cl, sq⟩ := o
  unfold FitO at ho
  simp only at ho
  rcases ho with ⟨rfl, rfl, rfl⟩ | ⟨rfl, q, rfl, hq⟩ | ⟨rfl, q, rfl, hq⟩
  · rw [putP_nop]
    exact put_nop _ n c cl sq xs w hE hn
  · rw [putP_ins]
    by_cases h : c = q
    · obtain rfl : n = q := by have := hE.2.1; omega
      subst h
      exact put_ins_end b off c ch cl sq xs w hE hn
    · exact put_ins_of b off n c q ch cl sq xs w hE hn hq h
  · rw [putP_del]
    by_cases h : c = q + 1
    · obtain rfl : n = q + 1 := by have := hE.2.1; omega
      subst h
      exact put_del_end b off q ch cl sq xs w hE hn
    · exact put_del_of b off n c q ch cl sq xs w hE hn hq h

end Go.Proofs.YtmkgkgdngjmcmabDoor
