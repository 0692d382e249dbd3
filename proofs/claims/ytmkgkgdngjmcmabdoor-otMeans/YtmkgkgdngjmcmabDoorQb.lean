/-
  bounded, rest, made: moves.
-/
import Derived.Test.YtmkgkgdngjmcmabDoorNe
import Derived.Test.YtmkgkgdngjmcmabDoorUb
import Derived.Laws.NewDeep
namespace Go.Proofs.YtmkgkgdngjmcmabDoor
open Go.RowKit
set_option linter.unusedVariables false

set_option maxHeartbeats 1000000 in
theorem rest_any (x : Int) (M : Nat) (w : World) (h0 : 0 < M) (h1 : M ≤ 1000000000000000) :
    Calls Tryd.prog 29 #[.int .i64 x, .int .i64 M] w fun e w' => ∃ p : Nat, e = .returned (.int .i64 p) ∧ p < M ∧ w = w' := by
  have b1 : x.tmod M < M := Int.tmod_lt_of_pos _ (by omega)
  have b2 : -(M : Int) < x.tmod M := by
    have := Int.lt_tmod_of_pos x (b := (M : Int)) (by omega)
    omega
  have hM : ¬ ((M : Int) = 0) := by omega
  obtain ⟨r, hr⟩ : ∃ r, r = x.tmod M := ⟨_, rfl⟩
  rw [← hr] at b1 b2
  have ht : x.tmod (M : Int) = r := hr.symm
  clear hr
  by_cases hn : r < 0
  · obtain ⟨p, hp⟩ : ∃ p : Nat, r + (M : Int) = (p : Int) := ⟨(r + (M : Int)).toNat, by omega⟩
    have R : Hid (p < M) := by
      show _ < _
      omega
    go_enter Tryd.func29, Tryd.ntmps29
    go_wp2
    go_ret
    exact ⟨p, by first | rfl | (simp; omega), R.out, rfl⟩
  · obtain ⟨p, hp⟩ : ∃ p : Nat, r = (p : Int) := ⟨r.toNat, by omega⟩
    have R : Hid (p < M) := by
      show _ < _
      omega
    go_enter Tryd.func29, Tryd.ntmps29
    go_wp2
    go_ret
    exact ⟨p, by first | rfl | (simp; omega), R.out, rfl⟩

def restN (x : Int) (M : Nat) : Nat := (if x.tmod M < 0 then x.tmod M + M else x.tmod M).toNat

theorem restN_lt (x : Int) (M : Nat) (h0 : 0 < M) : restN x M < M := by
  have b1 : x.tmod M < M := Int.tmod_lt_of_pos _ (by omega)
  have b2 : -(M : Int) < x.tmod M := by
    have := Int.lt_tmod_of_pos x (b := (M : Int)) (by omega)
    omega
  unfold restN
  split <;> omega

set_option maxHeartbeats 1000000 in
theorem rest_is (x : Int) (M : Nat) (w : World) (h0 : 0 < M) (h1 : M ≤ 1000000000000000) :
    Calls Tryd.prog 29 #[.int .i64 x, .int .i64 M] w fun e w' => e = .returned (.int .i64 (restN x M)) ∧ w' = w := by
  have b1 : x.tmod M < M := Int.tmod_lt_of_pos _ (by omega)
  have b2 : -(M : Int) < x.tmod M := by
    have := Int.lt_tmod_of_pos x (b := (M : Int)) (by omega)
    omega
  have hM : ¬ ((M : Int) = 0) := by omega
  obtain ⟨r, hr⟩ : ∃ r, r = x.tmod M := ⟨_, rfl⟩
  have hv : ((restN x M : Nat) : Int) = if r < 0 then r + M else r := by
    unfold restN
    rw [← hr] at b1 b2 ⊢
    split <;> omega
  rw [← hr] at b1 b2
  have ht : x.tmod (M : Int) = r := hr.symm
  clear hr
  rw [hv]
  clear hv
  by_cases hn : r < 0
  · rw [if_pos hn]
    go_enter Tryd.func29, Tryd.ntmps29
    go_wp2
    go_ret
    exact ⟨by first | rfl | (simp; omega), rfl⟩
  · rw [if_neg hn]
    go_enter Tryd.func29, Tryd.ntmps29
    go_wp2
    go_ret
    exact ⟨by first | rfl | (simp; omega), rfl⟩

theorem rest_isI (x m : Int) (M : Nat) (hm : m = (M : Int)) (w : World) (h0 : 0 < M) (h1 : M ≤ 1000000000000000) :
    Calls Tryd.prog 29 #[.int .i64 x, .int .i64 m] w fun e w' => e = .returned (.int .i64 (restN x M)) ∧ w' = w := by
  subst hm
  exact rest_is x M w h0 h1

theorem bounded_any (x : Int) (w : World) : Calls Tryd.prog 16 #[.int .i64 x] w fun e w' => ∃ n : Nat, e = .returned (.int .i64 n) ∧ n ≤ 4096 ∧ w = w' := by
  by_cases h : x < 0
  · go_enter Tryd.func16, Tryd.ntmps16
    go_wp2
    go_ret
    exact ⟨0, rfl, by omega, rfl⟩
  · by_cases h2 : x > 4096
    · go_enter Tryd.func16, Tryd.ntmps16
      go_wp2
      go_ret
      exact ⟨4096, rfl, by omega, rfl⟩
    · obtain ⟨n, rfl⟩ := Int.eq_ofNat_of_zero_le (show 0 ≤ x by omega)
      go_enter Tryd.func16, Tryd.ntmps16
      go_wp2
      go_ret
      exact ⟨n, rfl, by omega, rfl⟩

/-- An operation made of a move at a text of n elements. -/
def MadeO (n : Nat) (cl sq : Int) (o : OpE) : Prop := FitO n o ∧ (o.kind = 1 ∨ o.kind = 2) ∧ o.cl = cl ∧ o.sq = sq

set_option maxRecDepth 100000 in
set_option maxHeartbeats 2000000 in
theorem made_any (del : Bool) (at' ch cl sq : Int) (n : Nat) (w : World) (hn : n ≤ 100000000000000) :
    Calls Tryd.prog 22 #[.agg #[.bool del, .int .i64 at', .int .u8 ch], .int .i64 n, .int .i64 cl, .int .i64 sq] w fun e w' => ∃ o : OpE, e = .returned o.val ∧ MadeO n cl sq o ∧ Below w.heap.size w w' := by
  by_cases ho : del = true ∧ 0 < n
  · obtain ⟨rfl, hn0⟩ := ho
    have i1 : (n : Int) > 0 := by omega
    go_enter Tryd.func22, Tryd.ntmps22
    go_wp2_with fail
    refine (rest_any at' n _ (by omega) (by omega)).mono ?_
    rintro e w2 ⟨p, rfl, hp, rfl⟩
    have HP := hd hp
    clear hp
    go_wp2
    refine bodyPost_ret (v := .agg #[.int .i64 2, .int .i64 p, .int .u8 0, .int .i64 cl, .int .i64 sq]) (by simp [results, Tryd.results22, go_sem]) rfl ?_
    exact ⟨⟨2, p, 0, cl, sq⟩, rfl, ⟨.inr (.inr ⟨rfl, p, rfl, HP.out⟩), .inr rfl, rfl, rfl⟩, by first | exact ((Below.refl _ _).alloc (Nat.le_refl _) _).alloc (by simp) _ | exact (((Below.refl _ _).alloc (Nat.le_refl _) _).alloc (by simp) _).alloc (by simp; omega) _⟩
  · cases del with
    | false =>
      have HP := hd (restN_lt at' (n + 1) (by omega))
      have hw : IntKind.i64.wrap ((n : Int) + 1) = (n : Int) + 1 := by rw [IntKind.wrap_i64]; omega
      go_enter Tryd.func22, Tryd.ntmps22
      go_wp2_with fail
      go_region_held3 (fun W => W.cell? ⟨w.heap.size, 1, none⟩ = some (.int .i64 at') ∧ W.cell? ⟨w.heap.size, 2, none⟩ = some (.int .u8 ch)) (first | (with_reducible exact ⟨by assumption, by assumption⟩) | (go_keep; done)) (first | (go_at_call 29; refine (rest_isI at' ((n : Int) + 1) (n + 1) (by omega) _ (by omega) (by omega)).mono ?_; rintro e w2 ⟨rfl, rfl⟩))
      go_wp2
      refine bodyPost_ret (v := .agg #[.int .i64 1, .int .i64 (restN at' (n + 1) : Nat), .int .u8 ch, .int .i64 cl, .int .i64 sq]) (by simp [results, Tryd.results22, go_sem]) rfl ?_
      exact ⟨⟨1, (restN at' (n + 1) : Nat), ch, cl, sq⟩, rfl, ⟨.inr (.inl ⟨rfl, _, rfl, by have := HP.out; omega⟩), .inl rfl, rfl, rfl⟩, (((Below.refl _ _).alloc (Nat.le_refl _) _).alloc (by simp) _).drew⟩
    | true =>
      obtain rfl : n = 0 := by
        by_cases h : 0 < n
        · exact absurd ⟨rfl, h⟩ ho
        · omega
      have HP := hd (restN_lt at' (0 + 1) (by omega))
      go_enter Tryd.func22, Tryd.ntmps22
      go_wp2_with fail
      go_region_held3 (fun W => W.cell? ⟨w.heap.size, 1, none⟩ = some (.int .i64 at') ∧ W.cell? ⟨w.heap.size, 2, none⟩ = some (.int .u8 ch)) (first | (with_reducible exact ⟨by assumption, by assumption⟩) | (go_keep; done)) (first | (go_at_call 29; refine (rest_isI at' (1 : Int) (0 + 1) (by omega) _ (by omega) (by omega)).mono ?_; rintro e w2 ⟨rfl, rfl⟩))
      go_wp2
      refine bodyPost_ret (v := .agg #[.int .i64 1, .int .i64 (restN at' (0 + 1) : Nat), .int .u8 ch, .int .i64 cl, .int .i64 sq]) (by simp [results, Tryd.results22, go_sem]) rfl ?_
      exact ⟨⟨1, (restN at' (0 + 1) : Nat), ch, cl, sq⟩, rfl, ⟨.inr (.inl ⟨rfl, _, rfl, by have := HP.out; omega⟩), .inl rfl, rfl, rfl⟩, (((Below.refl _ _).alloc (Nat.le_refl _) _).alloc (by simp) _).drew⟩

end Go.Proofs.YtmkgkgdngjmcmabDoor
