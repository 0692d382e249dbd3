/-
  back.
-/
import Derived.Test.YtkidhfednipdcabDoorEnc
import Derived.Deep.RegionWith
namespace Go.Proofs.YtkidhfednipdcabDoor
open Go.RowKit

theorem be1 (x : Int) : be [x] = x := by simp [be]
theorem be2 (x y : Int) : be [x, y] = x * 256 + y := by simp [be]
theorem be4 (x y z t : Int) : be [x, y, z, t] = ((x * 256 + y) * 256 + z) * 256 + t := by simp [be]

/-- The number of the box of the operation, behind a turn of the reader. -/
theorem box_num {w w1 : World} {r : Nat} {k N num : Int} {which : Bool} (h : But r (w.alloc (.cells #[.int .i64 k, .bool which, .int .i64 N, .int .u64 num] 38)).drew w1) (hr : r < w.heap.size) :
    w1.cell? ⟨w.heap.size, 3, none⟩ = some (.int .u64 num) := by
  rw [h.cell (p := ⟨w.heap.size, 3, none⟩) (by simp) (by simp; omega)]
  simp

theorem mod1 (num : Int) (hu : 0 ≤ num ∧ num < 18446744073709551616) : num % 256 = IntKind.i64.wrap (num.tmod 256) := by
  rw [IntKind.wrap_i64, Int.tmod_eq_emod_of_nonneg hu.1]
  omega
theorem mod2 (num : Int) (hu : 0 ≤ num ∧ num < 18446744073709551616) : num / 256 % 256 * 256 + num % 256 = IntKind.i64.wrap (num.tmod 65536) := by
  rw [IntKind.wrap_i64, Int.tmod_eq_emod_of_nonneg hu.1]
  omega
theorem mod4 (num : Int) (hu : 0 ≤ num ∧ num < 18446744073709551616) : ((num / 65536 / 256 % 256 * 256 + num / 65536 % 256) * 256 + num / 256 % 256) * 256 + num % 256 = IntKind.u32.wrap (num.tmod 4294967296) := by
  rw [IntKind.wrap_u32, Int.tmod_eq_emod_of_nonneg hu.1]
  omega

set_option maxHeartbeats 1000000 in
theorem back1 (r : Nat) (xs : List Int) (p : Nat) (num N : Int) (which : Bool) (w : World) (h : RD w r xs p false) (hr : Rng xs) (hu : 0 ≤ num ∧ num < 18446744073709551616)
    (hx : p + 1 ≤ xs.length) (hm : (xs.drop p).take 1 = [num % 256]) :
    Calls Tryd.prog 20 #[.pointer (some ⟨r, 0, none⟩), .agg #[.int .i64 1, .bool which, .int .i64 N, .int .u64 num]] w fun e w' => e = .returned (.bool true) ∧ RD w' r xs (p + 1) false ∧ But r w w' := by
  have H := hd h
  have HR := hd hr
  have HM := hd hm
  have hrl := h.lt
  clear h hr hm
  go_enter Tryd.func20, Tryd.ntmps20
  go_wp2
  go_region_with (go_at_call 13; refine (u8_good r xs p _ (H.out.below ?_) hx HR.out).mono ?_; exact ((Below.refl _ _).alloc (Nat.le_refl _) _).drew; rintro e w1 ⟨rfl, hg⟩; have hc := box_num hg.2 hrl; have HG := hd hg; clear hg)
  all_goals go_wp2
  all_goals go_ret
  all_goals refine ⟨?_, HG.out.1, (But.of_below (((Below.refl _ _).alloc (Nat.le_refl _) _).drew)).trans HG.out.2⟩
  all_goals (simp [Act.put, HM.out, be1]; exact mod1 num hu)

set_option maxHeartbeats 1000000 in
theorem back2 (r : Nat) (xs : List Int) (p : Nat) (num N : Int) (which : Bool) (w : World) (h : RD w r xs p false) (hr : Rng xs) (hu : 0 ≤ num ∧ num < 18446744073709551616)
    (hx : p + 2 ≤ xs.length) (hm : (xs.drop p).take 2 = [num / 256 % 256, num % 256]) :
    Calls Tryd.prog 20 #[.pointer (some ⟨r, 0, none⟩), .agg #[.int .i64 2, .bool which, .int .i64 N, .int .u64 num]] w fun e w' => e = .returned (.bool true) ∧ RD w' r xs (p + 2) false ∧ But r w w' := by
  have H := hd h
  have HR := hd hr
  have HM := hd hm
  have hrl := h.lt
  clear h hr hm
  go_enter Tryd.func20, Tryd.ntmps20
  go_wp2
  go_region_with (go_at_call 14; refine (u16_good r xs p _ (H.out.below ?_) hx HR.out).mono ?_; exact ((Below.refl _ _).alloc (Nat.le_refl _) _).drew; rintro e w1 ⟨rfl, hg⟩; have hc := box_num hg.2 hrl; have HG := hd hg; clear hg)
  all_goals go_wp2
  all_goals go_ret
  all_goals refine ⟨?_, HG.out.1, (But.of_below (((Below.refl _ _).alloc (Nat.le_refl _) _).drew)).trans HG.out.2⟩
  all_goals (simp [Act.put, HM.out, be2]; exact mod2 num hu)

set_option maxHeartbeats 1000000 in
theorem back3 (r : Nat) (xs : List Int) (p : Nat) (num N : Int) (which : Bool) (w : World) (h : RD w r xs p false) (hr : Rng xs) (hu : 0 ≤ num ∧ num < 18446744073709551616)
    (hx : p + 4 ≤ xs.length) (hm : (xs.drop p).take 4 = [num / 65536 / 256 % 256, num / 65536 % 256, num / 256 % 256, num % 256]) :
    Calls Tryd.prog 20 #[.pointer (some ⟨r, 0, none⟩), .agg #[.int .i64 3, .bool which, .int .i64 N, .int .u64 num]] w fun e w' => e = .returned (.bool true) ∧ RD w' r xs (p + 4) false ∧ But r w w' := by
  have H := hd h
  have HR := hd hr
  have HM := hd hm
  have hrl := h.lt
  clear h hr hm
  go_enter Tryd.func20, Tryd.ntmps20
  go_wp2
  go_region_with (go_at_call 15; refine (u32_good r xs p _ (H.out.below ?_) hx HR.out).mono ?_; exact ((Below.refl _ _).alloc (Nat.le_refl _) _).drew; rintro e w1 ⟨rfl, hg⟩; have hc := box_num hg.2 hrl; have HG := hd hg; clear hg)
  all_goals go_wp2
  all_goals go_ret
  all_goals refine ⟨?_, HG.out.1, (But.of_below (((Below.refl _ _).alloc (Nat.le_refl _) _).drew)).trans HG.out.2⟩
  all_goals (simp [Act.put, HM.out, be4]; exact mod4 num hu)

set_option maxHeartbeats 400000 in
theorem back_any (r : Nat) (xs : List Int) (p : Nat) (kind num N : Int) (which : Bool) (w : World) (h : RD w r xs p false) (hr : Rng xs) (hu : 0 ≤ num ∧ num < 18446744073709551616)
    (hx : p + (encL kind num).length ≤ xs.length) (hm : (xs.drop p).take (encL kind num).length = encL kind num) :
    Calls Tryd.prog 20 #[.pointer (some ⟨r, 0, none⟩), .agg #[.int .i64 kind, .bool which, .int .i64 N, .int .u64 num]] w fun e w' => e = .returned (.bool true) ∧ RD w' r xs (p + (encL kind num).length) false ∧ But r w w' := by
  by_cases h1 : kind = 1
  · have e : encL kind num = [num % 256] := by simp [encL, h1]
    rw [e] at hx hm ⊢
    subst h1
    exact back1 r xs p num N which w h hr hu hx hm
  by_cases h2 : kind = 2
  · have e : encL kind num = [num / 256 % 256, num % 256] := by simp [encL, h2]
    rw [e] at hx hm ⊢
    subst h2
    exact back2 r xs p num N which w h hr hu hx hm
  by_cases h3 : kind = 3
  · have e : encL kind num = [num / 65536 / 256 % 256, num / 65536 % 256, num / 256 % 256, num % 256] := by simp [encL, h3]
    rw [e] at hx hm ⊢
    subst h3
    exact back3 r xs p num N which w h hr hu hx hm
  have e : encL kind num = [] := by simp [encL, h1, h2, h3]
  rw [e]
  have b1 : (kind == 1) = false := by simpa using h1
  have b2 : (kind == 2) = false := by simpa using h2
  have b3 : (kind == 3) = false := by simpa using h3
  have H := hd h
  clear e h1 h2 h3 h hx hm
  go_enter Tryd.func20, Tryd.ntmps20
  go_wp2
  go_ret
  exact ⟨rfl, H.out.below ((Below.refl _ _).alloc (Nat.le_refl _) _), But.of_below ((Below.refl _ _).alloc (Nat.le_refl _) _)⟩

end Go.Proofs.YtkidhfednipdcabDoor
