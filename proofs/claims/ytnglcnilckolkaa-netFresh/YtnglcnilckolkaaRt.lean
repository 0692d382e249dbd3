/-
  NetFresh: region 16 of twice: all that is compared is equal.
-/
import Derived.Test.YtnglcnilckolkaaGi
import Derived.Test.YtnglcnilckolkaaRs
namespace Go.Proofs.Ytnglcnilckolkaa
open Go.RowKit
set_option linter.unusedVariables false

noncomputable def ops16 : Array Oper := (Try.f24.body.bind (opsAt 16)).getD #[]
theorem ops16_size : ops16.size = 57 := by kernel_rfl
theorem ops16_earlier : Earlier ops16 := by
  have h : (List.range 57).all (fun i => ((ops16[i]?).map (fun o => o.after.all (fun e => !Region.binds .any e || decide (e.on < i)))).getD true) = true := by kernel_rfl
  intro i o ho e he hb
  have hi : i < 57 := by
    have := (Array.getElem?_eq_some_iff.1 ho).1
    rwa [ops16_size] at this
  have h1 := List.all_eq_true.1 h i (List.mem_range.2 hi)
  rw [ho] at h1
  simp only [Option.map_some, Option.getD_some, Array.all_eq_true'] at h1
  have h2 := h1 e he
  rw [hb] at h2
  simpa using h2

def V16 (gL cap : Nat) (A3 A4 A5 A7 A8 A9 : Option Addr) (C3 C4 C5 C7 C8 C9 : Nat) (j : Nat) : Value := [.int .i64 0, .bool false, .bool false, .int .i64 0, .bool false, .bool false, .bool false, .slice (some ⟨gL, 0, none⟩) 8 cap, .pointer (some ⟨gL, 0, none⟩), .slice A3 3 C3, .slice (some ⟨gL, 0, none⟩) 8 cap, .pointer (some ⟨gL, 1, none⟩), .slice A4 3 C4, .bool true, .bool false, .bool false, .bool false, .slice (some ⟨gL, 0, none⟩) 8 cap, .pointer (some ⟨gL, 0, none⟩), .slice A3 3 C3, .slice (some ⟨gL, 0, none⟩) 8 cap, .pointer (some ⟨gL, 2, none⟩), .slice A5 3 C5, .bool true, .bool false, .bool false, .bool false, .slice (some ⟨gL, 0, none⟩) 8 cap, .pointer (some ⟨gL, 4, none⟩), .slice A7 2 C7, .slice (some ⟨gL, 0, none⟩) 8 cap, .pointer (some ⟨gL, 5, none⟩), .slice A8 2 C8, .bool true, .bool false, .bool false, .bool false, .slice (some ⟨gL, 0, none⟩) 8 cap, .pointer (some ⟨gL, 0, none⟩), .slice A3 3 C3, .int .i64 3, .bool false, .bool false, .bool false, .slice (some ⟨gL, 0, none⟩) 8 cap, .pointer (some ⟨gL, 4, none⟩), .slice A7 2 C7, .int .i64 2, .bool false, .bool false, .bool false, .slice (some ⟨gL, 0, none⟩) 8 cap, .pointer (some ⟨gL, 6, none⟩), .slice A9 2 C9, .int .i64 2, .bool false, .bool false].getD j (.bool false)

set_option maxRecDepth 100000 in
set_option maxHeartbeats 4000000 in
theorem twice_region16 (a0 : Act) (w : World) {K : Act → World → Prop} {Q' : Exit → Act → World → Prop} (gL cap : Nat) (A3 A4 A5 A7 A8 A9 : Option Addr) (C3 C4 C5 C7 C8 C9 : Nat)
    (h8 : a0.eval (.tmp 8) = .slice (some ⟨gL, 0, none⟩) 8 cap) (h10 : a0.eval (.tmp 10) = .int .i64 0) (h12 : a0.eval (.tmp 12) = .int .i64 0) (hz : 86 + 57 ≤ a0.tmps.size) (lgL : gL < w.heap.size)
    (k0 : w.cell? ⟨gL, 0, none⟩ = some (.slice A3 3 C3)) (k1 : w.cell? ⟨gL, 1, none⟩ = some (.slice A4 3 C4)) (k2 : w.cell? ⟨gL, 2, none⟩ = some (.slice A5 3 C5)) (k4 : w.cell? ⟨gL, 4, none⟩ = some (.slice A7 2 C7)) (k5 : w.cell? ⟨gL, 5, none⟩ = some (.slice A8 2 C8)) (k6 : w.cell? ⟨gL, 6, none⟩ = some (.slice A9 2 C9))
    (C01 : ∀ U, Below w.heap.size w U → Calls Try.prog 20 #[.slice A3 3 C3, .slice A4 3 C4] U fun e w' => e = .returned (.bool true) ∧ Below w.heap.size w w') (C02 : ∀ U, Below w.heap.size w U → Calls Try.prog 20 #[.slice A3 3 C3, .slice A5 3 C5] U fun e w' => e = .returned (.bool true) ∧ Below w.heap.size w w') (C45 : ∀ U, Below w.heap.size w U → Calls Try.prog 20 #[.slice A7 2 C7, .slice A8 2 C8] U fun e w' => e = .returned (.bool true) ∧ Below w.heap.size w w')
    (hK : ∀ (V : Nat → Value) u, V 56 = .bool false → Below w.heap.size w u → K (puts a0 ((List.range 57).map fun j => (86 + j, V j))) u) :
    (Code.region 16 ops16 true).wp Try.prog (Exit.then K Q') a0 w := by
  refine wp_region_inv (by kernel_rfl) ops16_earlier (fun L a u => IV 86 57 a0 w (V16 gL cap A3 A4 A5 A7 A8 A9 C3 C4 C5 C7 C8 C9) L a u) ?_ ?_ ?_
  · rintro L L' x' u i o h ho hno hall hu
    clear hK
    have q8 := (h.fe.ev (j := 8) (by decide)).trans h8
    have q10 := (h.fe.ev (j := 10) (by decide)).trans h10
    have q12 := (h.fe.ev (j := 12) (by decide)).trans h12
    have E := h.e
    have hi : i < 57 := by
      have := (Array.getElem?_eq_some_iff.1 ho).1
      rwa [ops16_size] at this
    match i, hi with
    | 0, _ =>
      refine og_move (g := none) ho (.tmp 10) (d := some 86) (by kernel_rfl) (by exact trivial) q10 ?_
      exact h.next (by omega) hz hu h.bw
    | 1, _ =>
      refine og_neqE (g := none) ho (.tmp 86) (d := some 87) (by kernel_rfl) (by exact trivial) (show x'.eval (.tmp 86) = .int .i64 0 from E 0 (by decide) (dep ho hall 0 (by kernel_rfl))) ?_
      exact h.next (by omega) hz hu h.bw
    | 2, _ =>
      refine og_move (g := none) ho (.tmp 87) (d := some 88) (by kernel_rfl) (by exact trivial) (show x'.eval (.tmp 87) = .bool false from E 1 (by decide) (dep ho hall 1 (by kernel_rfl))) ?_
      exact h.next (by omega) hz hu h.bw
    | 3, _ =>
      refine og_move (g := some (2, false)) ho (.tmp 12) (d := some 89) (by kernel_rfl) (by exact ⟨88, by kernel_rfl, E 2 (by decide) (dep ho hall 2 (by kernel_rfl))⟩) q12 ?_
      exact h.next (by omega) hz hu h.bw
    | 4, _ =>
      refine og_neqE (g := some (2, false)) ho (.tmp 89) (d := some 90) (by kernel_rfl) (by exact ⟨88, by kernel_rfl, E 2 (by decide) (dep ho hall 2 (by kernel_rfl))⟩) (show x'.eval (.tmp 89) = .int .i64 0 from E 3 (by decide) (dep ho hall 3 (by kernel_rfl))) ?_
      exact h.next (by omega) hz hu h.bw
    | 5, _ =>
      refine og_pick (g := none) ho (.tmp 88) (.tmp 90) (d := some 91) (by kernel_rfl) (by exact trivial) (show x'.eval (.tmp 88) = .bool false from E 2 (by decide) (dep ho hall 2 (by kernel_rfl))) (show x'.eval (.tmp 90) = .bool false from E 4 (by decide) (dep ho hall 4 (by kernel_rfl))) ?_
      exact h.next (by omega) hz hu h.bw
    | 6, _ =>
      refine og_move (g := none) ho (.tmp 91) (d := some 92) (by kernel_rfl) (by exact trivial) (show x'.eval (.tmp 91) = .bool false from E 5 (by decide) (dep ho hall 5 (by kernel_rfl))) ?_
      exact h.next (by omega) hz hu h.bw
    | 7, _ =>
      refine og_move (g := some (6, false)) ho (.tmp 8) (d := some 93) (by kernel_rfl) (by exact ⟨92, by kernel_rfl, E 6 (by decide) (dep ho hall 6 (by kernel_rfl))⟩) q8 ?_
      exact h.next (by omega) hz hu h.bw
    | 8, _ =>
      refine og_index (g := some (6, false)) ho (.tmp 93) 73 rfl 0 (d := some 94) (by kernel_rfl) (by exact ⟨92, by kernel_rfl, E 6 (by decide) (dep ho hall 6 (by kernel_rfl))⟩) (show x'.eval (.tmp 93) = .slice (some ⟨gL, 0, none⟩) 8 cap from E 7 (by decide) (dep ho hall 7 (by kernel_rfl))) (by omega) ?_
      exact h.next (by omega) hz hu h.bw
    | 9, _ =>
      refine og_loadS (g := some (6, false)) ho (.tmp 94) (d := some 95) (by kernel_rfl) (by exact ⟨92, by kernel_rfl, E 6 (by decide) (dep ho hall 6 (by kernel_rfl))⟩) (show x'.eval (.tmp 94) = .pointer (some ⟨gL, 0, none⟩) from E 8 (by decide) (dep ho hall 8 (by kernel_rfl))) ((h.bw.cell (p := ⟨gL, 0, none⟩) lgL).trans k0) ?_
      exact h.next (by omega) hz hu h.bw
    | 10, _ =>
      refine og_move (g := some (6, false)) ho (.tmp 8) (d := some 96) (by kernel_rfl) (by exact ⟨92, by kernel_rfl, E 6 (by decide) (dep ho hall 6 (by kernel_rfl))⟩) q8 ?_
      exact h.next (by omega) hz hu h.bw
    | 11, _ =>
      refine og_index (g := some (6, false)) ho (.tmp 96) 73 rfl 1 (d := some 97) (by kernel_rfl) (by exact ⟨92, by kernel_rfl, E 6 (by decide) (dep ho hall 6 (by kernel_rfl))⟩) (show x'.eval (.tmp 96) = .slice (some ⟨gL, 0, none⟩) 8 cap from E 10 (by decide) (dep ho hall 10 (by kernel_rfl))) (by omega) ?_
      exact h.next (by omega) hz hu h.bw
    | 12, _ =>
      refine og_loadS (g := some (6, false)) ho (.tmp 97) (d := some 98) (by kernel_rfl) (by exact ⟨92, by kernel_rfl, E 6 (by decide) (dep ho hall 6 (by kernel_rfl))⟩) (show x'.eval (.tmp 97) = .pointer (some ⟨gL, 1, none⟩) from E 11 (by decide) (dep ho hall 11 (by kernel_rfl))) ((h.bw.cell (p := ⟨gL, 1, none⟩) lgL).trans k1) ?_
      exact h.next (by omega) hz hu h.bw
    | 13, _ =>
      refine og_call2 (g := some (6, false)) ho 20 (.tmp 95) (.tmp 98) 43 43 (d := some 99) (by kernel_rfl) (by exact ⟨92, by kernel_rfl, E 6 (by decide) (dep ho hall 6 (by kernel_rfl))⟩) Try.func20 rfl (by kernel_rfl) (R := fun e w' => e = .returned (.bool true) ∧ Below w.heap.size w w') (by rw [(show x'.eval (.tmp 95) = .slice A3 3 C3 from E 9 (by decide) (dep ho hall 9 (by kernel_rfl))), (show x'.eval (.tmp 98) = .slice A4 3 C4 from E 12 (by decide) (dep ho hall 12 (by kernel_rfl)))]; exact C01 u h.bw) ?_
      rintro e w' ⟨rfl, bb⟩
      exact ⟨_, rfl, h.next (by omega) hz hu bb⟩
    | 14, _ =>
      refine og_not (g := some (6, false)) ho (.tmp 99) (d := some 100) (by kernel_rfl) (by exact ⟨92, by kernel_rfl, E 6 (by decide) (dep ho hall 6 (by kernel_rfl))⟩) (show x'.eval (.tmp 99) = .bool true from E 13 (by decide) (dep ho hall 13 (by kernel_rfl))) ?_
      exact h.next (by omega) hz hu h.bw
    | 15, _ =>
      refine og_pick (g := none) ho (.tmp 92) (.tmp 100) (d := some 101) (by kernel_rfl) (by exact trivial) (show x'.eval (.tmp 92) = .bool false from E 6 (by decide) (dep ho hall 6 (by kernel_rfl))) (show x'.eval (.tmp 100) = .bool false from E 14 (by decide) (dep ho hall 14 (by kernel_rfl))) ?_
      exact h.next (by omega) hz hu h.bw
    | 16, _ =>
      refine og_move (g := none) ho (.tmp 101) (d := some 102) (by kernel_rfl) (by exact trivial) (show x'.eval (.tmp 101) = .bool false from E 15 (by decide) (dep ho hall 15 (by kernel_rfl))) ?_
      exact h.next (by omega) hz hu h.bw
    | 17, _ =>
      refine og_move (g := some (16, false)) ho (.tmp 8) (d := some 103) (by kernel_rfl) (by exact ⟨102, by kernel_rfl, E 16 (by decide) (dep ho hall 16 (by kernel_rfl))⟩) q8 ?_
      exact h.next (by omega) hz hu h.bw
    | 18, _ =>
      refine og_index (g := some (16, false)) ho (.tmp 103) 73 rfl 0 (d := some 104) (by kernel_rfl) (by exact ⟨102, by kernel_rfl, E 16 (by decide) (dep ho hall 16 (by kernel_rfl))⟩) (show x'.eval (.tmp 103) = .slice (some ⟨gL, 0, none⟩) 8 cap from E 17 (by decide) (dep ho hall 17 (by kernel_rfl))) (by omega) ?_
      exact h.next (by omega) hz hu h.bw
    | 19, _ =>
      refine og_loadS (g := some (16, false)) ho (.tmp 104) (d := some 105) (by kernel_rfl) (by exact ⟨102, by kernel_rfl, E 16 (by decide) (dep ho hall 16 (by kernel_rfl))⟩) (show x'.eval (.tmp 104) = .pointer (some ⟨gL, 0, none⟩) from E 18 (by decide) (dep ho hall 18 (by kernel_rfl))) ((h.bw.cell (p := ⟨gL, 0, none⟩) lgL).trans k0) ?_
      exact h.next (by omega) hz hu h.bw
    | 20, _ =>
      refine og_move (g := some (16, false)) ho (.tmp 8) (d := some 106) (by kernel_rfl) (by exact ⟨102, by kernel_rfl, E 16 (by decide) (dep ho hall 16 (by kernel_rfl))⟩) q8 ?_
      exact h.next (by omega) hz hu h.bw
    | 21, _ =>
      refine og_index (g := some (16, false)) ho (.tmp 106) 73 rfl 2 (d := some 107) (by kernel_rfl) (by exact ⟨102, by kernel_rfl, E 16 (by decide) (dep ho hall 16 (by kernel_rfl))⟩) (show x'.eval (.tmp 106) = .slice (some ⟨gL, 0, none⟩) 8 cap from E 20 (by decide) (dep ho hall 20 (by kernel_rfl))) (by omega) ?_
      exact h.next (by omega) hz hu h.bw
    | 22, _ =>
      refine og_loadS (g := some (16, false)) ho (.tmp 107) (d := some 108) (by kernel_rfl) (by exact ⟨102, by kernel_rfl, E 16 (by decide) (dep ho hall 16 (by kernel_rfl))⟩) (show x'.eval (.tmp 107) = .pointer (some ⟨gL, 2, none⟩) from E 21 (by decide) (dep ho hall 21 (by kernel_rfl))) ((h.bw.cell (p := ⟨gL, 2, none⟩) lgL).trans k2) ?_
      exact h.next (by omega) hz hu h.bw
    | 23, _ =>
      refine og_call2 (g := some (16, false)) ho 20 (.tmp 105) (.tmp 108) 43 43 (d := some 109) (by kernel_rfl) (by exact ⟨102, by kernel_rfl, E 16 (by decide) (dep ho hall 16 (by kernel_rfl))⟩) Try.func20 rfl (by kernel_rfl) (R := fun e w' => e = .returned (.bool true) ∧ Below w.heap.size w w') (by rw [(show x'.eval (.tmp 105) = .slice A3 3 C3 from E 19 (by decide) (dep ho hall 19 (by kernel_rfl))), (show x'.eval (.tmp 108) = .slice A5 3 C5 from E 22 (by decide) (dep ho hall 22 (by kernel_rfl)))]; exact C02 u h.bw) ?_
      rintro e w' ⟨rfl, bb⟩
      exact ⟨_, rfl, h.next (by omega) hz hu bb⟩
    | 24, _ =>
      refine og_not (g := some (16, false)) ho (.tmp 109) (d := some 110) (by kernel_rfl) (by exact ⟨102, by kernel_rfl, E 16 (by decide) (dep ho hall 16 (by kernel_rfl))⟩) (show x'.eval (.tmp 109) = .bool true from E 23 (by decide) (dep ho hall 23 (by kernel_rfl))) ?_
      exact h.next (by omega) hz hu h.bw
    | 25, _ =>
      refine og_pick (g := none) ho (.tmp 102) (.tmp 110) (d := some 111) (by kernel_rfl) (by exact trivial) (show x'.eval (.tmp 102) = .bool false from E 16 (by decide) (dep ho hall 16 (by kernel_rfl))) (show x'.eval (.tmp 110) = .bool false from E 24 (by decide) (dep ho hall 24 (by kernel_rfl))) ?_
      exact h.next (by omega) hz hu h.bw
    | 26, _ =>
      refine og_move (g := none) ho (.tmp 111) (d := some 112) (by kernel_rfl) (by exact trivial) (show x'.eval (.tmp 111) = .bool false from E 25 (by decide) (dep ho hall 25 (by kernel_rfl))) ?_
      exact h.next (by omega) hz hu h.bw
    | 27, _ =>
      refine og_move (g := some (26, false)) ho (.tmp 8) (d := some 113) (by kernel_rfl) (by exact ⟨112, by kernel_rfl, E 26 (by decide) (dep ho hall 26 (by kernel_rfl))⟩) q8 ?_
      exact h.next (by omega) hz hu h.bw
    | 28, _ =>
      refine og_index (g := some (26, false)) ho (.tmp 113) 73 rfl 4 (d := some 114) (by kernel_rfl) (by exact ⟨112, by kernel_rfl, E 26 (by decide) (dep ho hall 26 (by kernel_rfl))⟩) (show x'.eval (.tmp 113) = .slice (some ⟨gL, 0, none⟩) 8 cap from E 27 (by decide) (dep ho hall 27 (by kernel_rfl))) (by omega) ?_
      exact h.next (by omega) hz hu h.bw
    | 29, _ =>
      refine og_loadS (g := some (26, false)) ho (.tmp 114) (d := some 115) (by kernel_rfl) (by exact ⟨112, by kernel_rfl, E 26 (by decide) (dep ho hall 26 (by kernel_rfl))⟩) (show x'.eval (.tmp 114) = .pointer (some ⟨gL, 4, none⟩) from E 28 (by decide) (dep ho hall 28 (by kernel_rfl))) ((h.bw.cell (p := ⟨gL, 4, none⟩) lgL).trans k4) ?_
      exact h.next (by omega) hz hu h.bw
    | 30, _ =>
      refine og_move (g := some (26, false)) ho (.tmp 8) (d := some 116) (by kernel_rfl) (by exact ⟨112, by kernel_rfl, E 26 (by decide) (dep ho hall 26 (by kernel_rfl))⟩) q8 ?_
      exact h.next (by omega) hz hu h.bw
    | 31, _ =>
      refine og_index (g := some (26, false)) ho (.tmp 116) 73 rfl 5 (d := some 117) (by kernel_rfl) (by exact ⟨112, by kernel_rfl, E 26 (by decide) (dep ho hall 26 (by kernel_rfl))⟩) (show x'.eval (.tmp 116) = .slice (some ⟨gL, 0, none⟩) 8 cap from E 30 (by decide) (dep ho hall 30 (by kernel_rfl))) (by omega) ?_
      exact h.next (by omega) hz hu h.bw
    | 32, _ =>
      refine og_loadS (g := some (26, false)) ho (.tmp 117) (d := some 118) (by kernel_rfl) (by exact ⟨112, by kernel_rfl, E 26 (by decide) (dep ho hall 26 (by kernel_rfl))⟩) (show x'.eval (.tmp 117) = .pointer (some ⟨gL, 5, none⟩) from E 31 (by decide) (dep ho hall 31 (by kernel_rfl))) ((h.bw.cell (p := ⟨gL, 5, none⟩) lgL).trans k5) ?_
      exact h.next (by omega) hz hu h.bw
    | 33, _ =>
      refine og_call2 (g := some (26, false)) ho 20 (.tmp 115) (.tmp 118) 43 43 (d := some 119) (by kernel_rfl) (by exact ⟨112, by kernel_rfl, E 26 (by decide) (dep ho hall 26 (by kernel_rfl))⟩) Try.func20 rfl (by kernel_rfl) (R := fun e w' => e = .returned (.bool true) ∧ Below w.heap.size w w') (by rw [(show x'.eval (.tmp 115) = .slice A7 2 C7 from E 29 (by decide) (dep ho hall 29 (by kernel_rfl))), (show x'.eval (.tmp 118) = .slice A8 2 C8 from E 32 (by decide) (dep ho hall 32 (by kernel_rfl)))]; exact C45 u h.bw) ?_
      rintro e w' ⟨rfl, bb⟩
      exact ⟨_, rfl, h.next (by omega) hz hu bb⟩
    | 34, _ =>
      refine og_not (g := some (26, false)) ho (.tmp 119) (d := some 120) (by kernel_rfl) (by exact ⟨112, by kernel_rfl, E 26 (by decide) (dep ho hall 26 (by kernel_rfl))⟩) (show x'.eval (.tmp 119) = .bool true from E 33 (by decide) (dep ho hall 33 (by kernel_rfl))) ?_
      exact h.next (by omega) hz hu h.bw
    | 35, _ =>
      refine og_pick (g := none) ho (.tmp 112) (.tmp 120) (d := some 121) (by kernel_rfl) (by exact trivial) (show x'.eval (.tmp 112) = .bool false from E 26 (by decide) (dep ho hall 26 (by kernel_rfl))) (show x'.eval (.tmp 120) = .bool false from E 34 (by decide) (dep ho hall 34 (by kernel_rfl))) ?_
      exact h.next (by omega) hz hu h.bw
    | 36, _ =>
      refine og_move (g := none) ho (.tmp 121) (d := some 122) (by kernel_rfl) (by exact trivial) (show x'.eval (.tmp 121) = .bool false from E 35 (by decide) (dep ho hall 35 (by kernel_rfl))) ?_
      exact h.next (by omega) hz hu h.bw
    | 37, _ =>
      refine og_move (g := some (36, false)) ho (.tmp 8) (d := some 123) (by kernel_rfl) (by exact ⟨122, by kernel_rfl, E 36 (by decide) (dep ho hall 36 (by kernel_rfl))⟩) q8 ?_
      exact h.next (by omega) hz hu h.bw
    | 38, _ =>
      refine og_index (g := some (36, false)) ho (.tmp 123) 73 rfl 0 (d := some 124) (by kernel_rfl) (by exact ⟨122, by kernel_rfl, E 36 (by decide) (dep ho hall 36 (by kernel_rfl))⟩) (show x'.eval (.tmp 123) = .slice (some ⟨gL, 0, none⟩) 8 cap from E 37 (by decide) (dep ho hall 37 (by kernel_rfl))) (by omega) ?_
      exact h.next (by omega) hz hu h.bw
    | 39, _ =>
      refine og_loadS (g := some (36, false)) ho (.tmp 124) (d := some 125) (by kernel_rfl) (by exact ⟨122, by kernel_rfl, E 36 (by decide) (dep ho hall 36 (by kernel_rfl))⟩) (show x'.eval (.tmp 124) = .pointer (some ⟨gL, 0, none⟩) from E 38 (by decide) (dep ho hall 38 (by kernel_rfl))) ((h.bw.cell (p := ⟨gL, 0, none⟩) lgL).trans k0) ?_
      exact h.next (by omega) hz hu h.bw
    | 40, _ =>
      refine og_len (g := some (36, false)) ho (.tmp 125) (d := some 126) (by kernel_rfl) (by exact ⟨122, by kernel_rfl, E 36 (by decide) (dep ho hall 36 (by kernel_rfl))⟩) (show x'.eval (.tmp 125) = .slice A3 3 C3 from E 39 (by decide) (dep ho hall 39 (by kernel_rfl))) ?_
      exact h.next (by omega) hz hu h.bw
    | 41, _ =>
      refine og_neqI (g := some (36, false)) ho (.tmp 126) 3 (d := some 127) (by kernel_rfl) (by exact ⟨122, by kernel_rfl, E 36 (by decide) (dep ho hall 36 (by kernel_rfl))⟩) (show x'.eval (.tmp 126) = .int .i64 3 from E 40 (by decide) (dep ho hall 40 (by kernel_rfl))) ?_
      exact h.next (by omega) hz hu h.bw
    | 42, _ =>
      refine og_pick (g := none) ho (.tmp 122) (.tmp 127) (d := some 128) (by kernel_rfl) (by exact trivial) (show x'.eval (.tmp 122) = .bool false from E 36 (by decide) (dep ho hall 36 (by kernel_rfl))) (show x'.eval (.tmp 127) = .bool false from E 41 (by decide) (dep ho hall 41 (by kernel_rfl))) ?_
      exact h.next (by omega) hz hu h.bw
    | 43, _ =>
      refine og_move (g := none) ho (.tmp 128) (d := some 129) (by kernel_rfl) (by exact trivial) (show x'.eval (.tmp 128) = .bool false from E 42 (by decide) (dep ho hall 42 (by kernel_rfl))) ?_
      exact h.next (by omega) hz hu h.bw
    | 44, _ =>
      refine og_move (g := some (43, false)) ho (.tmp 8) (d := some 130) (by kernel_rfl) (by exact ⟨129, by kernel_rfl, E 43 (by decide) (dep ho hall 43 (by kernel_rfl))⟩) q8 ?_
      exact h.next (by omega) hz hu h.bw
    | 45, _ =>
      refine og_index (g := some (43, false)) ho (.tmp 130) 73 rfl 4 (d := some 131) (by kernel_rfl) (by exact ⟨129, by kernel_rfl, E 43 (by decide) (dep ho hall 43 (by kernel_rfl))⟩) (show x'.eval (.tmp 130) = .slice (some ⟨gL, 0, none⟩) 8 cap from E 44 (by decide) (dep ho hall 44 (by kernel_rfl))) (by omega) ?_
      exact h.next (by omega) hz hu h.bw
    | 46, _ =>
      refine og_loadS (g := some (43, false)) ho (.tmp 131) (d := some 132) (by kernel_rfl) (by exact ⟨129, by kernel_rfl, E 43 (by decide) (dep ho hall 43 (by kernel_rfl))⟩) (show x'.eval (.tmp 131) = .pointer (some ⟨gL, 4, none⟩) from E 45 (by decide) (dep ho hall 45 (by kernel_rfl))) ((h.bw.cell (p := ⟨gL, 4, none⟩) lgL).trans k4) ?_
      exact h.next (by omega) hz hu h.bw
    | 47, _ =>
      refine og_len (g := some (43, false)) ho (.tmp 132) (d := some 133) (by kernel_rfl) (by exact ⟨129, by kernel_rfl, E 43 (by decide) (dep ho hall 43 (by kernel_rfl))⟩) (show x'.eval (.tmp 132) = .slice A7 2 C7 from E 46 (by decide) (dep ho hall 46 (by kernel_rfl))) ?_
      exact h.next (by omega) hz hu h.bw
    | 48, _ =>
      refine og_neqI (g := some (43, false)) ho (.tmp 133) 2 (d := some 134) (by kernel_rfl) (by exact ⟨129, by kernel_rfl, E 43 (by decide) (dep ho hall 43 (by kernel_rfl))⟩) (show x'.eval (.tmp 133) = .int .i64 2 from E 47 (by decide) (dep ho hall 47 (by kernel_rfl))) ?_
      exact h.next (by omega) hz hu h.bw
    | 49, _ =>
      refine og_pick (g := none) ho (.tmp 129) (.tmp 134) (d := some 135) (by kernel_rfl) (by exact trivial) (show x'.eval (.tmp 129) = .bool false from E 43 (by decide) (dep ho hall 43 (by kernel_rfl))) (show x'.eval (.tmp 134) = .bool false from E 48 (by decide) (dep ho hall 48 (by kernel_rfl))) ?_
      exact h.next (by omega) hz hu h.bw
    | 50, _ =>
      refine og_move (g := none) ho (.tmp 135) (d := some 136) (by kernel_rfl) (by exact trivial) (show x'.eval (.tmp 135) = .bool false from E 49 (by decide) (dep ho hall 49 (by kernel_rfl))) ?_
      exact h.next (by omega) hz hu h.bw
    | 51, _ =>
      refine og_move (g := some (50, false)) ho (.tmp 8) (d := some 137) (by kernel_rfl) (by exact ⟨136, by kernel_rfl, E 50 (by decide) (dep ho hall 50 (by kernel_rfl))⟩) q8 ?_
      exact h.next (by omega) hz hu h.bw
    | 52, _ =>
      refine og_index (g := some (50, false)) ho (.tmp 137) 73 rfl 6 (d := some 138) (by kernel_rfl) (by exact ⟨136, by kernel_rfl, E 50 (by decide) (dep ho hall 50 (by kernel_rfl))⟩) (show x'.eval (.tmp 137) = .slice (some ⟨gL, 0, none⟩) 8 cap from E 51 (by decide) (dep ho hall 51 (by kernel_rfl))) (by omega) ?_
      exact h.next (by omega) hz hu h.bw
    | 53, _ =>
      refine og_loadS (g := some (50, false)) ho (.tmp 138) (d := some 139) (by kernel_rfl) (by exact ⟨136, by kernel_rfl, E 50 (by decide) (dep ho hall 50 (by kernel_rfl))⟩) (show x'.eval (.tmp 138) = .pointer (some ⟨gL, 6, none⟩) from E 52 (by decide) (dep ho hall 52 (by kernel_rfl))) ((h.bw.cell (p := ⟨gL, 6, none⟩) lgL).trans k6) ?_
      exact h.next (by omega) hz hu h.bw
    | 54, _ =>
      refine og_len (g := some (50, false)) ho (.tmp 139) (d := some 140) (by kernel_rfl) (by exact ⟨136, by kernel_rfl, E 50 (by decide) (dep ho hall 50 (by kernel_rfl))⟩) (show x'.eval (.tmp 139) = .slice A9 2 C9 from E 53 (by decide) (dep ho hall 53 (by kernel_rfl))) ?_
      exact h.next (by omega) hz hu h.bw
    | 55, _ =>
      refine og_neqI (g := some (50, false)) ho (.tmp 140) 2 (d := some 141) (by kernel_rfl) (by exact ⟨136, by kernel_rfl, E 50 (by decide) (dep ho hall 50 (by kernel_rfl))⟩) (show x'.eval (.tmp 140) = .int .i64 2 from E 54 (by decide) (dep ho hall 54 (by kernel_rfl))) ?_
      exact h.next (by omega) hz hu h.bw
    | 56, _ =>
      refine og_pick (g := none) ho (.tmp 136) (.tmp 141) (d := some 142) (by kernel_rfl) (by exact trivial) (show x'.eval (.tmp 136) = .bool false from E 50 (by decide) (dep ho hall 50 (by kernel_rfl))) (show x'.eval (.tmp 141) = .bool false from E 55 (by decide) (dep ho hall 55 (by kernel_rfl))) ?_
      exact h.next (by omega) hz hu h.bw
    | i + 57, hi => omega
  · rintro L x' u h hall
    rw [ops16_size] at hall
    have hp := Fe.puts ((List.range 57).map fun j => (86 + j, V16 gL cap A3 A4 A5 A7 A8 A9 C3 C4 C5 C7 C8 C9 j)) a0 x' (by rw [List.map_map]; exact h.fe) (by
      intro p hp
      obtain ⟨j, hj, rfl⟩ := List.mem_map.1 hp
      have hj := List.mem_range.1 hj
      exact ⟨by show _ < _; simp only; omega, h.e j hj (hall j hj)⟩)
    rw [hp]
    exact hK _ u rfl h.bw
  · intro L hL
    exact ⟨Fe.refl _ _, fun j _ h => absurd h (hL _), (Below.refl _ _).drew⟩

end Go.Proofs.Ytnglcnilckolkaa
