/-
  NetFresh: region 50, drawn: what is compared is equal.
-/
import Derived.Test.YtnglcnilckolkaaRu
namespace Go.Proofs.Ytnglcnilckolkaa
open Go.RowKit
set_option linter.unusedVariables false

noncomputable def opsF50 : Array Oper := (Try.f6.body.bind (opsAt 50)).getD #[]
theorem opsF50_size : opsF50.size = 25 := by kernel_rfl
theorem opsF50_earlier : Earlier opsF50 := by
  have h : (List.range 25).all (fun i => ((opsF50[i]?).map (fun o => o.after.all (fun e => !Region.binds .any e || decide (e.on < i)))).getD true) = true := by kernel_rfl
  intro i o ho e he hb
  have hi : i < 25 := by
    have := (Array.getElem?_eq_some_iff.1 ho).1
    rwa [opsF50_size] at this
  have h1 := List.all_eq_true.1 h i (List.mem_range.2 hi)
  rw [ho] at h1
  simp only [Option.map_some, Option.getD_some, Array.all_eq_true'] at h1
  have h2 := h1 e he
  rw [hb] at h2
  simpa using h2

def VF50 (gz cz gv cv gw : Nat) (uA : Option Addr) (uc : Nat) (bA : Option Addr) (bn bc : Nat) (df dt : Int) (dA : Option Addr) (dn dc : Nat) (ds : Bool) (j : Nat) : Value := [.slice (some ⟨gz, 0, none⟩) 1 cz, .int .i64 1, .bool false, .bool false, .slice (some ⟨gz, 0, none⟩) 1 cz, .pointer (some ⟨gz, 0, none⟩), .agg #[.int .i64 df, .int .i64 dt, .slice dA dn dc, .bool ds], .slice bA bn bc, .agg #[.int .i64 2, .int .i64 0, .slice bA bn bc, .bool false], .bool true, .bool false, .bool false, .bool false, .slice (some ⟨gv, 0, none⟩) 4 cv, .pointer (some ⟨gv, 12, none⟩), .pointer (some ⟨gv, 12, none⟩), .int .i64 8, .bool false, .bool false, .bool false, .slice uA 3 uc, .slice (some ⟨gw, 0, none⟩) 3 3, .bool true, .bool false, .bool false].getD j (.bool false)

set_option maxRecDepth 100000 in
set_option maxHeartbeats 4000000 in
theorem fresh_region50 (a0 : Act) (w : World) {K : Act → World → Prop} {Q' : Exit → Act → World → Prop} (gz cz gv cv gw : Nat) (uA : Option Addr) (uc : Nat) (bA : Option Addr) (bn bc : Nat) (df dt : Int) (dA : Option Addr) (dn dc : Nat) (ds : Bool)
    (h25 : a0.eval (.tmp 25) = .slice (some ⟨gz, 0, none⟩) 1 cz) (h0 : a0.eval (.tmp 0) = .slice bA bn bc) (h20 : a0.eval (.tmp 20) = .slice (some ⟨gv, 0, none⟩) 4 cv) (h16 : a0.eval (.tmp 16) = .slice uA 3 uc) (h14 : a0.eval (.tmp 14) = .slice (some ⟨gw, 0, none⟩) 3 3) (hz : 230 + 25 ≤ a0.tmps.size)
    (lgz : gz < w.heap.size) (lgv : gv < w.heap.size) (hcd0 : w.cell? ⟨gz, 0, none⟩ = some (.int .i64 df)) (hcd1 : w.cell? ⟨gz, 0 + 1, none⟩ = some (.int .i64 dt)) (hcd2 : w.cell? ⟨gz, 0 + 2, none⟩ = some (.slice dA dn dc)) (hcd3 : w.cell? ⟨gz, 0 + 3, none⟩ = some (.bool ds)) (hcgv12 : w.cell? ⟨gv, 12, none⟩ = some (.int .i64 8))
    (Ca : ∀ U, Below w.heap.size w U → Calls Try.prog 18 #[.agg #[.int .i64 df, .int .i64 dt, .slice dA dn dc, .bool ds], .agg #[.int .i64 2, .int .i64 0, .slice bA bn bc, .bool false]] U fun e w' => e = .returned (.bool true) ∧ Below w.heap.size w w')
    (Cf : ∀ U, Below w.heap.size w U → Calls Try.prog 20 #[.slice uA 3 uc, .slice (some ⟨gw, 0, none⟩) 3 3] U fun e w' => e = .returned (.bool true) ∧ Below w.heap.size w w')
    (hK : ∀ (V : Nat → Value) u, V 24 = .bool false → Below w.heap.size w u → K (puts a0 ((List.range 25).map fun j => (230 + j, V j))) u) :
    (Code.region 50 opsF50 false).wp Try.prog (Exit.then K Q') a0 w := by
  refine wp_region_seq opsF50_earlier (fun L a u => IV 230 25 a0 w (VF50 gz cz gv cv gw uA uc bA bn bc df dt dA dn dc ds) L a u) ?_ ?_ ?_
  · rintro L L' x' u i o h ho hno hall hu
    clear hK
    have q25 := (h.fe.ev (j := 25) (by decide)).trans h25
    have q0 := (h.fe.ev (j := 0) (by decide)).trans h0
    have q20 := (h.fe.ev (j := 20) (by decide)).trans h20
    have q16 := (h.fe.ev (j := 16) (by decide)).trans h16
    have q14 := (h.fe.ev (j := 14) (by decide)).trans h14
    have E := h.e
    have hi : i < 25 := by
      have := (Array.getElem?_eq_some_iff.1 ho).1
      rwa [opsF50_size] at this
    match i, hi with
    | 0, _ =>
      refine og_move (g := none) ho (.tmp 25) (d := some 230) (by kernel_rfl) (by exact trivial) q25 ?_
      exact h.next (by omega) hz hu h.bw
    | 1, _ =>
      refine og_len (g := none) ho (.tmp 230) (d := some 231) (by kernel_rfl) (by exact trivial) (show x'.eval (.tmp 230) = .slice (some ⟨gz, 0, none⟩) 1 cz from E 0 (by decide) (dep ho hall 0 (by kernel_rfl))) ?_
      exact h.next (by omega) hz hu h.bw
    | 2, _ =>
      refine og_neqI (g := none) ho (.tmp 231) 1 (d := some 232) (by kernel_rfl) (by exact trivial) (show x'.eval (.tmp 231) = .int .i64 1 from E 1 (by decide) (dep ho hall 1 (by kernel_rfl))) ?_
      exact h.next (by omega) hz hu h.bw
    | 3, _ =>
      refine og_move (g := none) ho (.tmp 232) (d := some 233) (by kernel_rfl) (by exact trivial) (show x'.eval (.tmp 232) = .bool false from E 2 (by decide) (dep ho hall 2 (by kernel_rfl))) ?_
      exact h.next (by omega) hz hu h.bw
    | 4, _ =>
      refine og_move (g := some (3, false)) ho (.tmp 25) (d := some 234) (by kernel_rfl) (by exact ⟨233, by kernel_rfl, E 3 (by decide) (dep ho hall 3 (by kernel_rfl))⟩) q25 ?_
      exact h.next (by omega) hz hu h.bw
    | 5, _ =>
      refine og_indexC (g := some (3, false)) ho (.tmp 234) 0 (d := some 235) (by kernel_rfl) (by exact ⟨233, by kernel_rfl, E 3 (by decide) (dep ho hall 3 (by kernel_rfl))⟩) (show x'.eval (.tmp 234) = .slice (some ⟨gz, 0, none⟩) 1 cz from E 4 (by decide) (dep ho hall 4 (by kernel_rfl))) (by omega) ?_
      exact h.next (by omega) hz hu h.bw
    | 6, _ =>
      refine og_loadD (g := some (3, false)) ho (.tmp 235) (d := some 236) (by kernel_rfl) (by exact ⟨233, by kernel_rfl, E 3 (by decide) (dep ho hall 3 (by kernel_rfl))⟩) (show x'.eval (.tmp 235) = .pointer (some ⟨gz, 0, none⟩) from E 5 (by decide) (dep ho hall 5 (by kernel_rfl))) ((h.bw.cell (p := ⟨gz, 0, none⟩) lgz).trans hcd0) ((h.bw.cell (p := ⟨gz, 0 + 1, none⟩) lgz).trans hcd1) ((h.bw.cell (p := ⟨gz, 0 + 2, none⟩) lgz).trans hcd2) ((h.bw.cell (p := ⟨gz, 0 + 3, none⟩) lgz).trans hcd3) ?_
      exact h.next (by omega) hz hu h.bw
    | 7, _ =>
      refine og_move (g := some (3, false)) ho (.tmp 0) (d := some 237) (by kernel_rfl) (by exact ⟨233, by kernel_rfl, E 3 (by decide) (dep ho hall 3 (by kernel_rfl))⟩) q0 ?_
      exact h.next (by omega) hz hu h.bw
    | 8, _ =>
      refine og_build2 (g := some (3, false)) ho 237 2 (d := some 238) (by kernel_rfl) (by exact ⟨233, by kernel_rfl, E 3 (by decide) (dep ho hall 3 (by kernel_rfl))⟩) (show x'.eval (.tmp 237) = .slice bA bn bc from E 7 (by decide) (dep ho hall 7 (by kernel_rfl))) ?_
      exact h.next (by omega) hz hu h.bw
    | 9, _ =>
      refine og_call2 (g := some (3, false)) ho 18 (.tmp 236) (.tmp 238) 37 37 (d := some 239) (by kernel_rfl) (by exact ⟨233, by kernel_rfl, E 3 (by decide) (dep ho hall 3 (by kernel_rfl))⟩) Try.func18 rfl (by kernel_rfl) (R := fun e w' => e = .returned (.bool true) ∧ Below w.heap.size w w') (by rw [(show x'.eval (.tmp 236) = .agg #[.int .i64 df, .int .i64 dt, .slice dA dn dc, .bool ds] from E 6 (by decide) (dep ho hall 6 (by kernel_rfl))), (show x'.eval (.tmp 238) = .agg #[.int .i64 2, .int .i64 0, .slice bA bn bc, .bool false] from E 8 (by decide) (dep ho hall 8 (by kernel_rfl)))]; exact Ca u h.bw) ?_
      rintro e w' ⟨rfl, bb⟩
      exact ⟨_, rfl, h.next (by omega) hz hu bb⟩
    | 10, _ =>
      refine og_not (g := some (3, false)) ho (.tmp 239) (d := some 240) (by kernel_rfl) (by exact ⟨233, by kernel_rfl, E 3 (by decide) (dep ho hall 3 (by kernel_rfl))⟩) (show x'.eval (.tmp 239) = .bool true from E 9 (by decide) (dep ho hall 9 (by kernel_rfl))) ?_
      exact h.next (by omega) hz hu h.bw
    | 11, _ =>
      refine og_pick (g := none) ho (.tmp 233) (.tmp 240) (d := some 241) (by kernel_rfl) (by exact trivial) (show x'.eval (.tmp 233) = .bool false from E 3 (by decide) (dep ho hall 3 (by kernel_rfl))) (show x'.eval (.tmp 240) = .bool false from E 10 (by decide) (dep ho hall 10 (by kernel_rfl))) ?_
      exact h.next (by omega) hz hu h.bw
    | 12, _ =>
      refine og_move (g := none) ho (.tmp 241) (d := some 242) (by kernel_rfl) (by exact trivial) (show x'.eval (.tmp 241) = .bool false from E 11 (by decide) (dep ho hall 11 (by kernel_rfl))) ?_
      exact h.next (by omega) hz hu h.bw
    | 13, _ =>
      refine og_move (g := some (12, false)) ho (.tmp 20) (d := some 243) (by kernel_rfl) (by exact ⟨242, by kernel_rfl, E 12 (by decide) (dep ho hall 12 (by kernel_rfl))⟩) q20 ?_
      exact h.next (by omega) hz hu h.bw
    | 14, _ =>
      refine og_indexC (g := some (12, false)) ho (.tmp 243) 3 (d := some 244) (by kernel_rfl) (by exact ⟨242, by kernel_rfl, E 12 (by decide) (dep ho hall 12 (by kernel_rfl))⟩) (show x'.eval (.tmp 243) = .slice (some ⟨gv, 0, none⟩) 4 cv from E 13 (by decide) (dep ho hall 13 (by kernel_rfl))) (by omega) ?_
      exact h.next (by omega) hz hu h.bw
    | 15, _ =>
      refine og_field0 (g := some (12, false)) ho (.tmp 244) (d := some 245) (by kernel_rfl) (by exact ⟨242, by kernel_rfl, E 12 (by decide) (dep ho hall 12 (by kernel_rfl))⟩) (show x'.eval (.tmp 244) = .pointer (some ⟨gv, 12, none⟩) from E 14 (by decide) (dep ho hall 14 (by kernel_rfl))) ?_
      exact h.next (by omega) hz hu h.bw
    | 16, _ =>
      refine og_loadI (g := some (12, false)) ho (.tmp 245) (d := some 246) (by kernel_rfl) (by exact ⟨242, by kernel_rfl, E 12 (by decide) (dep ho hall 12 (by kernel_rfl))⟩) (show x'.eval (.tmp 245) = .pointer (some ⟨gv, 12, none⟩) from E 15 (by decide) (dep ho hall 15 (by kernel_rfl))) ((h.bw.cell (p := ⟨gv, 12, none⟩) lgv).trans hcgv12) ?_
      exact h.next (by omega) hz hu h.bw
    | 17, _ =>
      refine og_neqI (g := some (12, false)) ho (.tmp 246) 8 (d := some 247) (by kernel_rfl) (by exact ⟨242, by kernel_rfl, E 12 (by decide) (dep ho hall 12 (by kernel_rfl))⟩) (show x'.eval (.tmp 246) = .int .i64 8 from E 16 (by decide) (dep ho hall 16 (by kernel_rfl))) ?_
      exact h.next (by omega) hz hu h.bw
    | 18, _ =>
      refine og_pick (g := none) ho (.tmp 242) (.tmp 247) (d := some 248) (by kernel_rfl) (by exact trivial) (show x'.eval (.tmp 242) = .bool false from E 12 (by decide) (dep ho hall 12 (by kernel_rfl))) (show x'.eval (.tmp 247) = .bool false from E 17 (by decide) (dep ho hall 17 (by kernel_rfl))) ?_
      exact h.next (by omega) hz hu h.bw
    | 19, _ =>
      refine og_move (g := none) ho (.tmp 248) (d := some 249) (by kernel_rfl) (by exact trivial) (show x'.eval (.tmp 248) = .bool false from E 18 (by decide) (dep ho hall 18 (by kernel_rfl))) ?_
      exact h.next (by omega) hz hu h.bw
    | 20, _ =>
      refine og_move (g := some (19, false)) ho (.tmp 16) (d := some 250) (by kernel_rfl) (by exact ⟨249, by kernel_rfl, E 19 (by decide) (dep ho hall 19 (by kernel_rfl))⟩) q16 ?_
      exact h.next (by omega) hz hu h.bw
    | 21, _ =>
      refine og_move (g := some (19, false)) ho (.tmp 14) (d := some 251) (by kernel_rfl) (by exact ⟨249, by kernel_rfl, E 19 (by decide) (dep ho hall 19 (by kernel_rfl))⟩) q14 ?_
      exact h.next (by omega) hz hu h.bw
    | 22, _ =>
      refine og_call2 (g := some (19, false)) ho 20 (.tmp 250) (.tmp 251) 43 43 (d := some 252) (by kernel_rfl) (by exact ⟨249, by kernel_rfl, E 19 (by decide) (dep ho hall 19 (by kernel_rfl))⟩) Try.func20 rfl (by kernel_rfl) (R := fun e w' => e = .returned (.bool true) ∧ Below w.heap.size w w') (by rw [(show x'.eval (.tmp 250) = .slice uA 3 uc from E 20 (by decide) (dep ho hall 20 (by kernel_rfl))), (show x'.eval (.tmp 251) = .slice (some ⟨gw, 0, none⟩) 3 3 from E 21 (by decide) (dep ho hall 21 (by kernel_rfl)))]; exact Cf u h.bw) ?_
      rintro e w' ⟨rfl, bb⟩
      exact ⟨_, rfl, h.next (by omega) hz hu bb⟩
    | 23, _ =>
      refine og_not (g := some (19, false)) ho (.tmp 252) (d := some 253) (by kernel_rfl) (by exact ⟨249, by kernel_rfl, E 19 (by decide) (dep ho hall 19 (by kernel_rfl))⟩) (show x'.eval (.tmp 252) = .bool true from E 22 (by decide) (dep ho hall 22 (by kernel_rfl))) ?_
      exact h.next (by omega) hz hu h.bw
    | 24, _ =>
      refine og_pick (g := none) ho (.tmp 249) (.tmp 253) (d := some 254) (by kernel_rfl) (by exact trivial) (show x'.eval (.tmp 249) = .bool false from E 19 (by decide) (dep ho hall 19 (by kernel_rfl))) (show x'.eval (.tmp 253) = .bool false from E 23 (by decide) (dep ho hall 23 (by kernel_rfl))) ?_
      exact h.next (by omega) hz hu h.bw
    | i + 25, hi => omega
  · rintro L x' u h hall
    rw [opsF50_size] at hall
    have hp := Fe.puts ((List.range 25).map fun j => (230 + j, VF50 gz cz gv cv gw uA uc bA bn bc df dt dA dn dc ds j)) a0 x' (by rw [List.map_map]; exact h.fe) (by
      intro p hp
      obtain ⟨j, hj, rfl⟩ := List.mem_map.1 hp
      have hj := List.mem_range.1 hj
      exact ⟨by show _ < _; simp only; omega, h.e j hj (hall j hj)⟩)
    rw [hp]
    exact hK _ u rfl h.bw
  · intro L hL
    exact ⟨Fe.refl _ _, fun j _ h => absurd h (hL _), Below.refl _ _⟩

end Go.Proofs.Ytnglcnilckolkaa
