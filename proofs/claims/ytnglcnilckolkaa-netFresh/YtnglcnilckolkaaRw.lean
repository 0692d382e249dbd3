/-
  NetFresh: region 48, drawn: what is compared is equal.
-/
import Derived.Test.YtnglcnilckolkaaRu
namespace Go.Proofs.Ytnglcnilckolkaa
open Go.RowKit
set_option linter.unusedVariables false

noncomputable def opsF48 : Array Oper := (Try.f6.body.bind (opsAt 48)).getD #[]
theorem opsF48_size : opsF48.size = 15 := by kernel_rfl
theorem opsF48_earlier : Earlier opsF48 := by
  have h : (List.range 15).all (fun i => ((opsF48[i]?).map (fun o => o.after.all (fun e => !Region.binds .any e || decide (e.on < i)))).getD true) = true := by kernel_rfl
  intro i o ho e he hb
  have hi : i < 15 := by
    have := (Array.getElem?_eq_some_iff.1 ho).1
    rwa [opsF48_size] at this
  have h1 := List.all_eq_true.1 h i (List.mem_range.2 hi)
  rw [ho] at h1
  simp only [Option.map_some, Option.getD_some, Array.all_eq_true'] at h1
  have h2 := h1 e he
  rw [hb] at h2
  simpa using h2

def VF48 (gr cr gw k m : Nat) (df dt : Int) (dA : Option Addr) (dn dc : Nat) (ds : Bool) (ef et : Int) (eA : Option Addr) (en ec : Nat) (es : Bool) (j : Nat) : Value := [.slice (some ⟨gr, 0, none⟩) 2 cr, .int .i64 2, .bool false, .bool false, .slice (some ⟨gr, 0, none⟩) 2 cr, .int .i64 k, .pointer (some ⟨gr, k * 4, none⟩), .agg #[.int .i64 df, .int .i64 dt, .slice dA dn dc, .bool ds], .slice (some ⟨gw, 0, none⟩) 3 3, .int .i64 m, .pointer (some ⟨gw, m * 4, none⟩), .agg #[.int .i64 ef, .int .i64 et, .slice eA en ec, .bool es], .bool true, .bool false, .bool false].getD j (.bool false)

set_option maxRecDepth 100000 in
set_option maxHeartbeats 4000000 in
theorem fresh_region48 (a0 : Act) (w : World) {K : Act → World → Prop} {Q' : Exit → Act → World → Prop} (gr cr gw k m : Nat) (df dt : Int) (dA : Option Addr) (dn dc : Nat) (ds : Bool) (ef et : Int) (eA : Option Addr) (en ec : Nat) (es : Bool)
    (h24 : a0.eval (.tmp 24) = .slice (some ⟨gr, 0, none⟩) 2 cr) (h26 : a0.eval (.tmp 26) = .int .i64 k) (h27 : a0.eval (.tmp 27) = .int .i64 m) (h14 : a0.eval (.tmp 14) = .slice (some ⟨gw, 0, none⟩) 3 3) (hz : 215 + 15 ≤ a0.tmps.size)
    (hk : k < 2) (hm : m < 3) (lgr : gr < w.heap.size) (lgw : gw < w.heap.size) (hcd0 : w.cell? ⟨gr, k * 4, none⟩ = some (.int .i64 df)) (hcd1 : w.cell? ⟨gr, k * 4 + 1, none⟩ = some (.int .i64 dt)) (hcd2 : w.cell? ⟨gr, k * 4 + 2, none⟩ = some (.slice dA dn dc)) (hcd3 : w.cell? ⟨gr, k * 4 + 3, none⟩ = some (.bool ds)) (hce0 : w.cell? ⟨gw, m * 4, none⟩ = some (.int .i64 ef)) (hce1 : w.cell? ⟨gw, m * 4 + 1, none⟩ = some (.int .i64 et)) (hce2 : w.cell? ⟨gw, m * 4 + 2, none⟩ = some (.slice eA en ec)) (hce3 : w.cell? ⟨gw, m * 4 + 3, none⟩ = some (.bool es))
    (Ca : ∀ U, Below w.heap.size w U → Calls Try.prog 18 #[.agg #[.int .i64 df, .int .i64 dt, .slice dA dn dc, .bool ds], .agg #[.int .i64 ef, .int .i64 et, .slice eA en ec, .bool es]] U fun e w' => e = .returned (.bool true) ∧ Below w.heap.size w w')
    (hK : ∀ (V : Nat → Value) u, V 14 = .bool false → Below w.heap.size w u → K (puts a0 ((List.range 15).map fun j => (215 + j, V j))) u) :
    (Code.region 48 opsF48 true).wp Try.prog (Exit.then K Q') a0 w := by
  refine wp_region_inv (by kernel_rfl) opsF48_earlier (fun L a u => IV 215 15 a0 w (VF48 gr cr gw k m df dt dA dn dc ds ef et eA en ec es) L a u) ?_ ?_ ?_
  · rintro L L' x' u i o h ho hno hall hu
    clear hK
    have q24 := (h.fe.ev (j := 24) (by decide)).trans h24
    have q26 := (h.fe.ev (j := 26) (by decide)).trans h26
    have q27 := (h.fe.ev (j := 27) (by decide)).trans h27
    have q14 := (h.fe.ev (j := 14) (by decide)).trans h14
    have E := h.e
    have hi : i < 15 := by
      have := (Array.getElem?_eq_some_iff.1 ho).1
      rwa [opsF48_size] at this
    match i, hi with
    | 0, _ =>
      refine og_move (g := none) ho (.tmp 24) (d := some 215) (by kernel_rfl) (by exact trivial) q24 ?_
      exact h.next (by omega) hz hu h.bw
    | 1, _ =>
      refine og_len (g := none) ho (.tmp 215) (d := some 216) (by kernel_rfl) (by exact trivial) (show x'.eval (.tmp 215) = .slice (some ⟨gr, 0, none⟩) 2 cr from E 0 (by decide) (dep ho hall 0 (by kernel_rfl))) ?_
      exact h.next (by omega) hz hu h.bw
    | 2, _ =>
      refine og_neqI (g := none) ho (.tmp 216) 2 (d := some 217) (by kernel_rfl) (by exact trivial) (show x'.eval (.tmp 216) = .int .i64 2 from E 1 (by decide) (dep ho hall 1 (by kernel_rfl))) ?_
      exact h.next (by omega) hz hu h.bw
    | 3, _ =>
      refine og_move (g := none) ho (.tmp 217) (d := some 218) (by kernel_rfl) (by exact trivial) (show x'.eval (.tmp 217) = .bool false from E 2 (by decide) (dep ho hall 2 (by kernel_rfl))) ?_
      exact h.next (by omega) hz hu h.bw
    | 4, _ =>
      refine og_move (g := some (3, false)) ho (.tmp 24) (d := some 219) (by kernel_rfl) (by exact ⟨218, by kernel_rfl, E 3 (by decide) (dep ho hall 3 (by kernel_rfl))⟩) q24 ?_
      exact h.next (by omega) hz hu h.bw
    | 5, _ =>
      refine og_move (g := some (3, false)) ho (.tmp 26) (d := some 220) (by kernel_rfl) (by exact ⟨218, by kernel_rfl, E 3 (by decide) (dep ho hall 3 (by kernel_rfl))⟩) q26 ?_
      exact h.next (by omega) hz hu h.bw
    | 6, _ =>
      refine og_indexT (g := some (3, false)) ho (.tmp 219) (.tmp 220) k (d := some 221) (by kernel_rfl) (by exact ⟨218, by kernel_rfl, E 3 (by decide) (dep ho hall 3 (by kernel_rfl))⟩) (show x'.eval (.tmp 219) = .slice (some ⟨gr, 0, none⟩) 2 cr from E 4 (by decide) (dep ho hall 4 (by kernel_rfl))) (show x'.eval (.tmp 220) = .int .i64 k from E 5 (by decide) (dep ho hall 5 (by kernel_rfl))) hk ?_
      exact h.next (by omega) hz hu h.bw
    | 7, _ =>
      refine og_loadD (g := some (3, false)) ho (.tmp 221) (d := some 222) (by kernel_rfl) (by exact ⟨218, by kernel_rfl, E 3 (by decide) (dep ho hall 3 (by kernel_rfl))⟩) (show x'.eval (.tmp 221) = .pointer (some ⟨gr, k * 4, none⟩) from E 6 (by decide) (dep ho hall 6 (by kernel_rfl))) ((h.bw.cell (p := ⟨gr, k * 4, none⟩) lgr).trans hcd0) ((h.bw.cell (p := ⟨gr, k * 4 + 1, none⟩) lgr).trans hcd1) ((h.bw.cell (p := ⟨gr, k * 4 + 2, none⟩) lgr).trans hcd2) ((h.bw.cell (p := ⟨gr, k * 4 + 3, none⟩) lgr).trans hcd3) ?_
      exact h.next (by omega) hz hu h.bw
    | 8, _ =>
      refine og_move (g := some (3, false)) ho (.tmp 14) (d := some 223) (by kernel_rfl) (by exact ⟨218, by kernel_rfl, E 3 (by decide) (dep ho hall 3 (by kernel_rfl))⟩) q14 ?_
      exact h.next (by omega) hz hu h.bw
    | 9, _ =>
      refine og_move (g := some (3, false)) ho (.tmp 27) (d := some 224) (by kernel_rfl) (by exact ⟨218, by kernel_rfl, E 3 (by decide) (dep ho hall 3 (by kernel_rfl))⟩) q27 ?_
      exact h.next (by omega) hz hu h.bw
    | 10, _ =>
      refine og_indexT (g := some (3, false)) ho (.tmp 223) (.tmp 224) m (d := some 225) (by kernel_rfl) (by exact ⟨218, by kernel_rfl, E 3 (by decide) (dep ho hall 3 (by kernel_rfl))⟩) (show x'.eval (.tmp 223) = .slice (some ⟨gw, 0, none⟩) 3 3 from E 8 (by decide) (dep ho hall 8 (by kernel_rfl))) (show x'.eval (.tmp 224) = .int .i64 m from E 9 (by decide) (dep ho hall 9 (by kernel_rfl))) hm ?_
      exact h.next (by omega) hz hu h.bw
    | 11, _ =>
      refine og_loadD (g := some (3, false)) ho (.tmp 225) (d := some 226) (by kernel_rfl) (by exact ⟨218, by kernel_rfl, E 3 (by decide) (dep ho hall 3 (by kernel_rfl))⟩) (show x'.eval (.tmp 225) = .pointer (some ⟨gw, m * 4, none⟩) from E 10 (by decide) (dep ho hall 10 (by kernel_rfl))) ((h.bw.cell (p := ⟨gw, m * 4, none⟩) lgw).trans hce0) ((h.bw.cell (p := ⟨gw, m * 4 + 1, none⟩) lgw).trans hce1) ((h.bw.cell (p := ⟨gw, m * 4 + 2, none⟩) lgw).trans hce2) ((h.bw.cell (p := ⟨gw, m * 4 + 3, none⟩) lgw).trans hce3) ?_
      exact h.next (by omega) hz hu h.bw
    | 12, _ =>
      refine og_call2 (g := some (3, false)) ho 18 (.tmp 222) (.tmp 226) 37 37 (d := some 227) (by kernel_rfl) (by exact ⟨218, by kernel_rfl, E 3 (by decide) (dep ho hall 3 (by kernel_rfl))⟩) Try.func18 rfl (by kernel_rfl) (R := fun e w' => e = .returned (.bool true) ∧ Below w.heap.size w w') (by rw [(show x'.eval (.tmp 222) = .agg #[.int .i64 df, .int .i64 dt, .slice dA dn dc, .bool ds] from E 7 (by decide) (dep ho hall 7 (by kernel_rfl))), (show x'.eval (.tmp 226) = .agg #[.int .i64 ef, .int .i64 et, .slice eA en ec, .bool es] from E 11 (by decide) (dep ho hall 11 (by kernel_rfl)))]; exact Ca u h.bw) ?_
      rintro e w' ⟨rfl, bb⟩
      exact ⟨_, rfl, h.next (by omega) hz hu bb⟩
    | 13, _ =>
      refine og_not (g := some (3, false)) ho (.tmp 227) (d := some 228) (by kernel_rfl) (by exact ⟨218, by kernel_rfl, E 3 (by decide) (dep ho hall 3 (by kernel_rfl))⟩) (show x'.eval (.tmp 227) = .bool true from E 12 (by decide) (dep ho hall 12 (by kernel_rfl))) ?_
      exact h.next (by omega) hz hu h.bw
    | 14, _ =>
      refine og_pick (g := none) ho (.tmp 218) (.tmp 228) (d := some 229) (by kernel_rfl) (by exact trivial) (show x'.eval (.tmp 218) = .bool false from E 3 (by decide) (dep ho hall 3 (by kernel_rfl))) (show x'.eval (.tmp 228) = .bool false from E 13 (by decide) (dep ho hall 13 (by kernel_rfl))) ?_
      exact h.next (by omega) hz hu h.bw
    | i + 15, hi => omega
  · rintro L x' u h hall
    rw [opsF48_size] at hall
    have hp := Fe.puts ((List.range 15).map fun j => (215 + j, VF48 gr cr gw k m df dt dA dn dc ds ef et eA en ec es j)) a0 x' (by rw [List.map_map]; exact h.fe) (by
      intro p hp
      obtain ⟨j, hj, rfl⟩ := List.mem_map.1 hp
      have hj := List.mem_range.1 hj
      exact ⟨by show _ < _; simp only; omega, h.e j hj (hall j hj)⟩)
    rw [hp]
    exact hK _ u rfl h.bw
  · intro L hL
    exact ⟨Fe.refl _ _, fun j _ h => absurd h (hL _), (Below.refl _ _).drew⟩

end Go.Proofs.Ytnglcnilckolkaa
