/-
  NetFresh: region 36, drawn: what is compared is equal.
-/
import Derived.Test.YtnglcnilckolkaaRu
namespace Go.Proofs.Ytnglcnilckolkaa
open Go.RowKit
set_option linter.unusedVariables false

noncomputable def opsF36 : Array Oper := (Try.f6.body.bind (opsAt 36)).getD #[]
theorem opsF36_size : opsF36.size = 12 := by kernel_rfl
theorem opsF36_earlier : Earlier opsF36 := by
  have h : (List.range 12).all (fun i => ((opsF36[i]?).map (fun o => o.after.all (fun e => !Region.binds .any e || decide (e.on < i)))).getD true) = true := by kernel_rfl
  intro i o ho e he hb
  have hi : i < 12 := by
    have := (Array.getElem?_eq_some_iff.1 ho).1
    rwa [opsF36_size] at this
  have h1 := List.all_eq_true.1 h i (List.mem_range.2 hi)
  rw [ho] at h1
  simp only [Option.map_some, Option.getD_some, Array.all_eq_true'] at h1
  have h2 := h1 e he
  rw [hb] at h2
  simpa using h2

def VF36 (db gw k3 : Nat) (i0 : Int) (df dt : Int) (dA : Option Addr) (dn dc : Nat) (ds : Bool) (ef et : Int) (eA : Option Addr) (en ec : Nat) (es : Bool) (j : Nat) : Value := [.int .i64 0, .bool false, .bool false, .agg #[.int .i64 df, .int .i64 dt, .slice dA dn dc, .bool ds], .slice (some ⟨gw, 0, none⟩) 3 3, .int .i64 i0, .int .i64 k3, .pointer (some ⟨gw, k3 * 4, none⟩), .agg #[.int .i64 ef, .int .i64 et, .slice eA en ec, .bool es], .bool true, .bool false, .bool false].getD j (.bool false)

set_option maxRecDepth 100000 in
set_option maxHeartbeats 4000000 in
theorem fresh_region36 (a0 : Act) (w : World) {K : Act → World → Prop} {Q' : Exit → Act → World → Prop} (db gw k3 : Nat) (i0 : Int) (df dt : Int) (dA : Option Addr) (dn dc : Nat) (ds : Bool) (ef et : Int) (eA : Option Addr) (en ec : Nat) (es : Bool)
    (h22 : a0.eval (.tmp 22) = .int .i64 0) (h21 : a0.eval (.tmp 21) = .pointer (some ⟨db, 0, none⟩)) (h14 : a0.eval (.tmp 14) = .slice (some ⟨gw, 0, none⟩) 3 3) (h1 : a0.eval (.tmp 1) = .int .i64 i0) (hz : 181 + 12 ≤ a0.tmps.size)
    (hk3 : k3 < 3) (ldb : db < w.heap.size) (lgw : gw < w.heap.size) (hcd0 : w.cell? ⟨db, 0, none⟩ = some (.int .i64 df)) (hcd1 : w.cell? ⟨db, 0 + 1, none⟩ = some (.int .i64 dt)) (hcd2 : w.cell? ⟨db, 0 + 2, none⟩ = some (.slice dA dn dc)) (hcd3 : w.cell? ⟨db, 0 + 3, none⟩ = some (.bool ds)) (hce0 : w.cell? ⟨gw, k3 * 4, none⟩ = some (.int .i64 ef)) (hce1 : w.cell? ⟨gw, k3 * 4 + 1, none⟩ = some (.int .i64 et)) (hce2 : w.cell? ⟨gw, k3 * 4 + 2, none⟩ = some (.slice eA en ec)) (hce3 : w.cell? ⟨gw, k3 * 4 + 3, none⟩ = some (.bool es))
    (Ci : ∀ U, Calls Try.prog 10 #[.int .i64 i0, .int .i64 3] U fun e w' => e = .returned (.int .i64 k3) ∧ w' = U)
    (Ca : ∀ U, Below w.heap.size w U → Calls Try.prog 18 #[.agg #[.int .i64 df, .int .i64 dt, .slice dA dn dc, .bool ds], .agg #[.int .i64 ef, .int .i64 et, .slice eA en ec, .bool es]] U fun e w' => e = .returned (.bool true) ∧ Below w.heap.size w w')
    (hK : ∀ (V : Nat → Value) u, V 11 = .bool false → Below w.heap.size w u → K (puts a0 ((List.range 12).map fun j => (181 + j, V j))) u) :
    (Code.region 36 opsF36 true).wp Try.prog (Exit.then K Q') a0 w := by
  refine wp_region_inv (by kernel_rfl) opsF36_earlier (fun L a u => IV 181 12 a0 w (VF36 db gw k3 i0 df dt dA dn dc ds ef et eA en ec es) L a u) ?_ ?_ ?_
  · rintro L L' x' u i o h ho hno hall hu
    clear hK
    have q22 := (h.fe.ev (j := 22) (by decide)).trans h22
    have q21 := (h.fe.ev (j := 21) (by decide)).trans h21
    have q14 := (h.fe.ev (j := 14) (by decide)).trans h14
    have q1 := (h.fe.ev (j := 1) (by decide)).trans h1
    have E := h.e
    have hi : i < 12 := by
      have := (Array.getElem?_eq_some_iff.1 ho).1
      rwa [opsF36_size] at this
    match i, hi with
    | 0, _ =>
      refine og_move (g := none) ho (.tmp 22) (d := some 181) (by kernel_rfl) (by exact trivial) q22 ?_
      exact h.next (by omega) hz hu h.bw
    | 1, _ =>
      refine og_neqE (g := none) ho (.tmp 181) (d := some 182) (by kernel_rfl) (by exact trivial) (show x'.eval (.tmp 181) = .int .i64 0 from E 0 (by decide) (dep ho hall 0 (by kernel_rfl))) ?_
      exact h.next (by omega) hz hu h.bw
    | 2, _ =>
      refine og_move (g := none) ho (.tmp 182) (d := some 183) (by kernel_rfl) (by exact trivial) (show x'.eval (.tmp 182) = .bool false from E 1 (by decide) (dep ho hall 1 (by kernel_rfl))) ?_
      exact h.next (by omega) hz hu h.bw
    | 3, _ =>
      refine og_loadD (g := some (2, false)) ho (.tmp 21) (d := some 184) (by kernel_rfl) (by exact ⟨183, by kernel_rfl, E 2 (by decide) (dep ho hall 2 (by kernel_rfl))⟩) q21 ((h.bw.cell (p := ⟨db, 0, none⟩) ldb).trans hcd0) ((h.bw.cell (p := ⟨db, 0 + 1, none⟩) ldb).trans hcd1) ((h.bw.cell (p := ⟨db, 0 + 2, none⟩) ldb).trans hcd2) ((h.bw.cell (p := ⟨db, 0 + 3, none⟩) ldb).trans hcd3) ?_
      exact h.next (by omega) hz hu h.bw
    | 4, _ =>
      refine og_move (g := some (2, false)) ho (.tmp 14) (d := some 185) (by kernel_rfl) (by exact ⟨183, by kernel_rfl, E 2 (by decide) (dep ho hall 2 (by kernel_rfl))⟩) q14 ?_
      exact h.next (by omega) hz hu h.bw
    | 5, _ =>
      refine og_move (g := some (2, false)) ho (.tmp 1) (d := some 186) (by kernel_rfl) (by exact ⟨183, by kernel_rfl, E 2 (by decide) (dep ho hall 2 (by kernel_rfl))⟩) q1 ?_
      exact h.next (by omega) hz hu h.bw
    | 6, _ =>
      refine og_call2 (g := some (2, false)) ho 10 (.tmp 186) (.const (.int .i64 3)) 3 3 (d := some 187) (by kernel_rfl) (by exact ⟨183, by kernel_rfl, E 2 (by decide) (dep ho hall 2 (by kernel_rfl))⟩) Try.func10 rfl (by kernel_rfl) (R := fun e w' => e = .returned (.int .i64 k3) ∧ w' = u) (by rw [(show x'.eval (.tmp 186) = .int .i64 i0 from E 5 (by decide) (dep ho hall 5 (by kernel_rfl)))]; exact Ci u) ?_
      rintro e w' ⟨rfl, rfl⟩
      exact ⟨_, rfl, h.next (by omega) hz hu h.bw⟩
    | 7, _ =>
      refine og_indexT (g := some (2, false)) ho (.tmp 185) (.tmp 187) k3 (d := some 188) (by kernel_rfl) (by exact ⟨183, by kernel_rfl, E 2 (by decide) (dep ho hall 2 (by kernel_rfl))⟩) (show x'.eval (.tmp 185) = .slice (some ⟨gw, 0, none⟩) 3 3 from E 4 (by decide) (dep ho hall 4 (by kernel_rfl))) (show x'.eval (.tmp 187) = .int .i64 k3 from E 6 (by decide) (dep ho hall 6 (by kernel_rfl))) hk3 ?_
      exact h.next (by omega) hz hu h.bw
    | 8, _ =>
      refine og_loadD (g := some (2, false)) ho (.tmp 188) (d := some 189) (by kernel_rfl) (by exact ⟨183, by kernel_rfl, E 2 (by decide) (dep ho hall 2 (by kernel_rfl))⟩) (show x'.eval (.tmp 188) = .pointer (some ⟨gw, k3 * 4, none⟩) from E 7 (by decide) (dep ho hall 7 (by kernel_rfl))) ((h.bw.cell (p := ⟨gw, k3 * 4, none⟩) lgw).trans hce0) ((h.bw.cell (p := ⟨gw, k3 * 4 + 1, none⟩) lgw).trans hce1) ((h.bw.cell (p := ⟨gw, k3 * 4 + 2, none⟩) lgw).trans hce2) ((h.bw.cell (p := ⟨gw, k3 * 4 + 3, none⟩) lgw).trans hce3) ?_
      exact h.next (by omega) hz hu h.bw
    | 9, _ =>
      refine og_call2 (g := some (2, false)) ho 18 (.tmp 184) (.tmp 189) 37 37 (d := some 190) (by kernel_rfl) (by exact ⟨183, by kernel_rfl, E 2 (by decide) (dep ho hall 2 (by kernel_rfl))⟩) Try.func18 rfl (by kernel_rfl) (R := fun e w' => e = .returned (.bool true) ∧ Below w.heap.size w w') (by rw [(show x'.eval (.tmp 184) = .agg #[.int .i64 df, .int .i64 dt, .slice dA dn dc, .bool ds] from E 3 (by decide) (dep ho hall 3 (by kernel_rfl))), (show x'.eval (.tmp 189) = .agg #[.int .i64 ef, .int .i64 et, .slice eA en ec, .bool es] from E 8 (by decide) (dep ho hall 8 (by kernel_rfl)))]; exact Ca u h.bw) ?_
      rintro e w' ⟨rfl, bb⟩
      exact ⟨_, rfl, h.next (by omega) hz hu bb⟩
    | 10, _ =>
      refine og_not (g := some (2, false)) ho (.tmp 190) (d := some 191) (by kernel_rfl) (by exact ⟨183, by kernel_rfl, E 2 (by decide) (dep ho hall 2 (by kernel_rfl))⟩) (show x'.eval (.tmp 190) = .bool true from E 9 (by decide) (dep ho hall 9 (by kernel_rfl))) ?_
      exact h.next (by omega) hz hu h.bw
    | 11, _ =>
      refine og_pick (g := none) ho (.tmp 183) (.tmp 191) (d := some 192) (by kernel_rfl) (by exact trivial) (show x'.eval (.tmp 183) = .bool false from E 2 (by decide) (dep ho hall 2 (by kernel_rfl))) (show x'.eval (.tmp 191) = .bool false from E 10 (by decide) (dep ho hall 10 (by kernel_rfl))) ?_
      exact h.next (by omega) hz hu h.bw
    | i + 12, hi => omega
  · rintro L x' u h hall
    rw [opsF36_size] at hall
    have hp := Fe.puts ((List.range 12).map fun j => (181 + j, VF36 db gw k3 i0 df dt dA dn dc ds ef et eA en ec es j)) a0 x' (by rw [List.map_map]; exact h.fe) (by
      intro p hp
      obtain ⟨j, hj, rfl⟩ := List.mem_map.1 hp
      have hj := List.mem_range.1 hj
      exact ⟨by show _ < _; simp only; omega, h.e j hj (hall j hj)⟩)
    rw [hp]
    exact hK _ u rfl h.bw
  · intro L hL
    exact ⟨Fe.refl _ _, fun j _ h => absurd h (hL _), (Below.refl _ _).drew⟩

end Go.Proofs.Ytnglcnilckolkaa
