/-
  What the rows of wire have in common: the variables that are listed, arguments opened.
-/
import Derived.Test.YtibnlfdnnlbeeaaDoorVl
import Derived.ProofKit
import Derived.OpenShut
import Derived.ShutString
import Derived.ChangeOld
import Derived.Below
import Derived.Deep.Slices
import Derived.Lib.SmallJoins
import Derived.SizedLaws
import Derived.DataShut
import Derived.LaidMore
import Derived.LaidLaws
import Derived.LaidHandle
import Derived.Stop.Joined
import Derived.Laws.IdiomArrays
namespace Go.Proofs.YtibnlfdnnlbeeaaDoor
open Go.ChangeShapes Go.WideShapes Go.ChangeAt Go.RowKit Go.Deep Go.Joins
set_option linter.unusedVariables false

theorem own : ownKnob Tryd.prog.godebug = none := by kernel_rfl
theorem laidOut : laidOutB Tryd.prog = true := by kernel_rfl
theorem cells3 : Tryd.prog.cellsOf 3 = 1 := by kernel_rfl
theorem cellsU : Tryd.prog.cellsOf 5 = 1 := by kernel_rfl
theorem cellsO : Tryd.prog.cellsOf 24 = 5 := by kernel_rfl
theorem cellsI : Tryd.prog.cellsOf 26 = 8 := by kernel_rfl
theorem cellsL : Tryd.prog.cellsOf 110 = 2 := by kernel_rfl
theorem cellsLs : Tryd.prog.cellsOf 111 = 28 := by kernel_rfl
theorem et : Tryd.prog.globalNamed "errors.errorType" = some 0 := by kernel_rfl
theorem gLim : Tryd.prog.globalNamed "jotter/wire.limits" = some 1 := by kernel_rfl
theorem tLim : (Tryd.prog.globals[1]?).map (·.type) = some 111 := by kernel_rfl
theorem rt : (Tryd.prog.cutTypes.find? (·.1 == "internal/reflectlite.rtype")).map (·.2) = some 118 := by kernel_rfl
theorem oneRow : ((List.range 162).filter fun t => Tryd.prog.rowNamed t [101, 114, 114, 111, 114]) = [30] := by kernel_rfl
theorem typesSize : Tryd.prog.types.size = 162 := by kernel_rfl

abbrev laid2 : List (String × DataW Unit) := [("errors.errorType", Rows.laid_errors_errorType), ("jotter/wire.limits", Rows.laid_jotter_wire_limits)]

theorem door_met (os : Os) (args : Array Value) : laidMetH Tryd.prog laid2 ((World.doorLaid Tryd.prog 400 os).forCall (fun _ _ => 0) ⟨#[], args, []⟩).memory :=
  laidMetH_of_parts3 (fuel := 8) (laidMet_of_run' 8 (by kernel_rfl) (by kernel_rfl)) (by kernel_rfl) (by kernel_rfl)

theorem laid_parts {W : World} (h : laidMetH Tryd.prog laid2 W) : laidMet Tryd.prog [("jotter/wire.limits", Rows.laid_jotter_wire_limits)] W ∧ handlesMet Tryd.prog [("errors.errorType", Rows.laid_errors_errorType)] W := h

theorem handle_of_laid {W : World} (h : laidMetH Tryd.prog laid2 W) : Handle W := by
  obtain ⟨name, u, ty, e1, e2, e3, e4, e5⟩ := (laid_parts h).2 _ (List.mem_singleton.2 rfl)
  have en : name = [101, 114, 114, 111, 114] := (Option.some.inj e1).symm
  subst en
  obtain rfl := Option.some.inj (rt.symm.trans e2)
  have hm : ty ∈ (List.range 162).filter fun t => Tryd.prog.rowNamed t [101, 114, 114, 111, 114] := List.mem_filter.2 ⟨List.mem_range.2 (by rw [← typesSize]; exact e3), e4⟩
  rw [oneRow] at hm
  obtain rfl := List.mem_singleton.1 hm
  have hh : typeHandle Tryd.prog 30 = .pointer (some ⟨2, 30, none⟩) := by kernel_rfl
  rw [hh] at e5
  have := World.var?_cell et e5 0
  simpa [Handle] using this

theorem pair_of {W : World} {m : Nat} {v0 v1 : Value} {n0 n1 : Int} {p : List MemPlace} (h : DataW.trod (fun _ => ()) Tryd.prog W 0 (fun _ => true) false m 110 [v0, v1] = some (.agg [.lit (.int .i64 n0), .lit (.int .i64 n1)], p)) :
    v0 = .int .i64 n0 ∧ v1 = .int .i64 n1 := by
  obtain ⟨xs, n, _, hx, hl, hlen, hf⟩ := DataW.trod_struct Tryd.underlying110 h
  have h0 := hf 0 _ rfl
  have h1 := hf 1 _ rfl
  match xs, hlen, hx, h0, h1 with
  | [x0, x1], _, hx, h0, h1 =>
    simp [cells3] at h0 h1
    obtain ⟨k0, e0, g0, _⟩ := DataW.trod_int Tryd.underlying3 h0
    obtain ⟨k1, e1, g1, _⟩ := DataW.trod_int Tryd.underlying3 h1
    simp at e0 e1
    simp [g0, g1] at hx
    obtain ⟨⟨rfl, rfl⟩, _⟩ := hx
    exact ⟨e0, e1⟩

set_option maxRecDepth 100000 in
set_option maxHeartbeats 2000000 in
theorem lims_of_laid {W : World} (h : laidMetH Tryd.prog laid2 W) : Lims W := by
  obtain ⟨ps, ⟨g0, t0, cs0, f0, p0, q0, hg0, ht0, hv0, hd0, _, _⟩, _, _⟩ := (laid_parts h).1
  obtain rfl := Option.some.inj (gLim.symm.trans hg0)
  obtain rfl := Option.some.inj (tLim.symm.trans ht0)
  obtain ⟨xs, m1, _, hx1, hlen, hn3, hel⟩ := DataW.trod_array Tryd.underlying111 hd0
  rw [cellsLs] at hlen
  have hw : ∃ t fr, W.heap[1]? = some (.cells cs0 t fr) := by
    unfold World.var? at hv0
    rw [hg0] at hv0
    simp only [Option.bind_some] at hv0
    split at hv0
    · rename_i cs t fr hh
      obtain rfl := Option.some.inj hv0
      exact ⟨t, fr, hh⟩
    · cases hv0
  obtain ⟨t, fr, hw⟩ := hw
  refine ⟨t, fr, ?_⟩
  rw [hw]
  obtain ⟨l⟩ := cs0
  simp only [Rows.laid_jotter_wire_limits, Prod.mk.injEq, DataW.agg.injEq] at hx1
  have h0 := hel 0 (by decide)
  have h1 := hel 1 (by decide)
  have h2 := hel 2 (by decide)
  have h3 := hel 3 (by decide)
  have h4 := hel 4 (by decide)
  have h5 := hel 5 (by decide)
  have h6 := hel 6 (by decide)
  have h7 := hel 7 (by decide)
  have h8 := hel 8 (by decide)
  have h9 := hel 9 (by decide)
  have h10 := hel 10 (by decide)
  have h11 := hel 11 (by decide)
  have h12 := hel 12 (by decide)
  have h13 := hel 13 (by decide)
  clear hel hd0 hv0 hw
  match l, hlen, xs, hn3, hx1, h0, h1, h2, h3, h4, h5, h6, h7, h8, h9, h10, h11, h12, h13 with
  | [v0, v1, v2, v3, v4, v5, v6, v7, v8, v9, v10, v11, v12, v13, v14, v15, v16, v17, v18, v19, v20, v21, v22, v23, v24, v25, v26, v27], _, [x0, x1, x2, x3, x4, x5, x6, x7, x8, x9, x10, x11, x12, x13], _, hx1, h0, h1, h2, h3, h4, h5, h6, h7, h8, h9, h10, h11, h12, h13 =>
    simp [cellsL] at h0 h1 h2 h3 h4 h5 h6 h7 h8 h9 h10 h11 h12 h13
    obtain ⟨y0, z0⟩ := x0
    obtain ⟨y1, z1⟩ := x1
    obtain ⟨y2, z2⟩ := x2
    obtain ⟨y3, z3⟩ := x3
    obtain ⟨y4, z4⟩ := x4
    obtain ⟨y5, z5⟩ := x5
    obtain ⟨y6, z6⟩ := x6
    obtain ⟨y7, z7⟩ := x7
    obtain ⟨y8, z8⟩ := x8
    obtain ⟨y9, z9⟩ := x9
    obtain ⟨y10, z10⟩ := x10
    obtain ⟨y11, z11⟩ := x11
    obtain ⟨y12, z12⟩ := x12
    obtain ⟨y13, z13⟩ := x13
    simp at hx1
    obtain ⟨⟨rfl, rfl, rfl, rfl, rfl, rfl, rfl, rfl, rfl, rfl, rfl, rfl, rfl, rfl⟩, _⟩ := hx1
    obtain ⟨rfl, rfl⟩ := pair_of h0
    obtain ⟨rfl, rfl⟩ := pair_of h1
    obtain ⟨rfl, rfl⟩ := pair_of h2
    obtain ⟨rfl, rfl⟩ := pair_of h3
    obtain ⟨rfl, rfl⟩ := pair_of h4
    obtain ⟨rfl, rfl⟩ := pair_of h5
    obtain ⟨rfl, rfl⟩ := pair_of h6
    obtain ⟨rfl, rfl⟩ := pair_of h7
    obtain ⟨rfl, rfl⟩ := pair_of h8
    obtain ⟨rfl, rfl⟩ := pair_of h9
    obtain ⟨rfl, rfl⟩ := pair_of h10
    obtain ⟨rfl, rfl⟩ := pair_of h11
    obtain ⟨rfl, rfl⟩ := pair_of h12
    obtain ⟨rfl, rfl⟩ := pair_of h13
    rfl

theorem wf_u8_range {n : Int} (h : (Lit.int .u8 n).wf = true) : 0 ≤ n ∧ n ≤ 255 := (Lit.wf_int_iff .u8 n).1 h
theorem wf_i64_range {n : Int} (h : (Lit.int .i64 n).wf = true) : -9223372036854775808 ≤ n ∧ n ≤ 9223372036854775807 := (Lit.wf_int_iff .i64 n).1 h

/-- The reach, of all that a datum holds. -/
def Reaches {H : Type} (t : TypeId) (d : DataW H) : Prop := ∀ k ∈ d.weights Tryd.prog t, k ≤ 140737488351232
theorem reaches_of {H : Type} {ts : List TypeId} {ds : List (DataW H)} (h : (DataW.weightsEach Tryd.prog ts ds).all (· ≤ reachBytes) = true) {j : Nat} {t : TypeId} {d : DataW H} (ht : ts[j]? = some t) (hd' : ds[j]? = some d) : Reaches t d := by
  intro k hk
  have := List.all_eq_true.1 h k (DataW.weights_mem_each ht hd' k hk)
  exact of_decide_eq_true this

section
variable {H : Type} {enc : TypeId × Value → H} {P : Program} {w : World} {base : Nat} {spare : Nat → Bool} {held : Bool}

theorem array8 {α : Type} {cs : Array α} (h : cs.size = 8) : ∃ c0 c1 c2 c3 c4 c5 c6 c7, cs = #[c0, c1, c2, c3, c4, c5, c6, c7] := by
  obtain ⟨l⟩ := cs
  match l, h with
  | [c0, c1, c2, c3, c4, c5, c6, c7], _ => exact ⟨c0, c1, c2, c3, c4, c5, c6, c7, rfl⟩
theorem trod_struct4 {t : TypeId} {f0 f1 f2 f3 : Field} {fuel : Nat} {cs : List Value} {x : DataW H × List MemPlace} (ht : P.underlying t = some (.struct #[f0, f1, f2, f3])) (h : DataW.trod enc P w base spare held fuel t cs = some x) :
    ∃ y0 y1 y2 y3 n, cs.length = P.cellsOf t ∧ DataW.trod enc P w base spare held n f0.type ((cs.drop f0.offset).take (P.cellsOf f0.type)) = some y0 ∧
      DataW.trod enc P w base spare held n f1.type ((cs.drop f1.offset).take (P.cellsOf f1.type)) = some y1 ∧ DataW.trod enc P w base spare held n f2.type ((cs.drop f2.offset).take (P.cellsOf f2.type)) = some y2 ∧
      DataW.trod enc P w base spare held n f3.type ((cs.drop f3.offset).take (P.cellsOf f3.type)) = some y3 := by
  obtain ⟨xs, n, _, rfl, hl, hlen, hf⟩ := DataW.trod_struct ht h
  match xs, hlen with
  | [y0, y1, y2, y3], _ => exact ⟨y0, y1, y2, y3, n, hl, by simpa using hf 0 f0 rfl, by simpa using hf 1 f1 rfl, by simpa using hf 2 f2 rfl, by simpa using hf 3 f3 rfl⟩
theorem trod_struct5 {t : TypeId} {f0 f1 f2 f3 f4 : Field} {fuel : Nat} {cs : List Value} {x : DataW H × List MemPlace} (ht : P.underlying t = some (.struct #[f0, f1, f2, f3, f4])) (h : DataW.trod enc P w base spare held fuel t cs = some x) :
    ∃ y0 y1 y2 y3 y4 n, cs.length = P.cellsOf t ∧ DataW.trod enc P w base spare held n f0.type ((cs.drop f0.offset).take (P.cellsOf f0.type)) = some y0 ∧
      DataW.trod enc P w base spare held n f1.type ((cs.drop f1.offset).take (P.cellsOf f1.type)) = some y1 ∧ DataW.trod enc P w base spare held n f2.type ((cs.drop f2.offset).take (P.cellsOf f2.type)) = some y2 ∧
      DataW.trod enc P w base spare held n f3.type ((cs.drop f3.offset).take (P.cellsOf f3.type)) = some y3 ∧ DataW.trod enc P w base spare held n f4.type ((cs.drop f4.offset).take (P.cellsOf f4.type)) = some y4 := by
  obtain ⟨xs, n, _, rfl, hl, hlen, hf⟩ := DataW.trod_struct ht h
  match xs, hlen with
  | [y0, y1, y2, y3, y4], _ => exact ⟨y0, y1, y2, y3, y4, n, hl, by simpa using hf 0 f0 rfl, by simpa using hf 1 f1 rfl, by simpa using hf 2 f2 rfl, by simpa using hf 3 f3 rfl, by simpa using hf 4 f4 rfl⟩
end

section
variable {H : Type} {enc : TypeId × Value → H} {W : World}

set_option maxRecDepth 100000 in
/-- An item that came in. -/
theorem isItem_of {r : Reach} {b0 : Nat} {v : Value} {d : DataW H} {p : List MemPlace} (hv : Value.okWide Tryd.prog W r b0 26 v) (h : DataW.Trod enc Tryd.prog W 0 (fun _ => true) true 26 v d p) :
    ∃ x : It, v = x.val ∧ OkX x := by
  obtain ⟨cs, rfl, hsz⟩ := okWide_struct Tryd.underlying26 hv
  obtain ⟨c0, c1, c2, c3, c4, c5, c6, c7, rfl⟩ := array8 (hsz.trans cellsI)
  obtain ⟨fuel, hf⟩ := h
  obtain ⟨y0, y1, y2, y3, n, _, h0, h1, h2, h3⟩ := trod_struct4 Tryd.underlying26 hf
  simp [Value.cells, cells3, cellsO] at h0 h1 h2 h3
  obtain ⟨x0, x1, x2, x3, x4, n', _, k0, k1, k2, k3, k4⟩ := trod_struct5 Tryd.underlying24 h3
  simp [cells3, cellsU] at k0 k1 k2 k3 k4
  obtain ⟨z0, e0, _, g0⟩ := DataW.trod_int Tryd.underlying3 h0
  obtain ⟨z1, e1, _, g1⟩ := DataW.trod_int Tryd.underlying3 h1
  obtain ⟨z2, e2, _, g2⟩ := DataW.trod_int Tryd.underlying3 h2
  obtain ⟨z3, e3, _, g3⟩ := DataW.trod_int Tryd.underlying3 k0
  obtain ⟨z4, e4, _, g4⟩ := DataW.trod_int Tryd.underlying3 k1
  obtain ⟨z5, e5, _, g5⟩ := DataW.trod_int Tryd.underlying5 k2
  obtain ⟨z6, e6, _, g6⟩ := DataW.trod_int Tryd.underlying3 k3
  obtain ⟨z7, e7, _, g7⟩ := DataW.trod_int Tryd.underlying3 k4
  simp at e0 e1 e2 e3 e4 e5 e6 e7
  subst e0 e1 e2 e3 e4 e5 e6 e7
  exact ⟨⟨z0, z1, z2, z3, z4, z5, z6, z7⟩, rfl, ⟨wf_i64_range g0, wf_i64_range g1, wf_i64_range g2, wf_i64_range g3, wf_i64_range g4, wf_u8_range g5, wf_i64_range g6, wf_i64_range g7⟩⟩

end

theorem bytes5 : Tryd.prog.bytesOf 5 = 1 := by kernel_rfl

theorem isB_of {H : Type} {enc : TypeId × Value → H} {W : World} {fuel : Nat} {v : Value} {d : DataW H} {p : List MemPlace}
    (hf : DataW.trod enc Tryd.prog W 0 (fun _ => true) true fuel 22 [v] = some (d, p)) (hs : Reaches 22 d) : ∃ a n c xs, v = .slice a n c ∧ IsB W a n c xs ∧ n ≤ 140737488351232 ∧ Rng xs := by
  rcases open_ints Tryd.underlying22 Tryd.underlying5 (by kernel_rfl) hf with ⟨hcs, _⟩ | ⟨x, l, cc, zs, hcs, _, hl, hm, hz, hd', hcell, hwz⟩
  · simp at hcs
    exact ⟨none, 0, 0, [], hcs, ⟨rfl, Nat.le_refl _, by omega, fun h => by omega⟩, by omega, fun x hx => by simp at hx⟩
  · simp at hcs
    refine ⟨some x, l, cc, zs.take l, hcs, ?_, ?_, fun x hx => wf_u8_range (hwz x (List.mem_of_mem_take hx))⟩
    · have hz' : zs.length = cc := by simpa using hz
      refine ⟨by simp; omega, hl, by simpa [maxLen] using hm, fun hn => ?_⟩
      have c0 := hcell 0 (by omega)
      obtain ⟨b, off, spot⟩ := x
      have hspot : spot = none := by simpa [Addr.add] using World.cell?_spot c0
      subst hspot
      refine ⟨b, off, rfl, ?_, fun i hi => ?_⟩
      · have := cell_lt c0
        rwa [add_plain] at this
      · have := hcell i (by omega)
        rw [add_plain] at this
        rw [this]
        simp [hi]
    · have hd2 : d = .slice (lits .u8 (zs.take l)) (lits .u8 (zs.drop l)) := (Prod.mk.inj hd').1
      have hz' : zs.length = cc := by simpa using hz
      subst hd2
      have := hs (((lits (H := H) .u8 (zs.take l)).length + (lits (H := H) .u8 (zs.drop l)).length) * Tryd.prog.bytesOf 5) (by simp [DataW.weights, Tryd.underlying22])
      rw [bytes5] at this
      simp [lits] at this
      omega


end Go.Proofs.YtibnlfdnnlbeeaaDoor
