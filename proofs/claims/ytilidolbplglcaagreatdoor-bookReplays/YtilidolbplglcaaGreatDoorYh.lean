/-
  What the row of BookReplays wants: what came in, opened.
-/
import Derived.Test.YtilidolbplglcaaGreatDoorYg
import Derived.Test.YtilidolbplglcaaGreatDoorRows
import Derived.ProofKit
import Derived.OpenShut
import Derived.ShutString
import Derived.ChangeOld
import Derived.Below
import Derived.Deep.Slices
import Derived.Lib.SmallJoins
import Derived.SizedLaws
import Derived.DataShut
import Derived.LaidMore
import Derived.LaidLaws
import Derived.LaidHandle
import Derived.Stop.Joined
import Derived.Laws.IdiomArrays
namespace Go.Proofs.YtilidolbplglcaaGreatDoor
open Go.ChangeShapes Go.WideShapes Go.ChangeAt Go.RowKit Go.Deep Go.Joins
set_option linter.unusedVariables false

theorem own : ownKnob Tryz.prog.godebug = none := by kernel_rfl
theorem laidOut : laidOutB Tryz.prog = true := by kernel_rfl
theorem cells3 : Tryz.prog.cellsOf 3 = 1 := by kernel_rfl
theorem cellsU : Tryz.prog.cellsOf 5 = 1 := by kernel_rfl
theorem cellsOp : Tryz.prog.cellsOf 46 = 5 := by kernel_rfl
theorem cellsEd : Tryz.prog.cellsOf 48 = 6 := by kernel_rfl
theorem cellsEls : Tryz.prog.cellsOf 25 = 1 := by kernel_rfl
theorem cellsEl : Tryz.prog.cellsOf 50 = 3 := by kernel_rfl
theorem cellsEds : Tryz.prog.cellsOf 22 = 1 := by kernel_rfl
theorem bytesEd : Tryz.prog.bytesOf 48 = 48 := by kernel_rfl
theorem bytesEl : Tryz.prog.bytesOf 50 = 24 := by kernel_rfl
theorem et : Tryz.prog.globalNamed "errors.errorType" = some 0 := by kernel_rfl
theorem rt : (Tryz.prog.cutTypes.find? (·.1 == "internal/reflectlite.rtype")).map (·.2) = some 141 := by kernel_rfl
theorem oneRow : ((List.range 203).filter fun t => Tryz.prog.rowNamed t [101, 114, 114, 111, 114]) = [29] := by kernel_rfl
theorem typesSize : Tryz.prog.types.size = 203 := by kernel_rfl

abbrev laid1 : List (String × DataW Unit) := [("errors.errorType", Rows.laid_errors_errorType), ("jotter/ot.rules", Rows.laid_jotter_ot_rules)]

theorem handle_of_laid {W : World} (h : laidMetH Tryz.prog laid1 W) : Handle W := by
  have h' : laidMet Tryz.prog [("jotter/ot.rules", Rows.laid_jotter_ot_rules)] W ∧ handlesMet Tryz.prog [("errors.errorType", Rows.laid_errors_errorType)] W := h
  obtain ⟨name, u, ty, e1, e2, e3, e4, e5⟩ := h'.2 _ (List.mem_singleton.2 rfl)
  have en : name = [101, 114, 114, 111, 114] := (Option.some.inj e1).symm
  subst en
  obtain rfl := Option.some.inj (rt.symm.trans e2)
  have hm : ty ∈ (List.range 203).filter fun t => Tryz.prog.rowNamed t [101, 114, 114, 111, 114] := List.mem_filter.2 ⟨List.mem_range.2 (by rw [← typesSize]; exact e3), e4⟩
  rw [oneRow] at hm
  obtain rfl := List.mem_singleton.1 hm
  have hh : typeHandle Tryz.prog 29 = .pointer (some ⟨2, 29, none⟩) := by kernel_rfl
  rw [hh] at e5
  have := World.var?_cell et e5 0
  simpa [Handle] using this

theorem wf_u8_range {n : Int} (h : (Lit.int .u8 n).wf = true) : 0 ≤ n ∧ n ≤ 255 := (Lit.wf_int_iff .u8 n).1 h

/-- The reach, of all that a datum holds. -/
def Reaches {H : Type} (t : TypeId) (d : DataW H) : Prop := ∀ k ∈ d.weights Tryz.prog t, k ≤ 140737488351232
theorem reaches_of {H : Type} {ts : List TypeId} {ds : List (DataW H)} (h : (DataW.weightsEach Tryz.prog ts ds).all (· ≤ reachBytes) = true) {j : Nat} {t : TypeId} {d : DataW H} (ht : ts[j]? = some t) (hd' : ds[j]? = some d) : Reaches t d := by
  intro k hk
  have := List.all_eq_true.1 h k (DataW.weights_mem_each ht hd' k hk)
  exact of_decide_eq_true this

theorem weightsAll_mem {H : Type} {P : Program} {e : TypeId} : ∀ {l : List (DataW H)} {d : DataW H}, d ∈ l → ∀ n ∈ d.weights P e, n ∈ DataW.weightsAll P e l
  | d :: r, d', h, n, hn => by
    unfold DataW.weightsAll
    rcases List.mem_cons.1 h with rfl | h
    · exact List.mem_append_left _ hn
    · exact List.mem_append_right _ (weightsAll_mem h n hn)

section
variable {H : Type} {enc : TypeId × Value → H} {P : Program} {w : World} {base : Nat} {spare : Nat → Bool} {held : Bool}
theorem trod_s2 {t : TypeId} {f0 f1 : Field} {fuel : Nat} {cs : List Value} {x : DataW H × List MemPlace} (ht : P.underlying t = some (.struct #[f0, f1])) (h : DataW.trod enc P w base spare held fuel t cs = some x) :
    ∃ y0 y1 n, x.1 = .agg [y0.1, y1.1] ∧ DataW.trod enc P w base spare held n f0.type ((cs.drop f0.offset).take (P.cellsOf f0.type)) = some y0 ∧ DataW.trod enc P w base spare held n f1.type ((cs.drop f1.offset).take (P.cellsOf f1.type)) = some y1 := by
  obtain ⟨xs, n, hn, rfl, hl, hlen, hf⟩ := DataW.trod_struct ht h
  match xs, hlen with
  | [y0, y1], _ => exact ⟨y0, y1, n, by simp, by simpa using hf 0 f0 rfl, by simpa using hf 1 f1 rfl⟩
theorem trod_s3 {t : TypeId} {f0 f1 f2 : Field} {fuel : Nat} {cs : List Value} {x : DataW H × List MemPlace} (ht : P.underlying t = some (.struct #[f0, f1, f2])) (h : DataW.trod enc P w base spare held fuel t cs = some x) :
    ∃ y0 y1 y2 n, x.1 = .agg [y0.1, y1.1, y2.1] ∧ DataW.trod enc P w base spare held n f0.type ((cs.drop f0.offset).take (P.cellsOf f0.type)) = some y0 ∧ DataW.trod enc P w base spare held n f1.type ((cs.drop f1.offset).take (P.cellsOf f1.type)) = some y1 ∧ DataW.trod enc P w base spare held n f2.type ((cs.drop f2.offset).take (P.cellsOf f2.type)) = some y2 := by
  obtain ⟨xs, n, hn, rfl, hl, hlen, hf⟩ := DataW.trod_struct ht h
  match xs, hlen with
  | [y0, y1, y2], _ => exact ⟨y0, y1, y2, n, by simp, by simpa using hf 0 f0 rfl, by simpa using hf 1 f1 rfl, by simpa using hf 2 f2 rfl⟩
theorem trod_s5 {t : TypeId} {f0 f1 f2 f3 f4 : Field} {fuel : Nat} {cs : List Value} {x : DataW H × List MemPlace} (ht : P.underlying t = some (.struct #[f0, f1, f2, f3, f4])) (h : DataW.trod enc P w base spare held fuel t cs = some x) :
    ∃ y0 y1 y2 y3 y4 n, DataW.trod enc P w base spare held n f0.type ((cs.drop f0.offset).take (P.cellsOf f0.type)) = some y0 ∧
      DataW.trod enc P w base spare held n f1.type ((cs.drop f1.offset).take (P.cellsOf f1.type)) = some y1 ∧ DataW.trod enc P w base spare held n f2.type ((cs.drop f2.offset).take (P.cellsOf f2.type)) = some y2 ∧
      DataW.trod enc P w base spare held n f3.type ((cs.drop f3.offset).take (P.cellsOf f3.type)) = some y3 ∧ DataW.trod enc P w base spare held n f4.type ((cs.drop f4.offset).take (P.cellsOf f4.type)) = some y4 := by
  obtain ⟨xs, n, hn, rfl, hl, hlen, hf⟩ := DataW.trod_struct ht h
  match xs, hlen with
  | [y0, y1, y2, y3, y4], _ => exact ⟨y0, y1, y2, y3, y4, n, by simpa using hf 0 f0 rfl, by simpa using hf 1 f1 rfl, by simpa using hf 2 f2 rfl, by simpa using hf 3 f3 rfl, by simpa using hf 4 f4 rfl⟩
theorem trod_s6 {t : TypeId} {f0 f1 f2 f3 f4 f5 : Field} {fuel : Nat} {cs : List Value} {x : DataW H × List MemPlace} (ht : P.underlying t = some (.struct #[f0, f1, f2, f3, f4, f5])) (h : DataW.trod enc P w base spare held fuel t cs = some x) :
    ∃ y0 y1 y2 y3 y4 y5 n, x.1 = .agg [y0.1, y1.1, y2.1, y3.1, y4.1, y5.1] ∧ DataW.trod enc P w base spare held n f0.type ((cs.drop f0.offset).take (P.cellsOf f0.type)) = some y0 ∧
      DataW.trod enc P w base spare held n f1.type ((cs.drop f1.offset).take (P.cellsOf f1.type)) = some y1 ∧ DataW.trod enc P w base spare held n f2.type ((cs.drop f2.offset).take (P.cellsOf f2.type)) = some y2 ∧
      DataW.trod enc P w base spare held n f3.type ((cs.drop f3.offset).take (P.cellsOf f3.type)) = some y3 ∧ DataW.trod enc P w base spare held n f4.type ((cs.drop f4.offset).take (P.cellsOf f4.type)) = some y4 ∧ DataW.trod enc P w base spare held n f5.type ((cs.drop f5.offset).take (P.cellsOf f5.type)) = some y5 := by
  obtain ⟨xs, n, hn, rfl, hl, hlen, hf⟩ := DataW.trod_struct ht h
  match xs, hlen with
  | [y0, y1, y2, y3, y4, y5], _ => exact ⟨y0, y1, y2, y3, y4, y5, n, by simp, by simpa using hf 0 f0 rfl, by simpa using hf 1 f1 rfl, by simpa using hf 2 f2 rfl, by simpa using hf 3 f3 rfl, by simpa using hf 4 f4 rfl, by simpa using hf 5 f5 rfl⟩
end

section
variable {H : Type} {enc : TypeId × Value → H} {W : World}

/-- An operation, its five cells. -/
theorem op_of {fuel : Nat} {v0 v1 v2 v3 v4 : Value} {x : DataW H × List MemPlace} (hf : DataW.trod enc Tryz.prog W 0 (fun _ => true) true fuel 46 [v0, v1, v2, v3, v4] = some x) :
    ∃ o : OpE, v0 = .int .i64 o.kind ∧ v1 = .int .i64 o.pos ∧ v2 = .int .u8 o.ch ∧ v3 = .int .i64 o.cl ∧ v4 = .int .i64 o.sq ∧ 0 ≤ o.ch ∧ o.ch ≤ 255 := by
  obtain ⟨y0, y1, y2, y3, y4, q, g0, g1, g2, g3, g4⟩ := trod_s5 Tryz.underlying46 hf
  simp [cells3, cellsU] at g0 g1 g2 g3 g4
  obtain ⟨z0, e0, _, _⟩ := DataW.trod_int Tryz.underlying3 g0
  obtain ⟨z1, e1, _, _⟩ := DataW.trod_int Tryz.underlying3 g1
  obtain ⟨z2, e2, _, w2⟩ := DataW.trod_int Tryz.underlying5 g2
  obtain ⟨z3, e3, _, _⟩ := DataW.trod_int Tryz.underlying3 g3
  obtain ⟨z4, e4, _, _⟩ := DataW.trod_int Tryz.underlying3 g4
  simp at e0 e1 e2 e3 e4
  exact ⟨⟨z0, z1, z2, z3, z4⟩, e0, e1, e2, e3, e4, wf_u8_range w2⟩

set_option maxRecDepth 100000 in
/-- A log that came in. -/
theorem isLog_of {fuel : Nat} {v : Value} {d : DataW H} {p : List MemPlace} (hf : DataW.trod enc Tryz.prog W 0 (fun _ => true) true fuel 22 [v] = some (d, p)) (hs : Reaches 22 d) :
    ∃ a n c log, v = .slice a n c ∧ n * 48 ≤ 140737488351232 ∧ IsL W a n log ∧ ∀ j (h : j < log.length), 0 ≤ log[j].o.ch ∧ log[j].o.ch ≤ 255 := by
  rcases DataW.trod_slice Tryz.underlying22 hf with ⟨hcs, _⟩ | ⟨x, l, cc, elems, rest, n, hfu, hcs, hd', _, hl, hm, hlen, hel, hsp, _⟩
  · simp at hcs
    exact ⟨none, 0, 0, [], hcs, by omega, ⟨rfl, fun h => by omega⟩, fun j h => by simp at h⟩
  · simp at hcs
    have hd2 : d = .slice (elems.map (·.1)) (rest.map (·.1)) := (Prod.mk.inj hd').1
    have hsz : l * 48 ≤ 140737488351232 := by
      have := hs (((elems.map (·.1)).length + (rest.map (·.1)).length) * Tryz.prog.bytesOf 48) (by rw [hd2]; simp [DataW.weights, Tryz.underlying22])
      rw [bytesEd] at this
      simp [hlen] at this
      omega
    have each : ∀ i, ∃ q : Ed, i < l → ((W.cell? (x.add (i * 6)) = some (.int .i64 q.tag) ∧ W.cell? (x.add (i * 6 + 1)) = some (.int .i64 q.o.kind) ∧ W.cell? (x.add (i * 6 + 2)) = some (.int .i64 q.o.pos) ∧ W.cell? (x.add (i * 6 + 3)) = some (.int .u8 q.o.ch) ∧ W.cell? (x.add (i * 6 + 4)) = some (.int .i64 q.o.cl) ∧ W.cell? (x.add (i * 6 + 5)) = some (.int .i64 q.o.sq)) ∧ 0 ≤ q.o.ch ∧ q.o.ch ≤ 255) := by
      intro i
      by_cases hi : i < l
      · have he := hel i hi
        rw [cellsEd, List.getElem?_eq_getElem (by omega)] at he
        obtain ⟨cs', h1, h2⟩ := Option.bind_eq_some_iff.1 he
        obtain ⟨_, hlen', hcell⟩ := World.cells?_some h1
        obtain ⟨y0, y1, n', hyx, g0, g1⟩ := trod_s2 Tryz.underlying48 h2
        match cs', hlen' with
        | [v0, v1, v2, v3, v4, v5], _ =>
          simp [cells3, cellsOp] at g0 g1
          obtain ⟨z0, e0, _, _⟩ := DataW.trod_int Tryz.underlying3 g0
          simp at e0
          subst e0
          obtain ⟨o, rfl, rfl, rfl, rfl, rfl, hch⟩ := op_of g1
          have k0 := hcell 0 (by omega)
          have k1 := hcell 1 (by omega)
          have k2 := hcell 2 (by omega)
          have k3 := hcell 3 (by omega)
          have k4 := hcell 4 (by omega)
          have k5 := hcell 5 (by omega)
          rw [add_add] at k0 k1 k2 k3 k4 k5
          exact ⟨⟨z0, o⟩, fun _ => ⟨⟨by simpa using k0, by simpa using k1, by simpa using k2, by simpa using k3, by simpa using k4, by simpa using k5⟩, hch⟩⟩
      · exact ⟨⟨0, ⟨0, 0, 0, 0, 0⟩⟩, fun h => absurd h hi⟩
    obtain ⟨Q, hQ⟩ := Classical.axiomOfChoice each
    refine ⟨_, l, cc, (List.range l).map Q, hcs, hsz, ⟨by simp, fun h0 => ?_⟩, fun j h => ?_⟩
    · obtain ⟨b, off, spot⟩ := x
      have c0 := (hQ 0 h0).1.1
      have hspot : spot = none := by simpa [Addr.add] using World.cell?_spot c0
      subst hspot
      have hblk := cell_lt c0
      rw [add_lit] at hblk
      refine ⟨b, off, rfl, hblk, fun q hq => ?_⟩
      have hq' : q < l := by simpa using hq
      have k := (hQ q hq').1
      simp only [add_lit] at k
      simpa [Nat.add_assoc] using k
    · have hj : j < l := by simpa using h
      simpa using (hQ j hj).2

end

theorem gRules : Tryz.prog.globalNamed "jotter/ot.rules" = some 1 := by kernel_rfl
theorem tRules : (Tryz.prog.globals[1]?).map (·.type) = some 164 := by kernel_rfl
theorem cellsT : Tryz.prog.cellsOf 163 = 3 := by kernel_rfl
theorem cellsR : Tryz.prog.cellsOf 164 = 9 := by kernel_rfl

theorem three_of {W : World} {m : Nat} {v0 v1 v2 : Value} {n0 n1 n2 : Int} {p : List MemPlace} (h : DataW.trod (fun _ => ()) Tryz.prog W 0 (fun _ => true) false m 163 [v0, v1, v2] = some (.agg [.lit (.int .i64 n0), .lit (.int .i64 n1), .lit (.int .i64 n2)], p)) :
    v0 = .int .i64 n0 ∧ v1 = .int .i64 n1 ∧ v2 = .int .i64 n2 := by
  obtain ⟨xs, m1, _, hx1, hlen, hn3, hel⟩ := DataW.trod_array Tryz.underlying163 h
  simp only [Prod.mk.injEq, DataW.agg.injEq] at hx1
  have h0 := hel 0 (by decide)
  have h1 := hel 1 (by decide)
  have h2 := hel 2 (by decide)
  match xs, hn3, hx1, h0, h1, h2 with
  | [x0, x1, x2], _, hx1, h0, h1, h2 =>
    simp [cells3] at h0 h1 h2
    obtain ⟨k0, e0, g0, _⟩ := DataW.trod_int Tryz.underlying3 h0
    obtain ⟨k1, e1, g1, _⟩ := DataW.trod_int Tryz.underlying3 h1
    obtain ⟨k2, e2, g2, _⟩ := DataW.trod_int Tryz.underlying3 h2
    simp at e0 e1 e2
    simp [g0, g1, g2] at hx1
    obtain ⟨⟨rfl, rfl, rfl⟩, _⟩ := hx1
    exact ⟨e0, e1, e2⟩

set_option maxRecDepth 100000 in
/-- What the list of the rows gives a walk. -/
theorem table_of_laid {W : World} (h : laidMetH Tryz.prog laid1 W) : Table W := by
  have h' : laidMet Tryz.prog [("jotter/ot.rules", Rows.laid_jotter_ot_rules)] W ∧ handlesMet Tryz.prog [("errors.errorType", Rows.laid_errors_errorType)] W := h
  obtain ⟨ps, ⟨g0, t0, cs0, f0, p0, q0, hg0, ht0, hv0, hd0, _, _⟩, _, _⟩ := h'.1
  obtain rfl := Option.some.inj (gRules.symm.trans hg0)
  obtain rfl := Option.some.inj (tRules.symm.trans ht0)
  obtain ⟨xs, m1, _, hx1, hlen, hn3, hel⟩ := DataW.trod_array Tryz.underlying164 hd0
  rw [cellsR] at hlen
  have hc : ∀ i, W.cell? ⟨1, i, none⟩ = cs0[i]? := World.var?_cell hg0 hv0
  obtain ⟨l⟩ := cs0
  simp only [Rows.laid_jotter_ot_rules, Prod.mk.injEq, DataW.agg.injEq] at hx1
  have h0 := hel 0 (by decide)
  have h1 := hel 1 (by decide)
  have h2 := hel 2 (by decide)
  match l, hlen, xs, hn3, hx1, h0, h1, h2 with
  | [v0, v1, v2, v3, v4, v5, v6, v7, v8], _, [x0, x1, x2], _, hx1, h0, h1, h2 =>
    simp [cellsT] at h0 h1 h2
    obtain ⟨y0, z0⟩ := x0
    obtain ⟨y1, z1⟩ := x1
    obtain ⟨y2, z2⟩ := x2
    simp at hx1
    obtain ⟨⟨rfl, rfl, rfl⟩, _⟩ := hx1
    obtain ⟨rfl, rfl, rfl⟩ := three_of h0
    obtain ⟨rfl, rfl, rfl⟩ := three_of h1
    obtain ⟨rfl, rfl, rfl⟩ := three_of h2
    have hz : W.cell? ⟨1, 0, none⟩ = some (.int .i64 0) := hc 0
    exact ⟨cell_lt hz, hz, hc 1, hc 2, hc 3, hc 4, hc 5, hc 6, hc 7, hc 8⟩


end Go.Proofs.YtilidolbplglcaaGreatDoor
