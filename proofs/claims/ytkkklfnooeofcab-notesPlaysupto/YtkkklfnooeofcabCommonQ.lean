/-
  A script, opened: each step with its text; a text is no longer than a fourth of the script's bulk.
-/
import Derived.Test.YtkkklfnooeofcabXy
import Derived.ProofKit
import Derived.OpenShut
import Derived.ShutString
import Derived.ChangeOld
import Derived.ChangeSame
import Derived.Below
import Derived.Deep.Slices
import Derived.Deep.Strs
import Derived.Lib.SmallJoins
import Derived.SizedLaws
import Derived.DataShut
import Derived.JoinedCond
import Derived.Deep.CondSized
namespace Go.Proofs.Ytkkklfnooeofcab
open Go.ChangeShapes Go.WideShapes Go.ChangeAt Go.RowKit Go.Deep Go.Joins
set_option linter.unusedVariables false

theorem own : ownKnob Try.prog.godebug = none := by kernel_rfl
theorem laidOut : laidOutB Try.prog = true := by kernel_rfl
theorem cell_lt {w : World} {a : Addr} {v : Value} (h : w.cell? a = some v) : a.block < w.heap.size := by
  by_cases hb : a.block < w.heap.size
  · exact hb
  · unfold World.cell? at h
    rw [Array.getElem?_eq_none (by omega)] at h
    simp at h

section
variable {P : Program} {w : World} {H : Type} {enc : TypeId × Value → H} {base : Nat} {spare : Bool} {held : TypeId → Bool}
set_option maxRecDepth 100000 in
theorem trod_struct8 {t : TypeId} {f0 f1 f2 f3 f4 f5 f6 f7 : Field} {fuel : Nat} {cs : List Value} {x : DataW H × List MemPlace} (ht : P.underlying t = some (.struct #[f0, f1, f2, f3, f4, f5, f6, f7])) (h : DataW.trod enc P w base held spare fuel t cs = some x) :
    ∃ y0 y1 y2 y3 y4 y5 y6 y7 n, x.1 = .agg [y0.1, y1.1, y2.1, y3.1, y4.1, y5.1, y6.1, y7.1] ∧ cs.length = P.cellsOf t ∧ DataW.trod enc P w base held spare n f0.type ((cs.drop f0.offset).take (P.cellsOf f0.type)) = some y0 ∧
      DataW.trod enc P w base held spare n f1.type ((cs.drop f1.offset).take (P.cellsOf f1.type)) = some y1 ∧ DataW.trod enc P w base held spare n f2.type ((cs.drop f2.offset).take (P.cellsOf f2.type)) = some y2 ∧
      DataW.trod enc P w base held spare n f3.type ((cs.drop f3.offset).take (P.cellsOf f3.type)) = some y3 ∧ DataW.trod enc P w base held spare n f4.type ((cs.drop f4.offset).take (P.cellsOf f4.type)) = some y4 ∧
      DataW.trod enc P w base held spare n f5.type ((cs.drop f5.offset).take (P.cellsOf f5.type)) = some y5 ∧ DataW.trod enc P w base held spare n f6.type ((cs.drop f6.offset).take (P.cellsOf f6.type)) = some y6 ∧
      DataW.trod enc P w base held spare n f7.type ((cs.drop f7.offset).take (P.cellsOf f7.type)) = some y7 := by
  obtain ⟨xs, n, _, rfl, hl, hlen, hf⟩ := DataW.trod_struct ht h
  match xs, hlen with
  | [y0, y1, y2, y3, y4, y5, y6, y7], _ => exact ⟨y0, y1, y2, y3, y4, y5, y6, y7, n, rfl, hl, by simpa using hf 0 f0 rfl, by simpa using hf 1 f1 rfl, by simpa using hf 2 f2 rfl, by simpa using hf 3 f3 rfl, by simpa using hf 4 f4 rfl, by simpa using hf 5 f5 rfl, by simpa using hf 6 f6 rfl, by simpa using hf 7 f7 rfl⟩
end

theorem bulk_mem {H : Type} {x : DataW H} : ∀ {l : List (DataW H)}, x ∈ l → Rows.uptoBulk x ≤ Rows.uptoBulkAll l
  | y :: r, h => by
    simp only [Rows.uptoBulkAll]
    rcases List.mem_cons.1 h with h | h
    · subst h; omega
    · have := bulk_mem h; omega
theorem bulk_one {H : Type} (d : DataW H) : 1 ≤ Rows.uptoBulk d := by
  cases d with
  | lit l => cases l <;> simp [Rows.uptoBulk]
  | nil => simp [Rows.uptoBulk]
  | ptr d => simp [Rows.uptoBulk]
  | slice e s => simp [Rows.uptoBulk]
  | agg p => simp [Rows.uptoBulk]
  | iface t d => simp [Rows.uptoBulk]
  | map e => simp [Rows.uptoBulk]
  | held h => simp [Rows.uptoBulk]
theorem bulk_len4 {H : Type} : ∀ (l : List (DataW H)), (∀ x ∈ l, 4 ≤ Rows.uptoBulk x) → 4 * l.length ≤ Rows.uptoBulkAll l
  | [], _ => by simp [Rows.uptoBulkAll]
  | x :: r, h => by
    have h1 := h x List.mem_cons_self
    have h2 := bulk_len4 r (fun y hy => h y (List.mem_cons_of_mem _ hy))
    simp only [Rows.uptoBulkAll, List.length_cons]
    omega

set_option maxRecDepth 100000 in
/-- A slice of elements of k cells each, opened; Pr tells of each element, and of its datum. -/
theorem opensD {α : Type} {f : α → List Value} {k : Nat} (hz : Sz f k) (hk : 0 < k) {t e : TypeId} (ht : Try.prog.underlying t = some (.slice e)) (hce : Try.prog.cellsOf e = k) (x0 : α)
    {H : Type} {enc : TypeId × Value → H} {W : World} (Pr : DataW H → α → Prop) (he : ∀ (fuel : Nat) (cs : List Value) (y : DataW H × List MemPlace), DataW.trod enc Try.prog W 0 (fun _ => true) true fuel e cs = some y → ∃ q : α, cs = f q ∧ Pr y.1 q) {fuel : Nat} {v : Value} {d : DataW H} {p : List MemPlace}
    (hf : DataW.trod enc Try.prog W 0 (fun _ => true) true fuel t [v] = some (d, p)) :
    ∃ a n c xs, v = .slice a n c ∧ (List.length xs = n ∧ n ≤ c ∧ c ≤ 9223372036854775807 ∧ (0 < n → ∃ b off, a = some ⟨b, off, none⟩ ∧ b < W.heap.size ∧ ∀ j v, (cl f xs)[j]? = some v → W.cell? ⟨b, off + j, none⟩ = some v)) ∧
      ∃ ds : List (DataW H), ds.length = n ∧ Rows.uptoBulkAll ds ≤ Rows.uptoBulk d ∧ (∀ x ∈ xs, ∃ y ∈ ds, Pr y x) ∧ ∀ y ∈ ds, ∃ x, Pr y x := by
  rcases open_slice ht hf with ⟨hcs, _⟩ | ⟨x, l, cc, m, kk, D, Pl, hcs, _, hl, hm, hmm, hd', hx⟩
  · simp at hcs
    exact ⟨none, 0, 0, [], hcs, ⟨rfl, Nat.le_refl _, by omega, fun h => by omega⟩, [], rfl, by simp [Rows.uptoBulkAll], by simp, by simp⟩
  · simp at hcs
    have hmc : m = cc := by simpa using hmm
    subst hmc
    have hd2 : d = _ := (Prod.mk.inj hd').1
    have each : ∀ i, i < l → ∃ q : α, Pr (D i) q ∧ ∀ r (hr : r < k), W.cell? (x.add (i * k + r)) = (f q)[r]? := by
      intro i hi
      obtain ⟨cs', h1, h2⟩ := hx i (by omega)
      rw [hce] at h1
      obtain ⟨_, hlen, hcell⟩ := World.cells?_some h1
      obtain ⟨q, hq, hp⟩ := he _ _ _ h2
      refine ⟨q, hp, fun r hr => ?_⟩
      have := hcell r (by omega)
      rw [add_add] at this
      rw [this]
      subst hq
      rfl
    have each2 : ∀ i, ∃ q : α, i < l → Pr (D i) q ∧ ∀ r (hr : r < k), W.cell? (x.add (i * k + r)) = (f q)[r]? := by
      intro i
      by_cases hi : i < l
      · obtain ⟨q, hq⟩ := each i hi
        exact ⟨q, fun _ => hq⟩
      · exact ⟨x0, fun h => absurd h hi⟩
    obtain ⟨Q, hQ⟩ := Classical.axiomOfChoice each2
    refine ⟨some x, l, m, (List.range l).map Q, hcs, ⟨by simp, hl, by simpa [maxLen] using hm, fun h0 => ?_⟩, (List.range l).map D, by simp, ?_, ?_, ?_⟩
    · obtain ⟨b, off, spot⟩ := x
      have c0 := (hQ 0 h0).2 0 hk
      have hf0 : ((f (Q 0))[0]?).isSome := by
        rw [List.getElem?_eq_getElem (by rw [(hz (Q 0)).1]; exact hk)]
        rfl
      obtain ⟨v0, hv0⟩ := Option.isSome_iff_exists.1 hf0
      rw [hv0] at c0
      have hspot : spot = none := by
        have := World.cell?_spot c0
        simpa [Addr.add] using this
      subst hspot
      refine ⟨b, off, rfl, ?_, fun j u hj => ?_⟩
      · have := cell_lt c0
        rwa [add_plain] at this
      · have hjl := (List.getElem?_eq_some_iff.1 hj).1
        rw [cl_len hz] at hjl
        simp at hjl
        have hjk : j / k < l := Nat.div_lt_of_lt_mul (by rw [Nat.mul_comm]; exact hjl)
        have e : j / k * k + j % k = j := Nat.div_add_mod' j k
        have hg := cl_get hz ((List.range l).map Q) (j / k) (j % k) (by simpa using hjk) (Nat.mod_lt _ hk)
        rw [e, hj] at hg
        have hc := (hQ (j / k) hjk).2 (j % k) (Nat.mod_lt _ hk)
        rw [e, add_plain] at hc
        rw [hc, hg]
        simp
    · rw [hd2]
      simp only [Rows.uptoBulk]
      omega
    · intro y hy
      obtain ⟨i, hi, rfl⟩ := List.mem_map.1 hy
      exact ⟨D i, List.mem_map.2 ⟨i, hi, rfl⟩, (hQ i (List.mem_range.1 hi)).1⟩
    · intro y hy
      obtain ⟨i, hi, rfl⟩ := List.mem_map.1 hy
      exact ⟨Q i, (hQ i (List.mem_range.1 hi)).1⟩

theorem cellsI' : Try.prog.cellsOf 3 = 1 := by kernel_rfl
theorem cellsS' : Try.prog.cellsOf 9 = 1 := by kernel_rfl
theorem cellsU' : Try.prog.cellsOf 5 = 1 := by kernel_rfl
theorem cellsE' : Try.prog.cellsOf 41 = 3 := by kernel_rfl
theorem cellsEs' : Try.prog.cellsOf 24 = 1 := by kernel_rfl
theorem cellsLO : Try.prog.cellsOf 36 = 8 := by kernel_rfl
theorem wf_u8_range {n : Int} (h : (Lit.int .u8 n).wf = true) : 0 ≤ n ∧ n ≤ 255 := (Lit.wf_int_iff .u8 n).1 h
theorem wf_i64_range {n : Int} (h : (Lit.int .i64 n).wf = true) : -9223372036854775808 ≤ n ∧ n ≤ 9223372036854775807 := (Lit.wf_int_iff .i64 n).1 h

set_option maxRecDepth 100000 in
theorem doc_of {H : Type} {enc : TypeId × Value → H} {W : World} {fuel : Nat} {v : Value} {d : DataW H} {p : List MemPlace}
    (hf : DataW.trod enc Try.prog W 0 (fun _ => true) true fuel 24 [v] = some (d, p)) : ∃ a n c xs, v = .slice a n c ∧ IsE W a n c xs ∧ (∀ x ∈ xs, wfE x) ∧ 4 * n ≤ Rows.uptoBulk d := by
  obtain ⟨a, n, c, xs, hv, ⟨h1, h2, h3, h4⟩, ds, h5, h6, h7, h8⟩ := opensD sz_elc (by omega) Try.underlying24 cellsE' (0, 0, 0) (fun (y : DataW H) (x : El) => wfE x ∧ 4 ≤ Rows.uptoBulk y) (fun fuel cs y hy => by
    obtain ⟨y0, y1, y2, q, hyx, hl, g0, g1, g2⟩ := trod_struct3 Try.underlying41 hy
    rw [cellsE'] at hl
    match cs, hl with
    | [v0, v1, v2], _ =>
      simp [cellsI', cellsU'] at g0 g1 g2
      have hb0 := bulk_one y0.1
      have hb1 := bulk_one y1.1
      have hb2 := bulk_one y2.1
      obtain ⟨z0, e0, _, w0⟩ := DataW.trod_int Try.underlying5 g0
      obtain ⟨z1, e1, _, w1⟩ := DataW.trod_int Try.underlying3 g1
      obtain ⟨z2, e2, _, w2⟩ := DataW.trod_int Try.underlying3 g2
      simp at e0 e1 e2
      subst e0 e1 e2
      refine ⟨(z0, z1, z2), rfl, ⟨wf_u8_range w0, wf_i64_range w1, wf_i64_range w2⟩, ?_⟩
      have e : y.1 = .agg [y0.1, y1.1, y2.1] := by rw [hyx]
      rw [e]
      simp only [Rows.uptoBulk, Rows.uptoBulkAll]
      omega) hf
  refine ⟨a, n, c, xs, hv, ⟨h1, h2, h3, h4⟩, fun x hx => ?_, ?_⟩
  · obtain ⟨y, -, hy⟩ := h7 x hx
    exact hy.1
  · have := bulk_len4 ds (fun y hy => by obtain ⟨x, hx⟩ := h8 y hy; exact hx.2)
    omega

set_option maxRecDepth 100000 in
set_option maxHeartbeats 2000000 in
theorem isSc_of {H : Type} {enc : TypeId × Value → H} {W : World} {fuel : Nat} {v : Value} {d : DataW H} {p : List MemPlace}
    (hf : DataW.trod enc Try.prog W 0 (fun _ => true) true fuel 22 [v] = some (d, p)) (hb : Rows.uptoBulk d ≤ 1048576) : ∃ a n c os, v = .slice a n c ∧ IsSc W a n c os ∧ n ≤ 390000 := by
  obtain ⟨a, n, c, os, hv, ⟨h1, h2, h3, h4⟩, ds, h5, h6, h7, h8⟩ := opensD sz_lop (by omega) Try.underlying22 cellsLO ⟨0, 0, 0, 0, 0, 0, ⟨#[]⟩, none, 0, 0⟩
    (fun (y : DataW H) (o : LO) => (-9223372036854775808 ≤ o.id ∧ o.id ≤ 9223372036854775807) ∧ o.s.size ≤ 9223372036854775807 ∧ (∃ xs, IsE W o.a o.n o.c xs ∧ (∀ x ∈ xs, wfE x)) ∧ 4 * o.n ≤ Rows.uptoBulk y ∧ 4 ≤ Rows.uptoBulk y) (fun fuel cs y hy => by
    obtain ⟨y0, y1, y2, y3, y4, y5, y6, y7, q, hyx, hl, g0, g1, g2, g3, g4, g5, g6, g7⟩ := trod_struct8 Try.underlying36 hy
    rw [cellsLO] at hl
    match cs, hl with
    | [v0, v1, v2, v3, v4, v5, v6, v7], _ =>
      simp [cellsI', cellsS', cellsEs'] at g0 g1 g2 g3 g4 g5 g6 g7
      have b0 := bulk_one y0.1
      have b1 := bulk_one y1.1
      have b2 := bulk_one y2.1
      have b3 := bulk_one y3.1
      obtain ⟨z0, e0, _, _⟩ := DataW.trod_int Try.underlying3 g0
      obtain ⟨z1, e1, _, _⟩ := DataW.trod_int Try.underlying3 g1
      obtain ⟨z2, e2, _, w2⟩ := DataW.trod_int Try.underlying3 g2
      obtain ⟨z3, e3, _, _⟩ := DataW.trod_int Try.underlying3 g3
      obtain ⟨z4, e4, _, _⟩ := DataW.trod_int Try.underlying3 g4
      obtain ⟨z5, e5, _, _⟩ := DataW.trod_int Try.underlying3 g5
      obtain ⟨z6, e6, _, w6⟩ := DataW.trod_string Try.underlying9 g6
      obtain ⟨a7, n7, c7, xs, e7, hE, hwf, hb7⟩ := doc_of g7
      simp at e0 e1 e2 e3 e4 e5 e6
      subst e0 e1 e2 e3 e4 e5 e6 e7
      refine ⟨⟨z0, z1, z2, z3, z4, z5, z6, a7, n7, c7⟩, rfl, wf_i64_range w2, w6, ⟨xs, hE, hwf⟩, ?_, ?_⟩
      · rw [hyx]
        simp only [Rows.uptoBulk, Rows.uptoBulkAll]
        show 4 * n7 ≤ _
        omega
      · rw [hyx]
        simp only [Rows.uptoBulk, Rows.uptoBulkAll]
        omega) hf
  have hlen := bulk_len4 ds (fun y hy => by obtain ⟨x, hx⟩ := h8 y hy; exact hx.2.2.2.2)
  refine ⟨a, n, c, os, hv, ⟨h1, h2, h3, fun o ho => ?_, h4⟩, by omega⟩
  obtain ⟨y, hy, q1, q2, ⟨xs, q3, q4⟩, q5, -⟩ := h7 o ho
  have := bulk_mem hy
  exact ⟨q1, q2, xs, q3, q4, by omega⟩
end Go.Proofs.Ytkkklfnooeofcab
