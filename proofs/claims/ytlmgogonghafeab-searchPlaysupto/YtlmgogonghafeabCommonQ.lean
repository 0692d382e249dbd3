/-
  Texts and a script, opened; a text is no longer than a fourth of its bulk.
-/
import Derived.Test.YtlmgogonghafeabMA
import Derived.Test.YtlmgogonghafeabQk
import Derived.JoinedCond
import Derived.Deep.CondSized
namespace Go.Proofs.Ytlmgogonghafeab
open Go.ChangeShapes Go.WideShapes Go.ChangeAt Go.RowKit Go.Deep Go.Joins
set_option linter.unusedVariables false

section
variable {P : Program} {w : World} {H : Type} {enc : TypeId × Value → H} {base : Nat} {spare : Bool} {held : TypeId → Bool}
set_option maxRecDepth 100000 in
theorem trod_struct5 {t : TypeId} {f0 f1 f2 f3 f4 : Field} {fuel : Nat} {cs : List Value} {x : DataW H × List MemPlace} (ht : P.underlying t = some (.struct #[f0, f1, f2, f3, f4])) (h : DataW.trod enc P w base held spare fuel t cs = some x) :
    ∃ y0 y1 y2 y3 y4 n, x = (.agg [y0.1, y1.1, y2.1, y3.1, y4.1], y0.2 ++ (y1.2 ++ (y2.2 ++ (y3.2 ++ y4.2)))) ∧ cs.length = P.cellsOf t ∧ DataW.trod enc P w base held spare n f0.type ((cs.drop f0.offset).take (P.cellsOf f0.type)) = some y0 ∧
      DataW.trod enc P w base held spare n f1.type ((cs.drop f1.offset).take (P.cellsOf f1.type)) = some y1 ∧ DataW.trod enc P w base held spare n f2.type ((cs.drop f2.offset).take (P.cellsOf f2.type)) = some y2 ∧
      DataW.trod enc P w base held spare n f3.type ((cs.drop f3.offset).take (P.cellsOf f3.type)) = some y3 ∧ DataW.trod enc P w base held spare n f4.type ((cs.drop f4.offset).take (P.cellsOf f4.type)) = some y4 := by
  obtain ⟨xs, n, _, rfl, hl, hlen, hf⟩ := DataW.trod_struct ht h
  match xs, hlen with
  | [y0, y1, y2, y3, y4], _ => exact ⟨y0, y1, y2, y3, y4, n, by simp, hl, by simpa using hf 0 f0 rfl, by simpa using hf 1 f1 rfl, by simpa using hf 2 f2 rfl, by simpa using hf 3 f3 rfl, by simpa using hf 4 f4 rfl⟩
set_option maxRecDepth 100000 in
theorem trod_struct7 {t : TypeId} {f0 f1 f2 f3 f4 f5 f6 : Field} {fuel : Nat} {cs : List Value} {x : DataW H × List MemPlace} (ht : P.underlying t = some (.struct #[f0, f1, f2, f3, f4, f5, f6])) (h : DataW.trod enc P w base held spare fuel t cs = some x) :
    ∃ y0 y1 y2 y3 y4 y5 y6 n, cs.length = P.cellsOf t ∧ DataW.trod enc P w base held spare n f0.type ((cs.drop f0.offset).take (P.cellsOf f0.type)) = some y0 ∧
      DataW.trod enc P w base held spare n f1.type ((cs.drop f1.offset).take (P.cellsOf f1.type)) = some y1 ∧ DataW.trod enc P w base held spare n f2.type ((cs.drop f2.offset).take (P.cellsOf f2.type)) = some y2 ∧
      DataW.trod enc P w base held spare n f3.type ((cs.drop f3.offset).take (P.cellsOf f3.type)) = some y3 ∧ DataW.trod enc P w base held spare n f4.type ((cs.drop f4.offset).take (P.cellsOf f4.type)) = some y4 ∧
      DataW.trod enc P w base held spare n f5.type ((cs.drop f5.offset).take (P.cellsOf f5.type)) = some y5 ∧ DataW.trod enc P w base held spare n f6.type ((cs.drop f6.offset).take (P.cellsOf f6.type)) = some y6 := by
  obtain ⟨xs, n, _, rfl, hl, hlen, hf⟩ := DataW.trod_struct ht h
  match xs, hlen with
  | [y0, y1, y2, y3, y4, y5, y6], _ => exact ⟨y0, y1, y2, y3, y4, y5, y6, n, hl, by simpa using hf 0 f0 rfl, by simpa using hf 1 f1 rfl, by simpa using hf 2 f2 rfl, by simpa using hf 3 f3 rfl, by simpa using hf 4 f4 rfl, by simpa using hf 5 f5 rfl, by simpa using hf 6 f6 rfl⟩
end

theorem cellsE' : Try.prog.cellsOf 25 = 3 := by kernel_rfl
theorem bytesE : Try.prog.bytesOf 25 = 24 := by kernel_rfl
theorem cellsOp' : Try.prog.cellsOf 32 = 5 := by kernel_rfl
theorem cellsLO : Try.prog.cellsOf 53 = 11 := by kernel_rfl
theorem bytesLO : Try.prog.bytesOf 53 = 104 := by kernel_rfl
set_option maxRecDepth 100000 in
theorem isE_of {H : Type} {enc : TypeId × Value → H} {W : World} {fuel : Nat} {v : Value} {d : DataW H} {p : List MemPlace}
    (hf : DataW.trod enc Try.prog W 0 (fun _ => true) true fuel 22 [v] = some (d, p)) (hs : Fits 22 d) : ∃ a n c xs, v = .slice a n c ∧ (IsE W a n c xs ∧ Chs xs) ∧ n * 24 ≤ 140737488351232 := by
  obtain ⟨a, n, c, xs, hv, ⟨h1, h2, h3, h4, h5⟩, hn⟩ := opens sz_elc (by omega) Try.underlying22 cellsE' bytesE (fun x : El => 0 ≤ x.1 ∧ x.1 < 256) (0, 0, 0) (fun fuel cs y hy => by
    obtain ⟨y0, y1, y2, q, hyx, hl, g0, g1, g2⟩ := trod_struct3 Try.underlying25 hy
    rw [cellsE'] at hl
    match cs, hl with
    | [v0, v1, v2], _ =>
      simp [cellsI', cellsU'] at g0 g1 g2
      obtain ⟨z0, e0, _, w0⟩ := DataW.trod_int Try.underlying5 g0
      obtain ⟨z1, e1, _, w1⟩ := DataW.trod_int Try.underlying3 g1
      obtain ⟨z2, e2, _, w2⟩ := DataW.trod_int Try.underlying3 g2
      simp at e0 e1 e2
      subst e0 e1 e2
      have hr := wf_u8_range w0
      exact ⟨(z0, z1, z2), rfl, hr.1, by show z0 < 256; omega⟩) hf hs
  exact ⟨a, n, c, xs, hv, ⟨⟨h1, h2, h3, h5⟩, h4⟩, hn⟩
set_option maxRecDepth 100000 in
set_option maxHeartbeats 2000000 in
theorem isSc_of {H : Type} {enc : TypeId × Value → H} {W : World} {fuel : Nat} {v : Value} {d : DataW H} {p : List MemPlace}
    (hf : DataW.trod enc Try.prog W 0 (fun _ => true) true fuel 49 [v] = some (d, p)) (hs : Fits 49 d) : ∃ a n c os, v = .slice a n c ∧ IsSc W a n c os := by
  obtain ⟨a, n, c, os, hv, ⟨h1, h2, h3, h4, h5⟩, hn⟩ := opens sz_lop (by omega) Try.underlying49 cellsLO bytesLO lopP ⟨0, false, 0, 0, 0, 0, 0, ⟨#[]⟩, ⟨#[]⟩, 0, 0⟩ (fun fuel cs y hy => by
    obtain ⟨y0, y1, y2, y3, y4, y5, y6, q, hl, g0, g1, g2, g3, g4, g5, g6⟩ := trod_struct7 Try.underlying53 hy
    rw [cellsLO] at hl
    match cs, hl with
    | [v0, v1, v2, v3, v4, v5, v6, v7, v8, v9, v10], _ =>
      simp [cellsI', cellsB', cellsS', cellsOp'] at g0 g1 g2 g3 g4 g5 g6
      obtain ⟨z0, e0, _, _⟩ := DataW.trod_int Try.underlying3 g0
      obtain ⟨z1, e1, _⟩ := DataW.trod_bool Try.underlying4 g1
      obtain ⟨u0, u1, u2, u3, u4, r, _, _, k0, k1, k2, k3, k4⟩ := trod_struct5 Try.underlying32 g2
      simp [cellsI', cellsU'] at k0 k1 k2 k3 k4
      obtain ⟨a0, f0, _, _⟩ := DataW.trod_int Try.underlying3 k0
      obtain ⟨a1, f1, _, _⟩ := DataW.trod_int Try.underlying3 k1
      obtain ⟨a2, f2, _, w2⟩ := DataW.trod_int Try.underlying5 k2
      obtain ⟨a3, f3, _, _⟩ := DataW.trod_int Try.underlying3 k3
      obtain ⟨a4, f4, _, _⟩ := DataW.trod_int Try.underlying3 k4
      obtain ⟨z3, e3, _, w3⟩ := DataW.trod_string Try.underlying9 g3
      obtain ⟨z4, e4, _, w4⟩ := DataW.trod_string Try.underlying9 g4
      obtain ⟨z5, e5, _, w5⟩ := DataW.trod_int Try.underlying3 g5
      obtain ⟨z6, e6, _, _⟩ := DataW.trod_int Try.underlying3 g6
      simp at e0 e1 e3 e4 e5 e6 f0 f1 f2 f3 f4
      subst e0 e1 e3 e4 e5 e6 f0 f1 f2 f3 f4
      have hr := wf_u8_range w2
      exact ⟨⟨z0, z1, a0, a1, a2, a3, a4, z3, z4, z5, z6⟩, rfl, hr.1, hr.2, w3, w4, (wf_i64_range w5).2⟩) hf hs
  exact ⟨a, n, c, os, hv, h1, h2, h3, h4, h5⟩

theorem bulk_one {H : Type} (d : DataW H) : 1 ≤ Rows.uptoBulk d := by
  cases d with
  | lit l => cases l <;> simp [Rows.uptoBulk]
  | nil => simp [Rows.uptoBulk]
  | ptr d => simp [Rows.uptoBulk]
  | slice e s => simp [Rows.uptoBulk]
  | agg p => simp [Rows.uptoBulk]
  | iface t d => simp [Rows.uptoBulk]
  | map e => simp [Rows.uptoBulk]
  | held h => simp [Rows.uptoBulk]
theorem bulk_len4 {H : Type} : ∀ (l : List (DataW H)), (∀ x ∈ l, 4 ≤ Rows.uptoBulk x) → 4 * l.length ≤ Rows.uptoBulkAll l
  | [], _ => by simp [Rows.uptoBulkAll]
  | x :: r, h => by
    have h1 := h x List.mem_cons_self
    have h2 := bulk_len4 r (fun y hy => h y (List.mem_cons_of_mem _ hy))
    simp only [Rows.uptoBulkAll, List.length_cons]
    omega
set_option maxRecDepth 100000 in
theorem small4 {H : Type} {enc : TypeId × Value → H} {W : World} {fuel : Nat} {a : Option Addr} {n c : Nat} {d : DataW H} {p : List MemPlace}
    (hf : DataW.trod enc Try.prog W 0 (fun _ => true) true fuel 22 [.slice a n c] = some (d, p)) : 4 * n ≤ Rows.uptoBulk d := by
  rcases open_slice Try.underlying22 hf with ⟨hcs, _⟩ | ⟨x, l, cc, m, k, D, Pl, hcs, _, hl, hm, hmm, hd', hx⟩
  · simp at hcs
    omega
  · simp at hcs
    have hmc : m = cc := by simpa using hmm
    subst hmc
    have hd2 : d = _ := (Prod.mk.inj hd').1
    subst hd2
    have := bulk_len4 ((List.range l).map D) (fun y hy => by
      obtain ⟨i, hi, rfl⟩ := List.mem_map.1 hy
      obtain ⟨cs', h1, h2⟩ := hx i (by have := List.mem_range.1 hi; omega)
      obtain ⟨y0, y1, y2, q, hyx, -⟩ := trod_struct3 Try.underlying25 h2
      have e : D i = .agg [y0.1, y1.1, y2.1] := (Prod.mk.inj hyx).1
      rw [e]
      have := bulk_one y0.1
      have := bulk_one y1.1
      have := bulk_one y2.1
      simp only [Rows.uptoBulk, Rows.uptoBulkAll]
      omega)
    simp only [List.length_map, List.length_range] at this
    simp only [Rows.uptoBulk]
    omega
end Go.Proofs.Ytlmgogonghafeab
