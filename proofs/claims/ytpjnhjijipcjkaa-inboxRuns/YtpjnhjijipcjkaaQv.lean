/-
  InboxRuns: the script behind three steps of its own.
-/
import Derived.Test.YtpjnhjijipcjkaaQu
import Derived.Test.YtpjnhjijipcjkaaQi
namespace Go.Proofs.Ytpjnhjijipcjkaa
open Go.RowKit
set_option linter.unusedVariables false

def opvc (q : OpV) : List Value := [.int .i64 q.kind, .int .i64 q.slot, .int .i64 q.n, .int .i64 q.v, .slice q.ia q.il q.ic]
theorem sz_opv : Sz opvc 5 := fun q => ⟨rfl, by intro v hv; simp [opvc] at hv; rcases hv with rfl | rfl | rfl | rfl | rfl <;> rfl⟩
def lits : List OpV := [⟨1, 0, 1, 77, none, 0, 0⟩, ⟨8, 0, 0, 1, none, 0, 0⟩, ⟨5, 0, 0, 0, none, 0, 0⟩]
def litc : Array Value := #[.int .i64 1, .int .i64 0, .int .i64 1, .int .i64 77, .slice none 0 0, .int .i64 8, .int .i64 0, .int .i64 0, .int .i64 1, .slice none 0 0, .int .i64 5, .int .i64 0, .int .i64 0, .int .i64 0, .slice none 0 0]
theorem Try.infoOpv : (Try.prog.info? 56).map (fun i => (i.zero, i.size, i.bytes)) = some (some (.agg #[.int .i64 0, .int .i64 0, .int .i64 0, .int .i64 0, .slice none 0 0]), 5, 56) := by kernel_rfl

/-- A list of steps in a block: each, and what lies within it, d layers. -/
def AllAt (w0 w : World) (g N d : Nat) : Prop := ∃ cur : Array Value, w.heap[g]? = some (.cells cur 56 (0, 0)) ∧ ∀ i, i < N → ∃ p : OpV, cur[i * 5]? = some (.int .i64 p.kind) ∧ cur[i * 5 + 1]? = some (.int .i64 p.slot) ∧ cur[i * 5 + 2]? = some (.int .i64 p.n) ∧ cur[i * 5 + 3]? = some (.int .i64 p.v) ∧ cur[i * 5 + 4]? = some (.slice p.ia p.il p.ic) ∧ TrD d w0 p.ia p.il p.ic
theorem AllAt.cell {w0 w : World} {g N d : Nat} (h : AllAt w0 w g N d) (i : Nat) (hi : i < N) : ∃ p : OpV, OpAt w g (i * 5) p ∧ TrD d w0 p.ia p.il p.ic ∧ g < w.heap.size := by
  obtain ⟨cur, h1, h2⟩ := h
  obtain ⟨p, a0, a1, a2, a3, a4, hT⟩ := h2 i hi
  exact ⟨p, ⟨by rw [cell_row h1]; exact a0, by rw [cell_row h1]; exact a1, by rw [cell_row h1]; exact a2, by rw [cell_row h1]; exact a3, by rw [cell_row h1]; exact a4⟩, hT, block_lt h1⟩
theorem AllAt.kp {w0 w w' : World} {g N d : Nat} (h : AllAt w0 w g N d) (he : w'.heap[g]? = w.heap[g]?) : AllAt w0 w' g N d := by
  obtain ⟨cur, h1, h2⟩ := h
  exact ⟨cur, he.trans h1, h2⟩

theorem cl_opv_get (L : List OpV) : ∀ i (hi : i < L.length), (cl opvc L)[i * 5]? = some (.int .i64 L[i].kind) ∧ (cl opvc L)[i * 5 + 1]? = some (.int .i64 L[i].slot) ∧ (cl opvc L)[i * 5 + 2]? = some (.int .i64 L[i].n) ∧ (cl opvc L)[i * 5 + 3]? = some (.int .i64 L[i].v) ∧ (cl opvc L)[i * 5 + 4]? = some (.slice L[i].ia L[i].il L[i].ic) := by
  induction L with
  | nil => intro i hi; simp at hi
  | cons p L ih =>
    intro i hi
    cases i with
    | zero => simp [cl, opvc]
    | succ i =>
      have hl : (opvc p).length = 5 := rfl
      have h := ih i (by simpa using hi)
      rw [cl_cons]
      have e : ∀ k, k < 5 → (opvc p ++ cl opvc L)[(i + 1) * 5 + k]? = (cl opvc L)[i * 5 + k]? := fun k hk => by
        rw [List.getElem?_append_right (by omega), hl]
        congr 1
        omega
      have e0 := e 0 (by omega)
      simp only [Nat.add_zero] at e0
      rw [e0, e 1 (by omega), e 2 (by omega), e 3 (by omega), e 4 (by omega)]
      simpa using h
theorem all_of_row {w0 w : World} {g cap d : Nat} {L : List OpV} (h : RowF opvc 5 w g L.length cap 56 L) (hT : ∀ p ∈ L, TrD d w0 p.ia p.il p.ic) : AllAt w0 w g L.length d := by
  obtain ⟨cur, h1, h2, -⟩ := h
  refine ⟨cur.toArray, h1, fun i hi => ?_⟩
  have hc := cl_opv_get L i hi
  rw [← h2] at hc
  have e : ∀ k, k < 5 → (cur.take (L.length * 5))[i * 5 + k]? = cur[i * 5 + k]? := fun k hk => by rw [List.getElem?_take, if_pos (by omega)]
  have e0 := e 0 (by omega)
  simp only [Nat.add_zero] at e0
  rw [e0, e 1 (by omega), e 2 (by omega), e 3 (by omega), e 4 (by omega)] at hc
  obtain ⟨a0, a1, a2, a3, a4⟩ := hc
  exact ⟨L[i], by simpa using a0, by simpa using a1, by simpa using a2, by simpa using a3, by simpa using a4, hT _ (List.getElem_mem hi)⟩

theorem lits_trd (d : Nat) (w0 : World) : ∀ p ∈ lits, TrD d w0 p.ia p.il p.ic := by
  intro p hp
  simp only [lits, List.mem_cons, List.not_mem_nil, or_false] at hp
  have h0 : TrD d w0 none 0 0 := by
    cases d with
    | zero => exact ⟨Nat.le_refl _, by omega, rfl⟩
    | succ d => exact ⟨Nat.le_refl _, by omega, by omega, fun h => by omega⟩
  rcases hp with rfl | rfl | rfl <;> exact h0

/-- append of the script onto the three steps. -/
theorem run_all (w0 w : World) (a2 : Option Addr) (n c d : Nat) (hT : TrD (d + 1) w0 a2 n c) (hb : RowKit.Below w0.heap.size w0 w) :
    ∃ g cap w3, (∀ ty, (Builtin.append_ #[47, 47] ty #[.slice (some ⟨w.heap.size, 0, none⟩) 3 3, .slice a2 n c]).run Try.prog (w.alloc (.cells litc 56)) = .ok (.slice (some ⟨g, 0, none⟩) (n + 3) cap) w3) ∧
      n + 3 ≤ cap ∧ cap ≤ 9223372036854775807 ∧ AllAt w0 w3 g (n + 3) d ∧ w.heap.size ≤ g ∧ RowKit.Below w.heap.size w w3 := by
  obtain ⟨i0, hi0, hz0, hz1, hz2⟩ := info_parts Try.infoOpv
  have B1 : RowKit.Below w.heap.size w (w.alloc (.cells litc 56)) := (Below.refl _ _).alloc (Nat.le_refl _) _
  have hrow : RowF opvc 5 (w.alloc (.cells litc 56)) w.heap.size 3 3 56 lits := ⟨litc.toList, by rw [Array.toArray_toList]; exact heap_alloc_new _ _, rfl, rfl, Nat.le_refl _, by omega, rfl⟩
  have hlen := hT.2.2.1
  rcases Nat.eq_zero_or_pos n with h0 | h0
  · subst h0
    refine ⟨w.heap.size, 3, w.alloc (.cells litc 56), fun ty => ?_, by omega, by omega, all_of_row (L := lits) hrow (lits_trd d w0), Nat.le_refl _, B1⟩
    cases a2 with
    | none => simp [Builtin.append_, run_underlying Try.underlying47, sizeOf, typeInfo, hi0, Builtin.lenOf, Builtin.firstCells, storeCells]
    | some a => simp [Builtin.append_, run_underlying Try.underlying47, sizeOf, typeInfo, hi0, Builtin.lenOf, Builtin.firstCells, storeCells, loadCells, loadCellsFrom]
  · obtain ⟨bb, off, rfl, hbb, hc⟩ := hT.2.2.2 h0
    have each2 : ∀ i, ∃ p : OpV, i < n → OpAt w0 bb (off + i * 5) p ∧ TrD d w0 p.ia p.il p.ic := fun i => by
      by_cases hi : i < n
      · obtain ⟨p, h1⟩ := hc i hi
        exact ⟨p, fun _ => h1⟩
      · exact ⟨⟨0, 0, 0, 0, none, 0, 0⟩, fun h => absurd h hi⟩
    obtain ⟨O, hO⟩ := Classical.axiomOfChoice each2
    let ys : List OpV := (List.range n).map O
    have hyl : ys.length = n := by simp [ys]
    have hyg : ∀ i (hi : i < ys.length), ys[i] = O i := fun i hi => by simp [ys]
    have hnews : ∀ j u, (cl opvc ys)[j]? = some u → (w.alloc (.cells litc 56)).cell? ((⟨bb, off, none⟩ : Addr).add j) = some u := by
      intro j u hj
      have hjl : j < (cl opvc ys).length := by
        have := List.getElem?_eq_some_iff.1 hj
        exact this.1
      rw [cl_len sz_opv, hyl] at hjl
      have hi : j / 5 < n := by omega
      obtain ⟨⟨o0, o1, o2, o3, o4⟩, -⟩ := hO (j / 5) hi
      have hg := cl_opv_get ys (j / 5) (by rw [hyl]; exact hi)
      rw [hyg] at hg
      have bel := (hb.trans (B1.mono hb.size))
      have cellB : ∀ p : Nat, (w.alloc (.cells litc 56)).cell? ⟨bb, p, none⟩ = w0.cell? ⟨bb, p, none⟩ := fun p => bel.cell (p := ⟨bb, p, none⟩) hbb
      rw [add_lit]
      have hr : j % 5 = 0 ∨ j % 5 = 1 ∨ j % 5 = 2 ∨ j % 5 = 3 ∨ j % 5 = 4 := by omega
      obtain ⟨g0, g1, g2, g3, g4⟩ := hg
      rcases hr with hr | hr | hr | hr | hr
      · have ej : j = j / 5 * 5 := by omega
        rw [ej] at hj ⊢
        rw [cellB, o0, ← g0]
        exact hj
      · have ej : j = j / 5 * 5 + 1 := by omega
        rw [ej] at hj ⊢
        rw [cellB, ← Nat.add_assoc, o1, ← g1]
        exact hj
      · have ej : j = j / 5 * 5 + 2 := by omega
        rw [ej] at hj ⊢
        rw [cellB, ← Nat.add_assoc, o2, ← g2]
        exact hj
      · have ej : j = j / 5 * 5 + 3 := by omega
        rw [ej] at hj ⊢
        rw [cellB, ← Nat.add_assoc, o3, ← g3]
        exact hj
      · have ej : j = j / 5 * 5 + 4 := by omega
        rw [ej] at hj ⊢
        rw [cellB, ← Nat.add_assoc, o4, ← g4]
        exact hj
    obtain ⟨v', w3, hr, g', hS, hF⟩ := run_pushF sz_opv (P := Try.prog) (w.alloc (.cells litc 56)) 47 0 56 i0 _ 56 Try.underlying47 hi0 hz0 hz1 rfl hz2 (some w.heap.size) (.slice (some ⟨w.heap.size, 0, none⟩) 3 3) lits ⟨3, rfl, hrow⟩ ⟨bb, off, none⟩ n c ys hyl hnews h0 (by show 3 + n ≤ _; omega) (by show ((3 + n) + (3 + n) / 4 + 192) * 56 ≤ _; omega)
    obtain ⟨cap, rfl, hR⟩ := hS
    have hl3 : (lits ++ ys).length = n + 3 := by rw [List.length_append, hyl]; show 3 + n = _; omega
    have hall : AllAt w0 w3 g' (lits ++ ys).length d := all_of_row hR (fun p hp => by
      rcases List.mem_append.1 hp with hp | hp
      · exact lits_trd d w0 p hp
      · obtain ⟨i, hi, rfl⟩ := List.mem_map.1 hp
        exact (hO i (List.mem_range.1 hi)).2)
    have hcap : (lits ++ ys).length ≤ cap ∧ cap ≤ 9223372036854775807 := by
      obtain ⟨cur, -, -, -, k1, k2, -⟩ := hR
      exact ⟨k1, k2⟩
    rw [hl3] at hall hcap hr
    refine ⟨g', cap, w3, fun ty => ?_, hcap.1, hcap.2, hall, ?_, ?_⟩
    · have : ∀ ty v u, Builtin.append_ #[47, 47] ty #[v, u] = Builtin.append_ #[47, 47] 0 #[v, u] := fun _ _ _ => rfl
      rw [this ty]
      exact hr
    · rcases hF with ⟨e, -⟩ | ⟨e, -⟩
      · have := Option.some.inj e; omega
      · rw [e]; simp
    · rcases hF with ⟨e, hF⟩ | ⟨e, hF⟩
      · have := Option.some.inj e
        exact B1.trans (hF.below (by simp) (fun k hk => by omega))
      · exact B1.trans (hF.below (by simp) (fun k hk => hk.elim))

end Go.Proofs.Ytpjnhjijipcjkaa
