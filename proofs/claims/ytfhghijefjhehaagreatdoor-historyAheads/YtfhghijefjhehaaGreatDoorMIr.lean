/-
  Texts put together: Ir Is.
-/
import Derived.Test.YtfhghijefjhehaaGreatDoorMIq
/-! Ir -/
namespace Go.Proofs.YtfhghijefjhehaaGreatDoor
open Go.RowKit Go.Lib
set_option linter.unusedVariables false

section
variable {ops : Array Oper} {o : Oper} {a : Act} {w : World} {K : Act → World → Prop} {Q : Exit → Act → World → Prop} {i : Nat}
theorem og_make {g : Option (Nat × Bool)} (ho : ops[i]? = some o) (l c : Operand) (t : TypeId) {d : Option Tmp} (h : (ops[i]?).map (fun o => (o.dst, o.op, o.guard)) = some (d, Op.makeSlice t l c, g)) (hw : gOk ops a g)
    (e : TypeId) (ti : TypeInfo) (z : Value) (h1 : Tryz.prog.underlying t = some (.slice e)) (h2 : Tryz.prog.info? e = some ti) (h3 : ti.zero = some z) (n : Nat) (hl : a.eval l = .int .i64 (n : Int)) (hc : a.eval c = .int .i64 (n : Int)) (b2 : ti.bytes * n ≤ 281474976710656) (b3 : n ≤ 9223372036854775807)
    (hK : ∀ (w' : World) (cur : List Value), w'.heap[w.heap.size]? = some (.cells cur.toArray e (0, 0)) → cur = (madeCells z.cells (n * ti.size)).toList → Below w.heap.size w w' → K (a.put d (.slice (some ⟨w.heap.size, 0, none⟩) n n)) w') : wpOp Tryz.prog ops Q i K a w := by
  obtain ⟨q1, q2, q3⟩ := flds ho h
  refine og_plain ho q3 hw ?_
  have hrun := run_make (P := Tryz.prog) w t e ti z h1 h2 h3 .i64 .i64 n n (by omega) (by omega) (by rw [← Int.natCast_mul]; exact Int.ofNat_le.2 b2) (by omega)
  simp only [Int.toNat_natCast] at hrun
  unfold Oper.wp
  simp [execOp, q2, hl, hc, hrun, Result.andThen]
  show K (a.put o.dst _) _
  rw [q1]
  refine hK _ _ ?_ (rfl : _ = _) ((Below.refl _ _).alloc (Nat.le_refl _) _)
  show (w.alloc _).heap[w.heap.size]? = _
  rw [heap_alloc_new]
end
theorem set3h (u : World) (g : Nat) (a b c : Value) : Fr (fun k => k = g) u (((u.setCell ⟨g, 0, none⟩ a).setCell ⟨g, 1, none⟩ b).setCell ⟨g, 2, none⟩ c) := by
  have h1 : Fr (fun k => k = g) u (u.setCell ⟨g, 0, none⟩ a) := Fr.setCell _ _ _ rfl
  have h2 : Fr (fun k => k = g) (u.setCell ⟨g, 0, none⟩ a) ((u.setCell ⟨g, 0, none⟩ a).setCell ⟨g, 1, none⟩ b) := Fr.setCell _ _ _ rfl
  have h3 : Fr (fun k => k = g) ((u.setCell ⟨g, 0, none⟩ a).setCell ⟨g, 1, none⟩ b) (((u.setCell ⟨g, 0, none⟩ a).setCell ⟨g, 1, none⟩ b).setCell ⟨g, 2, none⟩ c) := Fr.setCell _ _ _ rfl
  exact (h1.trans h2).trans h3
theorem set3h_row {u : World} {g : Nat} {t : TypeId} {v0 v1 v2 : Value} (h : u.heap[g]? = some (.cells #[v0, v1, v2] t (0, 0))) (a b c : Value) : (((u.setCell ⟨g, 0, none⟩ a).setCell ⟨g, 1, none⟩ b).setCell ⟨g, 2, none⟩ c).heap[g]? = some (.cells #[a, b, c] t (0, 0)) := by
  have := set_row (set_row (set_row h 0 a) 1 b) 2 c
  simpa using this

/-- A new row of n elements. -/
def ObR (T : TypeId) (k n : Nat) (w : World) (v : Value) (u : World) : Prop := ∃ g, v = .slice (some ⟨g, 0, none⟩) n n ∧ w.heap.size ≤ g ∧ ∃ cur : List Value, u.heap[g]? = some (.cells cur.toArray T (0, 0)) ∧ cur.length = n * k
theorem ObR.below {T : TypeId} {k n : Nat} {w : World} {v : Value} {u u1 : World} (h : ObR T k n w v u) (hb : Below u.heap.size u u1) : ObR T k n w v u1 := by
  obtain ⟨g, e, l, cur, p, q⟩ := h
  exact ⟨g, e, l, cur, block_keep hb p (block_lt p), q⟩
def RXh (C : Int) (nL nE : Nat) (w : World) (j : Nat) (v : Value) (u : World) : Prop :=
  if j = 5 then ObR 74 6 nL w v u else if j = 9 then ObR 76 10 nE w v u else if j = 10 then (∃ v1 v2, v = .agg #[.int .i64 C, v1, v2] ∧ ObR 74 6 nL w v1 u ∧ ObR 76 10 nE w v2 u) else (∃ g, v = .pointer (some ⟨g, 0, none⟩) ∧ w.heap.size ≤ g ∧ u.heap[g]? = some (.cells #[.int .i64 0, .slice none 0 0, .slice none 0 0] 25 (0, 0)))
section
variable {C : Int} {nL nE : Nat} {w : World} {v : Value} {u u1 : World}
theorem RX5 : RXh C nL nE w 5 v u ↔ ObR 74 6 nL w v u := by simp [RXh]
theorem RX9 : RXh C nL nE w 9 v u ↔ ObR 76 10 nE w v u := by simp [RXh]
theorem RX10 : RXh C nL nE w 10 v u ↔ ∃ v1 v2, v = .agg #[.int .i64 C, v1, v2] ∧ ObR 74 6 nL w v1 u ∧ ObR 76 10 nE w v2 u := by simp [RXh]
theorem RX11 : RXh C nL nE w 11 v u ↔ ∃ g, v = .pointer (some ⟨g, 0, none⟩) ∧ w.heap.size ≤ g ∧ u.heap[g]? = some (.cells #[.int .i64 0, .slice none 0 0, .slice none 0 0] 25 (0, 0)) := by simp [RXh]
theorem RXh_below {j : Nat} (h : RXh C nL nE w j v u) (hb : Below u.heap.size u u1) : RXh C nL nE w j v u1 := by
  unfold RXh at h ⊢
  split
  · rename_i hj; rw [if_pos hj] at h; exact h.below hb
  · rename_i hj; rw [if_neg hj] at h
    split
    · rename_i hj; rw [if_pos hj] at h; exact h.below hb
    · rename_i hj; rw [if_neg hj] at h
      split
      · rename_i hj; rw [if_pos hj] at h
        obtain ⟨v1, v2, e, a1, a2⟩ := h
        exact ⟨v1, v2, e, a1.below hb, a2.below hb⟩
      · rename_i hj; rw [if_neg hj] at h
        obtain ⟨g, e, l, p⟩ := h
        exact ⟨g, e, l, block_keep hb p (block_lt p)⟩
end

theorem Tryz.infoEdt : (Tryz.prog.info? 74).map (fun i => (i.zero, i.size, i.bytes)) = some (some (.agg #[.int .i64 0, .int .i64 0, .int .i64 0, .int .u8 0, .int .i64 0, .int .i64 0]), 6, 48) := by kernel_rfl
theorem Tryz.infoEvt : (Tryz.prog.info? 76).map (fun i => (i.zero, i.size, i.bytes)) = some (some (.agg #[.int .i64 0, .int .i64 0, .int .i64 0, .int .i64 0, .int .i64 0, .int .i64 0, .int .u8 0, .int .i64 0, .int .i64 0, .slice none 0 0]), 10, 96) := by kernel_rfl
theorem infoEd_parts : ∃ i0, Tryz.prog.info? 74 = some i0 ∧ i0.zero = some (.agg #[.int .i64 0, .int .i64 0, .int .i64 0, .int .u8 0, .int .i64 0, .int .i64 0]) ∧ i0.size = 6 ∧ i0.bytes = 48 := by
  cases hq : Tryz.prog.info? 74 with
  | none => have := Tryz.infoEdt; rw [hq] at this; cases this
  | some i =>
    have h := Tryz.infoEdt
    rw [hq] at h
    simp only [Option.map_some, Option.some.injEq, Prod.mk.injEq] at h
    exact ⟨i, rfl, h.1, h.2.1, h.2.2⟩
theorem infoEv_parts : ∃ i0, Tryz.prog.info? 76 = some i0 ∧ i0.zero = some (.agg #[.int .i64 0, .int .i64 0, .int .i64 0, .int .i64 0, .int .i64 0, .int .i64 0, .int .u8 0, .int .i64 0, .int .i64 0, .slice none 0 0]) ∧ i0.size = 10 ∧ i0.bytes = 96 := by
  cases hq : Tryz.prog.info? 76 with
  | none => have := Tryz.infoEvt; rw [hq] at this; cases this
  | some i =>
    have h := Tryz.infoEvt
    rw [hq] at h
    simp only [Option.map_some, Option.some.injEq, Prod.mk.injEq] at h
    exact ⟨i, rfl, h.1, h.2.1, h.2.2⟩

def TXh (C : Int) (nL nE : Nat) (w : World) (v : Value) (u : World) : Prop := ∃ g g1 g2, v = .pointer (some ⟨g, 0, none⟩) ∧ w.heap.size ≤ g ∧ u.heap[g]? = some (.cells #[.int .i64 C, .slice (some ⟨g1, 0, none⟩) nL nL, .slice (some ⟨g2, 0, none⟩) nE nE] 25 (0, 0)) ∧ (w.heap.size ≤ g1 ∧ ∃ cur : List Value, u.heap[g1]? = some (.cells cur.toArray 74 (0, 0)) ∧ cur.length = nL * 6) ∧ (w.heap.size ≤ g2 ∧ ∃ cur : List Value, u.heap[g2]? = some (.cells cur.toArray 76 (0, 0)) ∧ cur.length = nE * 10) ∧ Below w.heap.size w u

noncomputable def opscpH : Array Oper := (Tryz.f7.body.bind (opsAt 1)).getD #[]
theorem opscpH_size : opscpH.size = 13 := by kernel_rfl
theorem opscpH_earlier : Earlier opscpH := by
  have h : (List.range 13).all (fun i => ((opscpH[i]?).map (fun o => o.after.all (fun e => !Region.binds .any e || decide (e.on < i)))).getD true) = true := by kernel_rfl
  intro i o ho e he hb
  have hi : i < 13 := by
    have := (Array.getElem?_eq_some_iff.1 ho).1
    rwa [opscpH_size] at this
  have h1 := List.all_eq_true.1 h i (List.mem_range.2 hi)
  rw [ho] at h1
  simp only [Option.map_some, Option.getD_some, Array.all_eq_true'] at h1
  have h2 := h1 e he
  rw [hb] at h2
  simpa using h2
def slcpH (j : Nat) : Nat := ([6, 7, 8, 9, 10, 11, 12, 13, 14, 15, 16, 3] : List Nat).getD j 0
def VcpH (hb : Nat) (C : Int) (aL aE : Option Addr) (nL cL nE cE : Nat) (j : Nat) : Value := [.pointer (some ⟨hb, 0, none⟩), .int .i64 C, .pointer (some ⟨hb, 1, none⟩), .slice aL nL cL, .int .i64 (nL : Int), .bool false, .pointer (some ⟨hb, 2, none⟩), .slice aE nE cE, .int .i64 (nE : Int), .bool false, .bool false, .bool false].getD j (.bool false)

set_option maxRecDepth 100000 in
set_option maxHeartbeats 4000000 in
theorem cpH (a0 : Act) (w : World) {Q : Exit → Act → World → Prop} (hb : Nat) (C : Int) (aL aE : Option Addr) (nL cL nE cE : Nat) (h1 : a0.eval (.tmp 1) = .pointer (some ⟨hb, 0, none⟩)) (hzz : 16 < a0.tmps.size)
    (lhb : hb < w.heap.size) (k0 : w.cell? ⟨hb, 0, none⟩ = some (.int .i64 C)) (k1 : w.cell? ⟨hb, 1, none⟩ = some (.slice aL nL cL)) (k2 : w.cell? ⟨hb, 2, none⟩ = some (.slice aE nE cE)) (hnL : nL ≤ 2932031007402) (hnE : nE ≤ 1466015503701)
    (hK : ∀ (V' : Nat → Value) u g g1 g2, V' 11 = .pointer (some ⟨g, 0, none⟩) → w.heap.size ≤ g → u.heap[g]? = some (.cells #[.int .i64 C, .slice (some ⟨g1, 0, none⟩) nL nL, .slice (some ⟨g2, 0, none⟩) nE nE] 25 (0, 0)) → (w.heap.size ≤ g1 ∧ ∃ cur : List Value, u.heap[g1]? = some (.cells cur.toArray 74 (0, 0)) ∧ cur.length = nL * 6) → (w.heap.size ≤ g2 ∧ ∃ cur : List Value, u.heap[g2]? = some (.cells cur.toArray 76 (0, 0)) ∧ cur.length = nE * 10) → Below w.heap.size w u → Q .normal (puts a0 ((List.range 12).map fun j => (slcpH j, V' j))) u) :
    (Code.region 1 opscpH true).wp Tryz.prog Q a0 w := by
  have inj : ∀ i j, i < 12 → j < 12 → slcpH i = slcpH j → i = j := by
    have h : (List.range 12).all (fun i => (List.range 12).all (fun j => decide (slcpH i = slcpH j → i = j))) = true := by kernel_rfl
    intro i j hi hj he
    have h1 := List.all_eq_true.1 h i (List.mem_range.2 hi)
    have h2 := List.all_eq_true.1 h1 j (List.mem_range.2 hj)
    exact (of_decide_eq_true h2) he
  have hz : ∀ j, j < 12 → slcpH j < a0.tmps.size := by
    have h : (List.range 12).all (fun i => decide (slcpH i ≤ 16)) = true := by kernel_rfl
    intro j hj
    have := of_decide_eq_true (List.all_eq_true.1 h j (List.mem_range.2 hj))
    omega
  have hSt := fun (j : Nat) v u u1 (h : RXh C nL nE w j v u) (hb : Below u.heap.size u u1) => RXh_below h hb
  refine wp_region_inv (by kernel_rfl) opscpH_earlier (fun L a u => JN opscpH slcpH 12 (fun j => j == 5 || j == 9 || j == 10 || j == 11) (VcpH hb C aL aE nL cL nE cE) (RXh C nL nE w) 11 (TXh C nL nE w) a0 w L a u) ?_ ?_ ?_
  · rintro L L' a' u i o h ho hno hall hu
    clear hK
    have q1 := (h.fe.ev (j := 1) (by decide)).trans h1
    have E := h.e
    have hi : i < 13 := by
      have := (Array.getElem?_eq_some_iff.1 ho).1
      rwa [opscpH_size] at this
    match i, hi with
    | 0, _ =>
      have hbw := h.n (fun hl => hno (anc_spec h.dc 40 12 0 (by kernel_rfl) hl))
      have hnN : ¬ L 12 := fun hl => hno (anc_spec h.dc 40 12 0 (by kernel_rfl) hl)
      obtain ⟨h1, h2, h3⟩ := flds (d := some 6) (p := Op.fieldAddr 25 (.tmp 1) 0) (g := none) ho (by kernel_rfl)
      have g0 := q1
      refine og_plain ho h3 trivial ?_
      unfold Oper.wp
      simp only [execOp, h2, g0]
      go_simp
      exact h.next (i := 0) ho hall (by decide) hno inj hz hu (by kernel_rfl) (fun j v u1 hr hB => hSt j v u u1 hr hB) (Below.refl _ _) (.inl ⟨by rfl, rfl⟩)
    | 1, _ =>
      have hbw := h.n (fun hl => hno (anc_spec h.dc 40 12 1 (by kernel_rfl) hl))
      have hnN : ¬ L 12 := fun hl => hno (anc_spec h.dc 40 12 1 (by kernel_rfl) hl)
      obtain ⟨h1, h2, h3⟩ := flds (d := some 7) (p := Op.load 3 (.tmp 6)) (g := none) ho (by kernel_rfl)
      have g0 := (show a'.eval (.tmp 6) = .pointer (some ⟨hb, 0, none⟩) from E 0 (by decide) (by rfl) (dep ho hall 0 (by kernel_rfl)))
      have c0 := (hbw.cell (p := ⟨hb, 0, none⟩) lhb).trans k0
      refine og_plain ho h3 trivial ?_
      unfold Oper.wp
      simp only [execOp, h2, g0]
      go_simp
      exact h.next (i := 1) ho hall (by decide) hno inj hz hu (by kernel_rfl) (fun j v u1 hr hB => hSt j v u u1 hr hB) (Below.refl _ _) (.inl ⟨by rfl, rfl⟩)
    | 2, _ =>
      have hbw := h.n (fun hl => hno (anc_spec h.dc 40 12 2 (by kernel_rfl) hl))
      have hnN : ¬ L 12 := fun hl => hno (anc_spec h.dc 40 12 2 (by kernel_rfl) hl)
      obtain ⟨h1, h2, h3⟩ := flds (d := some 8) (p := Op.fieldAddr 25 (.tmp 1) 1) (g := none) ho (by kernel_rfl)
      have g0 := q1
      refine og_plain ho h3 trivial ?_
      unfold Oper.wp
      simp only [execOp, h2, g0]
      go_simp
      exact h.next (i := 2) ho hall (by decide) hno inj hz hu (by kernel_rfl) (fun j v u1 hr hB => hSt j v u u1 hr hB) (Below.refl _ _) (.inl ⟨by rfl, rfl⟩)
    | 3, _ =>
      have hbw := h.n (fun hl => hno (anc_spec h.dc 40 12 3 (by kernel_rfl) hl))
      have hnN : ¬ L 12 := fun hl => hno (anc_spec h.dc 40 12 3 (by kernel_rfl) hl)
      obtain ⟨h1, h2, h3⟩ := flds (d := some 9) (p := Op.load 22 (.tmp 8)) (g := none) ho (by kernel_rfl)
      have g0 := (show a'.eval (.tmp 8) = .pointer (some ⟨hb, 1, none⟩) from E 2 (by decide) (by rfl) (dep ho hall 2 (by kernel_rfl)))
      have c0 := (hbw.cell (p := ⟨hb, 1, none⟩) lhb).trans k1
      refine og_plain ho h3 trivial ?_
      unfold Oper.wp
      simp only [execOp, h2, g0]
      go_simp
      exact h.next (i := 3) ho hall (by decide) hno inj hz hu (by kernel_rfl) (fun j v u1 hr hB => hSt j v u u1 hr hB) (Below.refl _ _) (.inl ⟨by rfl, rfl⟩)
    | 4, _ =>
      have hbw := h.n (fun hl => hno (anc_spec h.dc 40 12 4 (by kernel_rfl) hl))
      have hnN : ¬ L 12 := fun hl => hno (anc_spec h.dc 40 12 4 (by kernel_rfl) hl)
      obtain ⟨h1, h2, h3⟩ := flds (d := some 10) (p := Op.call { callee := .builtin .len, args := #[.tmp 9], argTypes := #[22] }) (g := none) ho (by kernel_rfl)
      have g0 := (show a'.eval (.tmp 9) = .slice aL nL cL from E 3 (by decide) (by rfl) (dep ho hall 3 (by kernel_rfl)))
      refine og_plain ho h3 trivial ?_
      unfold Oper.wp
      simp [execOp, h2, resolve, invoke, builtin, g0, Result.andThen]
      go_simp
      exact h.next (i := 4) ho hall (by decide) hno inj hz hu (by kernel_rfl) (fun j v u1 hr hB => hSt j v u u1 hr hB) (Below.refl _ _) (.inl ⟨by rfl, rfl⟩)
    | 5, _ =>
      have hbw := h.n (fun hl => hno (anc_spec h.dc 40 12 5 (by kernel_rfl) hl))
      have hnN : ¬ L 12 := fun hl => hno (anc_spec h.dc 40 12 5 (by kernel_rfl) hl)
      obtain ⟨i0, hi0, hz0, hz1, hz2⟩ := infoEd_parts
      refine og_make (g := none) ho (.tmp 10) (.tmp 10) 22 (d := some 11) (by kernel_rfl) trivial 74 i0 _ Tryz.underlying22 hi0 hz0 nL (show a'.eval (.tmp 10) = .int .i64 (nL : Int) from E 4 (by decide) (by rfl) (dep ho hall 4 (by kernel_rfl))) (show a'.eval (.tmp 10) = .int .i64 (nL : Int) from E 4 (by decide) (by rfl) (dep ho hall 4 (by kernel_rfl))) (by rw [hz2]; omega) (by omega) ?_
      intro w' cur hg hcur hB
      exact h.next (i := 5) ho hall (by decide) hno inj hz hu (by kernel_rfl) (fun j v u1 hr hB => hSt j v u u1 hr hB) hB (.inr ⟨by rfl, RX5.mpr ⟨_, rfl, hbw.size, cur, hg, by rw [hcur, madeCells_len _ _ (by decide), hz1]⟩⟩)
    | 6, _ =>
      have hbw := h.n (fun hl => hno (anc_spec h.dc 40 12 6 (by kernel_rfl) hl))
      have hnN : ¬ L 12 := fun hl => hno (anc_spec h.dc 40 12 6 (by kernel_rfl) hl)
      obtain ⟨h1, h2, h3⟩ := flds (d := some 12) (p := Op.fieldAddr 25 (.tmp 1) 2) (g := none) ho (by kernel_rfl)
      have g0 := q1
      refine og_plain ho h3 trivial ?_
      unfold Oper.wp
      simp only [execOp, h2, g0]
      go_simp
      exact h.next (i := 6) ho hall (by decide) hno inj hz hu (by kernel_rfl) (fun j v u1 hr hB => hSt j v u u1 hr hB) (Below.refl _ _) (.inl ⟨by rfl, rfl⟩)
    | 7, _ =>
      have hbw := h.n (fun hl => hno (anc_spec h.dc 40 12 7 (by kernel_rfl) hl))
      have hnN : ¬ L 12 := fun hl => hno (anc_spec h.dc 40 12 7 (by kernel_rfl) hl)
      obtain ⟨h1, h2, h3⟩ := flds (d := some 13) (p := Op.load 23 (.tmp 12)) (g := none) ho (by kernel_rfl)
      have g0 := (show a'.eval (.tmp 12) = .pointer (some ⟨hb, 2, none⟩) from E 6 (by decide) (by rfl) (dep ho hall 6 (by kernel_rfl)))
      have c0 := (hbw.cell (p := ⟨hb, 2, none⟩) lhb).trans k2
      refine og_plain ho h3 trivial ?_
      unfold Oper.wp
      simp only [execOp, h2, g0]
      go_simp
      exact h.next (i := 7) ho hall (by decide) hno inj hz hu (by kernel_rfl) (fun j v u1 hr hB => hSt j v u u1 hr hB) (Below.refl _ _) (.inl ⟨by rfl, rfl⟩)
    | 8, _ =>
      have hbw := h.n (fun hl => hno (anc_spec h.dc 40 12 8 (by kernel_rfl) hl))
      have hnN : ¬ L 12 := fun hl => hno (anc_spec h.dc 40 12 8 (by kernel_rfl) hl)
      obtain ⟨h1, h2, h3⟩ := flds (d := some 14) (p := Op.call { callee := .builtin .len, args := #[.tmp 13], argTypes := #[23] }) (g := none) ho (by kernel_rfl)
      have g0 := (show a'.eval (.tmp 13) = .slice aE nE cE from E 7 (by decide) (by rfl) (dep ho hall 7 (by kernel_rfl)))
      refine og_plain ho h3 trivial ?_
      unfold Oper.wp
      simp [execOp, h2, resolve, invoke, builtin, g0, Result.andThen]
      go_simp
      exact h.next (i := 8) ho hall (by decide) hno inj hz hu (by kernel_rfl) (fun j v u1 hr hB => hSt j v u u1 hr hB) (Below.refl _ _) (.inl ⟨by rfl, rfl⟩)
    | 9, _ =>
      have hbw := h.n (fun hl => hno (anc_spec h.dc 40 12 9 (by kernel_rfl) hl))
      have hnN : ¬ L 12 := fun hl => hno (anc_spec h.dc 40 12 9 (by kernel_rfl) hl)
      obtain ⟨i0, hi0, hz0, hz1, hz2⟩ := infoEv_parts
      refine og_make (g := none) ho (.tmp 14) (.tmp 14) 23 (d := some 15) (by kernel_rfl) trivial 76 i0 _ Tryz.underlying23 hi0 hz0 nE (show a'.eval (.tmp 14) = .int .i64 (nE : Int) from E 8 (by decide) (by rfl) (dep ho hall 8 (by kernel_rfl))) (show a'.eval (.tmp 14) = .int .i64 (nE : Int) from E 8 (by decide) (by rfl) (dep ho hall 8 (by kernel_rfl))) (by rw [hz2]; omega) (by omega) ?_
      intro w' cur hg hcur hB
      exact h.next (i := 9) ho hall (by decide) hno inj hz hu (by kernel_rfl) (fun j v u1 hr hB => hSt j v u u1 hr hB) hB (.inr ⟨by rfl, RX9.mpr ⟨_, rfl, hbw.size, cur, hg, by rw [hcur, madeCells_len _ _ (by decide), hz1]⟩⟩)
    | 10, _ =>
      have hbw := h.n (fun hl => hno (anc_spec h.dc 40 12 10 (by kernel_rfl) hl))
      have hnN : ¬ L 12 := fun hl => hno (anc_spec h.dc 40 12 10 (by kernel_rfl) hl)
      obtain ⟨h1, h2, h3⟩ := flds (d := some 16) (p := Op.build 25 #[(0, .tmp 7), (1, .tmp 11), (2, .tmp 15)]) (g := none) ho (by kernel_rfl)
      have g0 := (show a'.eval (.tmp 7) = .int .i64 C from E 1 (by decide) (by rfl) (dep ho hall 1 (by kernel_rfl)))
      have r1 := RX5.mp (h.r 5 (by decide) (by rfl) (dep ho hall 5 (by kernel_rfl)) hnN)
      have r2 := RX9.mp (h.r 9 (by decide) (by rfl) (dep ho hall 9 (by kernel_rfl)) hnN)
      obtain ⟨g1, e1, r1'⟩ := r1
      obtain ⟨g2, e2, r2'⟩ := r2
      have t0 : a'.tmps[7]?.getD undef = .int .i64 C := by simpa [Act.eval] using g0
      have t1 : a'.tmps[11]?.getD undef = .slice (some ⟨g1, 0, none⟩) nL nL := by simpa [Act.eval] using (show a'.eval (.tmp 11) = _ from e1)
      have t2 : a'.tmps[15]?.getD undef = .slice (some ⟨g2, 0, none⟩) nE nE := by simpa [Act.eval] using (show a'.eval (.tmp 15) = _ from e2)
      refine og_plain ho h3 trivial ?_
      unfold Oper.wp
      simp only [execOp, h2]
      go_simp
      exact h.next (i := 10) ho hall (by decide) hno inj hz hu (by kernel_rfl) (fun j v u1 hr hB => hSt j v u u1 hr hB) (Below.refl _ _) (.inr ⟨by rfl, RX10.mpr ⟨_, _, rfl, ⟨g1, rfl, r1'⟩, ⟨g2, rfl, r2'⟩⟩⟩)
    | 11, _ =>
      have hbw := h.n (fun hl => hno (anc_spec h.dc 40 12 11 (by kernel_rfl) hl))
      have hnN : ¬ L 12 := fun hl => hno (anc_spec h.dc 40 12 11 (by kernel_rfl) hl)
      obtain ⟨h1, h2, h3⟩ := flds (d := some 3) (p := Op.alloc 25) (g := none) ho (by kernel_rfl)
      refine og_plain ho h3 trivial ?_
      unfold Oper.wp
      simp only [execOp, h2]
      go_simp
      exact h.next (i := 11) ho hall (by decide) hno inj hz hu (by kernel_rfl) (fun j v u1 hr hB => hSt j v u u1 hr hB) ((Below.refl _ _).alloc (Nat.le_refl _) _) (.inr ⟨by rfl, RX11.mpr ⟨_, rfl, hbw.size, heap_alloc_new _ _⟩⟩)
    | 12, _ =>
      obtain ⟨h1, h2, h3⟩ := flds (d := none) (p := Op.store 25 (.tmp 3) (.tmp 16)) (g := none) ho (by kernel_rfl)
      have lb : L 10 := dep ho hall 10 (by kernel_rfl)
      have la : L 11 := dep ho hall 11 (by kernel_rfl)
      obtain ⟨v1, v2, eb, ⟨g1, rfl, o1, c1, p1, q1⟩, ⟨g2, rfl, o2, c2, p2, q2⟩⟩ := RX10.mp (h.r 10 (by decide) (by rfl) lb hno)
      obtain ⟨g, ea, og, pg⟩ := RX11.mp (h.r 11 (by decide) (by rfl) la hno)
      have g0 : a'.eval (.tmp 3) = .pointer (some ⟨g, 0, none⟩) := ea
      have gv : a'.eval (.tmp 16) = .agg #[.int .i64 C, .slice (some ⟨g1, 0, none⟩) nL nL, .slice (some ⟨g2, 0, none⟩) nE nE] := eb
      have hbw := h.n hno
      have z0 := cell_row pg 0; have z1 := cell_row pg 1; have z2 := cell_row pg 2
      simp at z0 z1 z2
      have f0 := frozen_row pg 0; have f1 := frozen_row pg 1; have f2 := frozen_row pg 2
      refine og_plain ho h3 trivial ?_
      unfold Oper.wp
      simp only [execOp, h2, g0, gv]
      go_simp
      have hF : Fr (fun k => k = g) u (((u.setCell ⟨g, 0, none⟩ (.int .i64 C)).setCell ⟨g, 1, none⟩ (.slice (some ⟨g1, 0, none⟩) nL nL)).setCell ⟨g, 2, none⟩ (.slice (some ⟨g2, 0, none⟩) nE nE)) := set3h u g _ _ _
      have n1 : ¬ g1 = g := fun e => by rw [e, pg] at p1; simp at p1
      have n2 : ¬ g2 = g := fun e => by rw [e, pg] at p2; simp at p2
      refine h.store ho hall hno hu ?_
      exact ⟨g, g1, g2, ea, og, set3h_row pg _ _ _, ⟨o1, c1, hF.keeps p1 n1, q1⟩, ⟨o2, c2, hF.keeps p2 n2, q2⟩, hbw.trans (hF.below hbw.size (fun k hk => by rw [hk]; exact og))⟩
    | i + 13, hi => omega
  · rintro L a' u h hall
    rw [opscpH_size] at hall
    obtain ⟨V', ⟨g, g1, g2, e1, e2, e3, e4, e5, e6⟩, rfl⟩ := h.done hz (hall 12 (by omega))
    exact hK V' u g g1 g2 e1 e2 e3 e4 e5 e6
  · intro L hL
    exact JN.start ((Below.refl _ _).drew) hL

noncomputable def opscpL : Array Oper := (Tryz.f7.body.bind (opsAt 5)).getD #[]
theorem opscpL_size : opscpL.size = 10 := by kernel_rfl
theorem opscpL_earlier : Earlier opscpL := by
  have h : (List.range 10).all (fun i => ((opscpL[i]?).map (fun o => o.after.all (fun e => !Region.binds .any e || decide (e.on < i)))).getD true) = true := by kernel_rfl
  intro i o ho e he hb
  have hi : i < 10 := by
    have := (Array.getElem?_eq_some_iff.1 ho).1
    rwa [opscpL_size] at this
  have h1 := List.all_eq_true.1 h i (List.mem_range.2 hi)
  rw [ho] at h1
  simp only [Option.map_some, Option.getD_some, Array.all_eq_true'] at h1
  have h2 := h1 e he
  rw [hb] at h2
  simpa using h2
def slcpL (j : Nat) : Nat := ([24, 25, 26, 27, 28, 29, 30, 31, 32] : List Nat).getD j 0
def VcpL (hb gb gr b off ix n m c : Nat) (tg ok op oc oL os : Int) (j : Nat) : Value := [.pointer (some ⟨gb, 1, none⟩), .slice (some ⟨gr, 0, none⟩) n m, .int .i64 (ix : Int), .pointer (some ⟨hb, 1, none⟩), .slice (some ⟨b, off, none⟩) n c, .int .i64 (ix : Int), .pointer (some ⟨b, off + ix * 6, none⟩), .agg #[.int .i64 tg, .int .i64 ok, .int .i64 op, .int .u8 oc, .int .i64 oL, .int .i64 os], .pointer (some ⟨gr, ix * 6, none⟩)].getD j (.bool false)

set_option maxRecDepth 100000 in
set_option maxHeartbeats 4000000 in
theorem cpL (a0 : Act) (w : World) {Q : Exit → Act → World → Prop} (hb gb gr b off ix n m c : Nat) (tg ok op oc oL os : Int) (h1 : a0.eval (.tmp 1) = .pointer (some ⟨hb, 0, none⟩)) (h3 : a0.eval (.tmp 3) = .pointer (some ⟨gb, 0, none⟩)) (h4 : a0.eval (.tmp 4) = .int .i64 (ix : Int)) (hzz : 32 < a0.tmps.size)
    (lhb : hb < w.heap.size) (lgb : gb < w.heap.size) (lgr : gr < w.heap.size) (lb : b < w.heap.size) (kg : w.cell? ⟨gb, 1, none⟩ = some (.slice (some ⟨gr, 0, none⟩) n m)) (kh : w.cell? ⟨hb, 1, none⟩ = some (.slice (some ⟨b, off, none⟩) n c)) (k0 : w.cell? ⟨b, off + ix * 6, none⟩ = some (.int .i64 tg)) (k1 : w.cell? ⟨b, off + ix * 6 + 1, none⟩ = some (.int .i64 ok)) (k2 : w.cell? ⟨b, off + ix * 6 + 2, none⟩ = some (.int .i64 op)) (k3 : w.cell? ⟨b, off + ix * 6 + 3, none⟩ = some (.int .u8 oc)) (k4 : w.cell? ⟨b, off + ix * 6 + 4, none⟩ = some (.int .i64 oL)) (k5 : w.cell? ⟨b, off + ix * 6 + 5, none⟩ = some (.int .i64 os)) (o0 o1 o2 o3 o4 o5 : Value) (y0 : w.cell? ⟨gr, ix * 6, none⟩ = some o0) (y1 : w.cell? ⟨gr, ix * 6 + 1, none⟩ = some o1) (y2 : w.cell? ⟨gr, ix * 6 + 2, none⟩ = some o2) (y3 : w.cell? ⟨gr, ix * 6 + 3, none⟩ = some o3) (y4 : w.cell? ⟨gr, ix * 6 + 4, none⟩ = some o4) (y5 : w.cell? ⟨gr, ix * 6 + 5, none⟩ = some o5) (i1 : (ix : Int) < (n : Int)) (i0 : (0 : Int) ≤ (ix : Int))
    (hfz : ∀ u, Below w.heap.size w u → u.frozen? ⟨gr, ix * 6, none⟩ = false ∧ u.frozen? ⟨gr, ix * 6 + 1, none⟩ = false ∧ u.frozen? ⟨gr, ix * 6 + 2, none⟩ = false ∧ u.frozen? ⟨gr, ix * 6 + 3, none⟩ = false ∧ u.frozen? ⟨gr, ix * 6 + 4, none⟩ = false ∧ u.frozen? ⟨gr, ix * 6 + 5, none⟩ = false)
    (hK : ∀ (V' : Nat → Value) u1, Below w.heap.size w u1 → Q .normal (puts a0 ((List.range 9).map fun j => (slcpL j, V' j))) (setsL u1 gr (ix * 6) [.int .i64 tg, .int .i64 ok, .int .i64 op, .int .u8 oc, .int .i64 oL, .int .i64 os])) :
    (Code.region 5 opscpL true).wp Tryz.prog Q a0 w := by
  have inj : ∀ i j, i < 9 → j < 9 → slcpL i = slcpL j → i = j := by
    have h : (List.range 9).all (fun i => (List.range 9).all (fun j => decide (slcpL i = slcpL j → i = j))) = true := by kernel_rfl
    intro i j hi hj he
    have h1 := List.all_eq_true.1 h i (List.mem_range.2 hi)
    have h2 := List.all_eq_true.1 h1 j (List.mem_range.2 hj)
    exact (of_decide_eq_true h2) he
  have hz : ∀ j, j < 9 → slcpL j < a0.tmps.size := by
    have h : (List.range 9).all (fun i => decide (slcpL i ≤ 32)) = true := by kernel_rfl
    intro j hj
    have := of_decide_eq_true (List.all_eq_true.1 h j (List.mem_range.2 hj))
    omega
  skip
  refine wp_region_inv (by kernel_rfl) opscpL_earlier (fun L a u => JQ opscpL slcpL 9 (VcpL hb gb gr b off ix n m c tg ok op oc oL os) a0 w (fun u => setsL u gr (ix * 6) [.int .i64 tg, .int .i64 ok, .int .i64 op, .int .u8 oc, .int .i64 oL, .int .i64 os]) L a u) ?_ ?_ ?_
  · rintro L L' a' u i o h ho hno hall hu
    clear hK
    have q1 := (h.fe.ev (j := 1) (by decide)).trans h1
    have q3 := (h.fe.ev (j := 3) (by decide)).trans h3
    have q4 := (h.fe.ev (j := 4) (by decide)).trans h4
    have E := h.e
    have hi : i < 10 := by
      have := (Array.getElem?_eq_some_iff.1 ho).1
      rwa [opscpL_size] at this
    match i, hi with
    | 0, _ =>
      have hbw := h.n (fun hl => hno (anc_spec h.dc 40 9 0 (by kernel_rfl) hl))
      have hnN : ¬ L 9 := fun hl => hno (anc_spec h.dc 40 9 0 (by kernel_rfl) hl)
      obtain ⟨h1, h2, h3⟩ := flds (d := some 24) (p := Op.fieldAddr 25 (.tmp 3) 1) (g := none) ho (by kernel_rfl)
      have g0 := q3
      refine og_plain ho h3 trivial ?_
      unfold Oper.wp
      simp only [execOp, h2, g0]
      go_simp
      exact h.next (i := 0) ho hall (by decide) hno inj hz hu (by kernel_rfl) (Below.refl _ _)
    | 1, _ =>
      have hbw := h.n (fun hl => hno (anc_spec h.dc 40 9 1 (by kernel_rfl) hl))
      have hnN : ¬ L 9 := fun hl => hno (anc_spec h.dc 40 9 1 (by kernel_rfl) hl)
      obtain ⟨h1, h2, h3⟩ := flds (d := some 25) (p := Op.load 22 (.tmp 24)) (g := none) ho (by kernel_rfl)
      have g0 := (show a'.eval (.tmp 24) = .pointer (some ⟨gb, 1, none⟩) from E 0 (by decide) (dep ho hall 0 (by kernel_rfl)))
      have c0 := (hbw.cell (p := ⟨gb, 1, none⟩) lgb).trans kg
      refine og_plain ho h3 trivial ?_
      unfold Oper.wp
      simp only [execOp, h2, g0]
      go_simp
      exact h.next (i := 1) ho hall (by decide) hno inj hz hu (by kernel_rfl) (Below.refl _ _)
    | 2, _ =>
      have hbw := h.n (fun hl => hno (anc_spec h.dc 40 9 2 (by kernel_rfl) hl))
      have hnN : ¬ L 9 := fun hl => hno (anc_spec h.dc 40 9 2 (by kernel_rfl) hl)
      obtain ⟨h1, h2, h3⟩ := flds (d := some 26) (p := Op.move (.tmp 4)) (g := none) ho (by kernel_rfl)
      have g0 := q4
      refine og_plain ho h3 trivial ?_
      unfold Oper.wp
      simp only [execOp, h2, g0]
      go_simp
      exact h.next (i := 2) ho hall (by decide) hno inj hz hu (by kernel_rfl) (Below.refl _ _)
    | 3, _ =>
      have hbw := h.n (fun hl => hno (anc_spec h.dc 40 9 3 (by kernel_rfl) hl))
      have hnN : ¬ L 9 := fun hl => hno (anc_spec h.dc 40 9 3 (by kernel_rfl) hl)
      obtain ⟨h1, h2, h3⟩ := flds (d := some 27) (p := Op.fieldAddr 25 (.tmp 1) 1) (g := none) ho (by kernel_rfl)
      have g0 := q1
      refine og_plain ho h3 trivial ?_
      unfold Oper.wp
      simp only [execOp, h2, g0]
      go_simp
      exact h.next (i := 3) ho hall (by decide) hno inj hz hu (by kernel_rfl) (Below.refl _ _)
    | 4, _ =>
      have hbw := h.n (fun hl => hno (anc_spec h.dc 40 9 4 (by kernel_rfl) hl))
      have hnN : ¬ L 9 := fun hl => hno (anc_spec h.dc 40 9 4 (by kernel_rfl) hl)
      obtain ⟨h1, h2, h3⟩ := flds (d := some 28) (p := Op.load 22 (.tmp 27)) (g := none) ho (by kernel_rfl)
      have g0 := (show a'.eval (.tmp 27) = .pointer (some ⟨hb, 1, none⟩) from E 3 (by decide) (dep ho hall 3 (by kernel_rfl)))
      have c0 := (hbw.cell (p := ⟨hb, 1, none⟩) lhb).trans kh
      refine og_plain ho h3 trivial ?_
      unfold Oper.wp
      simp only [execOp, h2, g0]
      go_simp
      exact h.next (i := 4) ho hall (by decide) hno inj hz hu (by kernel_rfl) (Below.refl _ _)
    | 5, _ =>
      have hbw := h.n (fun hl => hno (anc_spec h.dc 40 9 5 (by kernel_rfl) hl))
      have hnN : ¬ L 9 := fun hl => hno (anc_spec h.dc 40 9 5 (by kernel_rfl) hl)
      obtain ⟨h1, h2, h3⟩ := flds (d := some 29) (p := Op.move (.tmp 4)) (g := none) ho (by kernel_rfl)
      have g0 := q4
      refine og_plain ho h3 trivial ?_
      unfold Oper.wp
      simp only [execOp, h2, g0]
      go_simp
      exact h.next (i := 5) ho hall (by decide) hno inj hz hu (by kernel_rfl) (Below.refl _ _)
    | 6, _ =>
      have hbw := h.n (fun hl => hno (anc_spec h.dc 40 9 6 (by kernel_rfl) hl))
      have hnN : ¬ L 9 := fun hl => hno (anc_spec h.dc 40 9 6 (by kernel_rfl) hl)
      obtain ⟨h1, h2, h3⟩ := flds (d := some 30) (p := Op.indexAddr 22 (.tmp 28) (.tmp 29)) (g := none) ho (by kernel_rfl)
      have g0 := (show a'.eval (.tmp 28) = .slice (some ⟨b, off, none⟩) n c from E 4 (by decide) (dep ho hall 4 (by kernel_rfl)))
      have g1 := (show a'.eval (.tmp 29) = .int .i64 (ix : Int) from E 5 (by decide) (dep ho hall 5 (by kernel_rfl)))
      refine og_plain ho h3 trivial ?_
      unfold Oper.wp
      simp only [execOp, h2, g0, g1]
      go_simp
      exact h.next (i := 6) ho hall (by decide) hno inj hz hu (by kernel_rfl) (Below.refl _ _)
    | 7, _ =>
      have hbw := h.n (fun hl => hno (anc_spec h.dc 40 9 7 (by kernel_rfl) hl))
      have hnN : ¬ L 9 := fun hl => hno (anc_spec h.dc 40 9 7 (by kernel_rfl) hl)
      obtain ⟨h1, h2, h3⟩ := flds (d := some 31) (p := Op.load 74 (.tmp 30)) (g := none) ho (by kernel_rfl)
      have g0 := (show a'.eval (.tmp 30) = .pointer (some ⟨b, off + ix * 6, none⟩) from E 6 (by decide) (dep ho hall 6 (by kernel_rfl)))
      have c0 := (hbw.cell (p := ⟨b, off + ix * 6, none⟩) lb).trans k0
      have c1 := (hbw.cell (p := ⟨b, off + ix * 6 + 1, none⟩) lb).trans k1
      have c2 := (hbw.cell (p := ⟨b, off + ix * 6 + 2, none⟩) lb).trans k2
      have c3 := (hbw.cell (p := ⟨b, off + ix * 6 + 3, none⟩) lb).trans k3
      have c4 := (hbw.cell (p := ⟨b, off + ix * 6 + 4, none⟩) lb).trans k4
      have c5 := (hbw.cell (p := ⟨b, off + ix * 6 + 5, none⟩) lb).trans k5
      refine og_plain ho h3 trivial ?_
      unfold Oper.wp
      simp only [execOp, h2, g0]
      go_simp
      exact h.next (i := 7) ho hall (by decide) hno inj hz hu (by kernel_rfl) (Below.refl _ _)
    | 8, _ =>
      have hbw := h.n (fun hl => hno (anc_spec h.dc 40 9 8 (by kernel_rfl) hl))
      have hnN : ¬ L 9 := fun hl => hno (anc_spec h.dc 40 9 8 (by kernel_rfl) hl)
      obtain ⟨h1, h2, h3⟩ := flds (d := some 32) (p := Op.indexAddr 22 (.tmp 25) (.tmp 26)) (g := none) ho (by kernel_rfl)
      have g0 := (show a'.eval (.tmp 25) = .slice (some ⟨gr, 0, none⟩) n m from E 1 (by decide) (dep ho hall 1 (by kernel_rfl)))
      have g1 := (show a'.eval (.tmp 26) = .int .i64 (ix : Int) from E 2 (by decide) (dep ho hall 2 (by kernel_rfl)))
      refine og_plain ho h3 trivial ?_
      unfold Oper.wp
      simp only [execOp, h2, g0, g1]
      go_simp
      exact h.next (i := 8) ho hall (by decide) hno inj hz hu (by kernel_rfl) (Below.refl _ _)
    | 9, _ =>
      obtain ⟨h1, h2, h3⟩ := flds (d := none) (p := Op.store 74 (.tmp 32) (.tmp 31)) (g := none) ho (by kernel_rfl)
      have g0 := (show a'.eval (.tmp 32) = .pointer (some ⟨gr, ix * 6, none⟩) from E 8 (by decide) (dep ho hall 8 (by kernel_rfl)))
      have gv := (show a'.eval (.tmp 31) = .agg #[.int .i64 tg, .int .i64 ok, .int .i64 op, .int .u8 oc, .int .i64 oL, .int .i64 os] from E 7 (by decide) (dep ho hall 7 (by kernel_rfl)))
      have hbw := h.n hno
      have z0 := (hbw.cell (p := ⟨gr, ix * 6, none⟩) lgr).trans y0; have z1 := (hbw.cell (p := ⟨gr, ix * 6 + 1, none⟩) lgr).trans y1; have z2 := (hbw.cell (p := ⟨gr, ix * 6 + 2, none⟩) lgr).trans y2; have z3 := (hbw.cell (p := ⟨gr, ix * 6 + 3, none⟩) lgr).trans y3; have z4 := (hbw.cell (p := ⟨gr, ix * 6 + 4, none⟩) lgr).trans y4; have z5 := (hbw.cell (p := ⟨gr, ix * 6 + 5, none⟩) lgr).trans y5
      obtain ⟨f0, f1, f2, f3, f4, f5⟩ := hfz u hbw
      refine og_plain ho h3 trivial ?_
      unfold Oper.wp
      simp only [execOp, h2, g0, gv]
      go_simp
      exact h.store ho hall hno hu
    | i + 10, hi => omega
  · rintro L a' u h hall
    rw [opscpL_size] at hall
    obtain ⟨V', u1, hb', rfl, rfl⟩ := h.done hz (hall 9 (by omega))
    exact hK V' u1 hb'
  · intro L hL
    exact JQ.start ((Below.refl _ _).drew) hL

noncomputable def opscpE : Array Oper := (Tryz.f7.body.bind (opsAt 9)).getD #[]
theorem opscpE_size : opscpE.size = 10 := by kernel_rfl
theorem opscpE_earlier : Earlier opscpE := by
  have h : (List.range 10).all (fun i => ((opscpE[i]?).map (fun o => o.after.all (fun e => !Region.binds .any e || decide (e.on < i)))).getD true) = true := by kernel_rfl
  intro i o ho e he hb
  have hi : i < 10 := by
    have := (Array.getElem?_eq_some_iff.1 ho).1
    rwa [opscpE_size] at this
  have h1 := List.all_eq_true.1 h i (List.mem_range.2 hi)
  rw [ho] at h1
  simp only [Option.map_some, Option.getD_some, Array.all_eq_true'] at h1
  have h2 := h1 e he
  rw [hb] at h2
  simpa using h2
def slcpE (j : Nat) : Nat := ([40, 41, 42, 43, 44, 45, 46, 47, 48] : List Nat).getD j 0
def VcpE (hb gb gr b off ix n m c : Nat) (st si ha ma ok op oc oL os : Int) (ad : Option Addr) (nd cd : Nat) (j : Nat) : Value := [.pointer (some ⟨gb, 2, none⟩), .slice (some ⟨gr, 0, none⟩) n m, .int .i64 (ix : Int), .pointer (some ⟨hb, 2, none⟩), .slice (some ⟨b, off, none⟩) n c, .int .i64 (ix : Int), .pointer (some ⟨b, off + ix * 10, none⟩), .agg #[.int .i64 st, .int .i64 si, .int .i64 ha, .int .i64 ma, .int .i64 ok, .int .i64 op, .int .u8 oc, .int .i64 oL, .int .i64 os, .slice ad nd cd], .pointer (some ⟨gr, ix * 10, none⟩)].getD j (.bool false)

set_option maxRecDepth 100000 in
set_option maxHeartbeats 4000000 in
theorem cpE (a0 : Act) (w : World) {Q : Exit → Act → World → Prop} (hb gb gr b off ix n m c : Nat) (st si ha ma ok op oc oL os : Int) (ad : Option Addr) (nd cd : Nat) (h1 : a0.eval (.tmp 1) = .pointer (some ⟨hb, 0, none⟩)) (h3 : a0.eval (.tmp 3) = .pointer (some ⟨gb, 0, none⟩)) (h5 : a0.eval (.tmp 5) = .int .i64 (ix : Int)) (hzz : 48 < a0.tmps.size)
    (lhb : hb < w.heap.size) (lgb : gb < w.heap.size) (lgr : gr < w.heap.size) (lb : b < w.heap.size) (kg : w.cell? ⟨gb, 2, none⟩ = some (.slice (some ⟨gr, 0, none⟩) n m)) (kh : w.cell? ⟨hb, 2, none⟩ = some (.slice (some ⟨b, off, none⟩) n c)) (k0 : w.cell? ⟨b, off + ix * 10, none⟩ = some (.int .i64 st)) (k1 : w.cell? ⟨b, off + ix * 10 + 1, none⟩ = some (.int .i64 si)) (k2 : w.cell? ⟨b, off + ix * 10 + 2, none⟩ = some (.int .i64 ha)) (k3 : w.cell? ⟨b, off + ix * 10 + 3, none⟩ = some (.int .i64 ma)) (k4 : w.cell? ⟨b, off + ix * 10 + 4, none⟩ = some (.int .i64 ok)) (k5 : w.cell? ⟨b, off + ix * 10 + 5, none⟩ = some (.int .i64 op)) (k6 : w.cell? ⟨b, off + ix * 10 + 6, none⟩ = some (.int .u8 oc)) (k7 : w.cell? ⟨b, off + ix * 10 + 7, none⟩ = some (.int .i64 oL)) (k8 : w.cell? ⟨b, off + ix * 10 + 8, none⟩ = some (.int .i64 os)) (k9 : w.cell? ⟨b, off + ix * 10 + 9, none⟩ = some (.slice ad nd cd)) (o0 o1 o2 o3 o4 o5 o6 o7 o8 o9 : Value) (y0 : w.cell? ⟨gr, ix * 10, none⟩ = some o0) (y1 : w.cell? ⟨gr, ix * 10 + 1, none⟩ = some o1) (y2 : w.cell? ⟨gr, ix * 10 + 2, none⟩ = some o2) (y3 : w.cell? ⟨gr, ix * 10 + 3, none⟩ = some o3) (y4 : w.cell? ⟨gr, ix * 10 + 4, none⟩ = some o4) (y5 : w.cell? ⟨gr, ix * 10 + 5, none⟩ = some o5) (y6 : w.cell? ⟨gr, ix * 10 + 6, none⟩ = some o6) (y7 : w.cell? ⟨gr, ix * 10 + 7, none⟩ = some o7) (y8 : w.cell? ⟨gr, ix * 10 + 8, none⟩ = some o8) (y9 : w.cell? ⟨gr, ix * 10 + 9, none⟩ = some o9) (i1 : (ix : Int) < (n : Int)) (i0 : (0 : Int) ≤ (ix : Int))
    (hfz : ∀ u, Below w.heap.size w u → u.frozen? ⟨gr, ix * 10, none⟩ = false ∧ u.frozen? ⟨gr, ix * 10 + 1, none⟩ = false ∧ u.frozen? ⟨gr, ix * 10 + 2, none⟩ = false ∧ u.frozen? ⟨gr, ix * 10 + 3, none⟩ = false ∧ u.frozen? ⟨gr, ix * 10 + 4, none⟩ = false ∧ u.frozen? ⟨gr, ix * 10 + 5, none⟩ = false ∧ u.frozen? ⟨gr, ix * 10 + 6, none⟩ = false ∧ u.frozen? ⟨gr, ix * 10 + 7, none⟩ = false ∧ u.frozen? ⟨gr, ix * 10 + 8, none⟩ = false ∧ u.frozen? ⟨gr, ix * 10 + 9, none⟩ = false)
    (hK : ∀ (V' : Nat → Value) u1, Below w.heap.size w u1 → Q .normal (puts a0 ((List.range 9).map fun j => (slcpE j, V' j))) (setsL u1 gr (ix * 10) [.int .i64 st, .int .i64 si, .int .i64 ha, .int .i64 ma, .int .i64 ok, .int .i64 op, .int .u8 oc, .int .i64 oL, .int .i64 os, .slice ad nd cd])) :
    (Code.region 9 opscpE true).wp Tryz.prog Q a0 w := by
  have inj : ∀ i j, i < 9 → j < 9 → slcpE i = slcpE j → i = j := by
    have h : (List.range 9).all (fun i => (List.range 9).all (fun j => decide (slcpE i = slcpE j → i = j))) = true := by kernel_rfl
    intro i j hi hj he
    have h1 := List.all_eq_true.1 h i (List.mem_range.2 hi)
    have h2 := List.all_eq_true.1 h1 j (List.mem_range.2 hj)
    exact (of_decide_eq_true h2) he
  have hz : ∀ j, j < 9 → slcpE j < a0.tmps.size := by
    have h : (List.range 9).all (fun i => decide (slcpE i ≤ 48)) = true := by kernel_rfl
    intro j hj
    have := of_decide_eq_true (List.all_eq_true.1 h j (List.mem_range.2 hj))
    omega
  skip
  refine wp_region_inv (by kernel_rfl) opscpE_earlier (fun L a u => JQ opscpE slcpE 9 (VcpE hb gb gr b off ix n m c st si ha ma ok op oc oL os ad nd cd) a0 w (fun u => setsL u gr (ix * 10) [.int .i64 st, .int .i64 si, .int .i64 ha, .int .i64 ma, .int .i64 ok, .int .i64 op, .int .u8 oc, .int .i64 oL, .int .i64 os, .slice ad nd cd]) L a u) ?_ ?_ ?_
  · rintro L L' a' u i o h ho hno hall hu
    clear hK
    have q1 := (h.fe.ev (j := 1) (by decide)).trans h1
    have q3 := (h.fe.ev (j := 3) (by decide)).trans h3
    have q5 := (h.fe.ev (j := 5) (by decide)).trans h5
    have E := h.e
    have hi : i < 10 := by
      have := (Array.getElem?_eq_some_iff.1 ho).1
      rwa [opscpE_size] at this
    match i, hi with
    | 0, _ =>
      have hbw := h.n (fun hl => hno (anc_spec h.dc 40 9 0 (by kernel_rfl) hl))
      have hnN : ¬ L 9 := fun hl => hno (anc_spec h.dc 40 9 0 (by kernel_rfl) hl)
      obtain ⟨h1, h2, h3⟩ := flds (d := some 40) (p := Op.fieldAddr 25 (.tmp 3) 2) (g := none) ho (by kernel_rfl)
      have g0 := q3
      refine og_plain ho h3 trivial ?_
      unfold Oper.wp
      simp only [execOp, h2, g0]
      go_simp
      exact h.next (i := 0) ho hall (by decide) hno inj hz hu (by kernel_rfl) (Below.refl _ _)
    | 1, _ =>
      have hbw := h.n (fun hl => hno (anc_spec h.dc 40 9 1 (by kernel_rfl) hl))
      have hnN : ¬ L 9 := fun hl => hno (anc_spec h.dc 40 9 1 (by kernel_rfl) hl)
      obtain ⟨h1, h2, h3⟩ := flds (d := some 41) (p := Op.load 23 (.tmp 40)) (g := none) ho (by kernel_rfl)
      have g0 := (show a'.eval (.tmp 40) = .pointer (some ⟨gb, 2, none⟩) from E 0 (by decide) (dep ho hall 0 (by kernel_rfl)))
      have c0 := (hbw.cell (p := ⟨gb, 2, none⟩) lgb).trans kg
      refine og_plain ho h3 trivial ?_
      unfold Oper.wp
      simp only [execOp, h2, g0]
      go_simp
      exact h.next (i := 1) ho hall (by decide) hno inj hz hu (by kernel_rfl) (Below.refl _ _)
    | 2, _ =>
      have hbw := h.n (fun hl => hno (anc_spec h.dc 40 9 2 (by kernel_rfl) hl))
      have hnN : ¬ L 9 := fun hl => hno (anc_spec h.dc 40 9 2 (by kernel_rfl) hl)
      obtain ⟨h1, h2, h3⟩ := flds (d := some 42) (p := Op.move (.tmp 5)) (g := none) ho (by kernel_rfl)
      have g0 := q5
      refine og_plain ho h3 trivial ?_
      unfold Oper.wp
      simp only [execOp, h2, g0]
      go_simp
      exact h.next (i := 2) ho hall (by decide) hno inj hz hu (by kernel_rfl) (Below.refl _ _)
    | 3, _ =>
      have hbw := h.n (fun hl => hno (anc_spec h.dc 40 9 3 (by kernel_rfl) hl))
      have hnN : ¬ L 9 := fun hl => hno (anc_spec h.dc 40 9 3 (by kernel_rfl) hl)
      obtain ⟨h1, h2, h3⟩ := flds (d := some 43) (p := Op.fieldAddr 25 (.tmp 1) 2) (g := none) ho (by kernel_rfl)
      have g0 := q1
      refine og_plain ho h3 trivial ?_
      unfold Oper.wp
      simp only [execOp, h2, g0]
      go_simp
      exact h.next (i := 3) ho hall (by decide) hno inj hz hu (by kernel_rfl) (Below.refl _ _)
    | 4, _ =>
      have hbw := h.n (fun hl => hno (anc_spec h.dc 40 9 4 (by kernel_rfl) hl))
      have hnN : ¬ L 9 := fun hl => hno (anc_spec h.dc 40 9 4 (by kernel_rfl) hl)
      obtain ⟨h1, h2, h3⟩ := flds (d := some 44) (p := Op.load 23 (.tmp 43)) (g := none) ho (by kernel_rfl)
      have g0 := (show a'.eval (.tmp 43) = .pointer (some ⟨hb, 2, none⟩) from E 3 (by decide) (dep ho hall 3 (by kernel_rfl)))
      have c0 := (hbw.cell (p := ⟨hb, 2, none⟩) lhb).trans kh
      refine og_plain ho h3 trivial ?_
      unfold Oper.wp
      simp only [execOp, h2, g0]
      go_simp
      exact h.next (i := 4) ho hall (by decide) hno inj hz hu (by kernel_rfl) (Below.refl _ _)
    | 5, _ =>
      have hbw := h.n (fun hl => hno (anc_spec h.dc 40 9 5 (by kernel_rfl) hl))
      have hnN : ¬ L 9 := fun hl => hno (anc_spec h.dc 40 9 5 (by kernel_rfl) hl)
      obtain ⟨h1, h2, h3⟩ := flds (d := some 45) (p := Op.move (.tmp 5)) (g := none) ho (by kernel_rfl)
      have g0 := q5
      refine og_plain ho h3 trivial ?_
      unfold Oper.wp
      simp only [execOp, h2, g0]
      go_simp
      exact h.next (i := 5) ho hall (by decide) hno inj hz hu (by kernel_rfl) (Below.refl _ _)
    | 6, _ =>
      have hbw := h.n (fun hl => hno (anc_spec h.dc 40 9 6 (by kernel_rfl) hl))
      have hnN : ¬ L 9 := fun hl => hno (anc_spec h.dc 40 9 6 (by kernel_rfl) hl)
      obtain ⟨h1, h2, h3⟩ := flds (d := some 46) (p := Op.indexAddr 23 (.tmp 44) (.tmp 45)) (g := none) ho (by kernel_rfl)
      have g0 := (show a'.eval (.tmp 44) = .slice (some ⟨b, off, none⟩) n c from E 4 (by decide) (dep ho hall 4 (by kernel_rfl)))
      have g1 := (show a'.eval (.tmp 45) = .int .i64 (ix : Int) from E 5 (by decide) (dep ho hall 5 (by kernel_rfl)))
      refine og_plain ho h3 trivial ?_
      unfold Oper.wp
      simp only [execOp, h2, g0, g1]
      go_simp
      exact h.next (i := 6) ho hall (by decide) hno inj hz hu (by kernel_rfl) (Below.refl _ _)
    | 7, _ =>
      have hbw := h.n (fun hl => hno (anc_spec h.dc 40 9 7 (by kernel_rfl) hl))
      have hnN : ¬ L 9 := fun hl => hno (anc_spec h.dc 40 9 7 (by kernel_rfl) hl)
      obtain ⟨h1, h2, h3⟩ := flds (d := some 47) (p := Op.load 76 (.tmp 46)) (g := none) ho (by kernel_rfl)
      have g0 := (show a'.eval (.tmp 46) = .pointer (some ⟨b, off + ix * 10, none⟩) from E 6 (by decide) (dep ho hall 6 (by kernel_rfl)))
      have c0 := (hbw.cell (p := ⟨b, off + ix * 10, none⟩) lb).trans k0
      have c1 := (hbw.cell (p := ⟨b, off + ix * 10 + 1, none⟩) lb).trans k1
      have c2 := (hbw.cell (p := ⟨b, off + ix * 10 + 2, none⟩) lb).trans k2
      have c3 := (hbw.cell (p := ⟨b, off + ix * 10 + 3, none⟩) lb).trans k3
      have c4 := (hbw.cell (p := ⟨b, off + ix * 10 + 4, none⟩) lb).trans k4
      have c5 := (hbw.cell (p := ⟨b, off + ix * 10 + 5, none⟩) lb).trans k5
      have c6 := (hbw.cell (p := ⟨b, off + ix * 10 + 6, none⟩) lb).trans k6
      have c7 := (hbw.cell (p := ⟨b, off + ix * 10 + 7, none⟩) lb).trans k7
      have c8 := (hbw.cell (p := ⟨b, off + ix * 10 + 8, none⟩) lb).trans k8
      have c9 := (hbw.cell (p := ⟨b, off + ix * 10 + 9, none⟩) lb).trans k9
      refine og_plain ho h3 trivial ?_
      unfold Oper.wp
      simp only [execOp, h2, g0]
      go_simp
      exact h.next (i := 7) ho hall (by decide) hno inj hz hu (by kernel_rfl) (Below.refl _ _)
    | 8, _ =>
      have hbw := h.n (fun hl => hno (anc_spec h.dc 40 9 8 (by kernel_rfl) hl))
      have hnN : ¬ L 9 := fun hl => hno (anc_spec h.dc 40 9 8 (by kernel_rfl) hl)
      obtain ⟨h1, h2, h3⟩ := flds (d := some 48) (p := Op.indexAddr 23 (.tmp 41) (.tmp 42)) (g := none) ho (by kernel_rfl)
      have g0 := (show a'.eval (.tmp 41) = .slice (some ⟨gr, 0, none⟩) n m from E 1 (by decide) (dep ho hall 1 (by kernel_rfl)))
      have g1 := (show a'.eval (.tmp 42) = .int .i64 (ix : Int) from E 2 (by decide) (dep ho hall 2 (by kernel_rfl)))
      refine og_plain ho h3 trivial ?_
      unfold Oper.wp
      simp only [execOp, h2, g0, g1]
      go_simp
      exact h.next (i := 8) ho hall (by decide) hno inj hz hu (by kernel_rfl) (Below.refl _ _)
    | 9, _ =>
      obtain ⟨h1, h2, h3⟩ := flds (d := none) (p := Op.store 76 (.tmp 48) (.tmp 47)) (g := none) ho (by kernel_rfl)
      have g0 := (show a'.eval (.tmp 48) = .pointer (some ⟨gr, ix * 10, none⟩) from E 8 (by decide) (dep ho hall 8 (by kernel_rfl)))
      have gv := (show a'.eval (.tmp 47) = .agg #[.int .i64 st, .int .i64 si, .int .i64 ha, .int .i64 ma, .int .i64 ok, .int .i64 op, .int .u8 oc, .int .i64 oL, .int .i64 os, .slice ad nd cd] from E 7 (by decide) (dep ho hall 7 (by kernel_rfl)))
      have hbw := h.n hno
      have z0 := (hbw.cell (p := ⟨gr, ix * 10, none⟩) lgr).trans y0; have z1 := (hbw.cell (p := ⟨gr, ix * 10 + 1, none⟩) lgr).trans y1; have z2 := (hbw.cell (p := ⟨gr, ix * 10 + 2, none⟩) lgr).trans y2; have z3 := (hbw.cell (p := ⟨gr, ix * 10 + 3, none⟩) lgr).trans y3; have z4 := (hbw.cell (p := ⟨gr, ix * 10 + 4, none⟩) lgr).trans y4; have z5 := (hbw.cell (p := ⟨gr, ix * 10 + 5, none⟩) lgr).trans y5; have z6 := (hbw.cell (p := ⟨gr, ix * 10 + 6, none⟩) lgr).trans y6; have z7 := (hbw.cell (p := ⟨gr, ix * 10 + 7, none⟩) lgr).trans y7; have z8 := (hbw.cell (p := ⟨gr, ix * 10 + 8, none⟩) lgr).trans y8; have z9 := (hbw.cell (p := ⟨gr, ix * 10 + 9, none⟩) lgr).trans y9
      obtain ⟨f0, f1, f2, f3, f4, f5, f6, f7, f8, f9⟩ := hfz u hbw
      refine og_plain ho h3 trivial ?_
      unfold Oper.wp
      simp only [execOp, h2, g0, gv]
      go_simp
      exact h.store ho hall hno hu
    | i + 10, hi => omega
  · rintro L a' u h hall
    rw [opscpE_size] at hall
    obtain ⟨V', u1, hb', rfl, rfl⟩ := h.done hz (hall 9 (by omega))
    exact hK V' u1 hb'
  · intro L hL
    exact JQ.start ((Below.refl _ _).drew) hL

noncomputable def opscpD : Array Oper := (Tryz.f7.body.bind (opsAt 10)).getD #[]
theorem opscpD_size : opscpD.size = 13 := by kernel_rfl
theorem opscpD_earlier : Earlier opscpD := by
  have h : (List.range 13).all (fun i => ((opscpD[i]?).map (fun o => o.after.all (fun e => !Region.binds .any e || decide (e.on < i)))).getD true) = true := by kernel_rfl
  intro i o ho e he hb
  have hi : i < 13 := by
    have := (Array.getElem?_eq_some_iff.1 ho).1
    rwa [opscpD_size] at this
  have h1 := List.all_eq_true.1 h i (List.mem_range.2 hi)
  rw [ho] at h1
  simp only [Option.map_some, Option.getD_some, Array.all_eq_true'] at h1
  have h2 := h1 e he
  rw [hb] at h2
  simpa using h2
def slcpD (j : Nat) : Nat := ([49, 50, 51, 52, 53, 54, 55, 56, 57, 58, 59, 60] : List Nat).getD j 0
def VcpD (hb gb gr b off ix n m c nd cd : Nat) (ad : Option Addr) (j : Nat) : Value := [.pointer (some ⟨gb, 2, none⟩), .slice (some ⟨gr, 0, none⟩) n m, .int .i64 (ix : Int), .pointer (some ⟨hb, 2, none⟩), .slice (some ⟨b, off, none⟩) n c, .int .i64 (ix : Int), .pointer (some ⟨b, off + ix * 10, none⟩), .pointer (some ⟨b, off + ix * 10 + 9, none⟩), .slice ad nd cd, .bool false, .pointer (some ⟨gr, ix * 10, none⟩), .pointer (some ⟨gr, ix * 10 + 9, none⟩)].getD j (.bool false)

set_option maxRecDepth 100000 in
set_option maxHeartbeats 4000000 in
theorem cpD (a0 : Act) (w : World) {Q : Exit → Act → World → Prop} (hb gb gr b off ix n m c nd cd : Nat) (ad : Option Addr) (h1 : a0.eval (.tmp 1) = .pointer (some ⟨hb, 0, none⟩)) (h3 : a0.eval (.tmp 3) = .pointer (some ⟨gb, 0, none⟩)) (h5 : a0.eval (.tmp 5) = .int .i64 (ix : Int)) (hzz : 60 < a0.tmps.size)
    (lhb : hb < w.heap.size) (lgb : gb < w.heap.size) (lgr : gr < w.heap.size) (lb : b < w.heap.size) (kg : w.cell? ⟨gb, 2, none⟩ = some (.slice (some ⟨gr, 0, none⟩) n m)) (kh : w.cell? ⟨hb, 2, none⟩ = some (.slice (some ⟨b, off, none⟩) n c)) (k9 : w.cell? ⟨b, off + ix * 10 + 9, none⟩ = some (.slice ad nd cd)) (o9 : Value) (y9 : w.cell? ⟨gr, ix * 10 + 9, none⟩ = some o9) (i1 : (ix : Int) < (n : Int)) (i0 : (0 : Int) ≤ (ix : Int))
    (hfz : ∀ u, Below w.heap.size w u → u.frozen? ⟨gr, ix * 10 + 9, none⟩ = false) (R : Value → World → Prop) (hRf : ∀ v u, R v u → ∃ A n c, v = .slice A n c) (hRb : ∀ v u u', R v u → Below u.heap.size u u' → R v u')
    (CD : ∀ U, Below w.heap.size w U → Calls Tryz.prog 19 #[.slice ad nd cd] U fun e w' => ∃ v, e = .returned v ∧ R v w' ∧ Below U.heap.size U w')
    (hK : ∀ (V' : Nat → Value) v u1, Below w.heap.size w u1 → R v u1 → Q .normal (puts a0 ((List.range 12).map fun j => (slcpD j, V' j))) (u1.setCell ⟨gr, ix * 10 + 9, none⟩ v)) :
    (Code.region 10 opscpD true).wp Tryz.prog Q a0 w := by
  have inj : ∀ i j, i < 12 → j < 12 → slcpD i = slcpD j → i = j := by
    have h : (List.range 12).all (fun i => (List.range 12).all (fun j => decide (slcpD i = slcpD j → i = j))) = true := by kernel_rfl
    intro i j hi hj he
    have h1 := List.all_eq_true.1 h i (List.mem_range.2 hi)
    have h2 := List.all_eq_true.1 h1 j (List.mem_range.2 hj)
    exact (of_decide_eq_true h2) he
  have hz : ∀ j, j < 12 → slcpD j < a0.tmps.size := by
    have h : (List.range 12).all (fun i => decide (slcpD i ≤ 60)) = true := by kernel_rfl
    intro j hj
    have := of_decide_eq_true (List.all_eq_true.1 h j (List.mem_range.2 hj))
    omega
  have hSt : ∀ (j : Nat) v u u1, R v u → Below u.heap.size u u1 → R v u1 := fun _ v u u1 h hb => hRb v u u1 h hb
  refine wp_region_inv (by kernel_rfl) opscpD_earlier (fun L a u => JN opscpD slcpD 12 (fun j => j == 9) (VcpD hb gb gr b off ix n m c nd cd ad) (fun _ v u => R v u) 9 (fun v u => ∃ u1, Below w.heap.size w u1 ∧ R v u1 ∧ u = u1.setCell ⟨gr, ix * 10 + 9, none⟩ v) a0 w L a u) ?_ ?_ ?_
  · rintro L L' a' u i o h ho hno hall hu
    clear hK
    have q1 := (h.fe.ev (j := 1) (by decide)).trans h1
    have q3 := (h.fe.ev (j := 3) (by decide)).trans h3
    have q5 := (h.fe.ev (j := 5) (by decide)).trans h5
    have E := h.e
    have hi : i < 13 := by
      have := (Array.getElem?_eq_some_iff.1 ho).1
      rwa [opscpD_size] at this
    match i, hi with
    | 0, _ =>
      have hbw := h.n (fun hl => hno (anc_spec h.dc 40 12 0 (by kernel_rfl) hl))
      have hnN : ¬ L 12 := fun hl => hno (anc_spec h.dc 40 12 0 (by kernel_rfl) hl)
      obtain ⟨h1, h2, h3⟩ := flds (d := some 49) (p := Op.fieldAddr 25 (.tmp 3) 2) (g := none) ho (by kernel_rfl)
      have g0 := q3
      refine og_plain ho h3 trivial ?_
      unfold Oper.wp
      simp only [execOp, h2, g0]
      go_simp
      exact h.next (i := 0) ho hall (by decide) hno inj hz hu (by kernel_rfl) (fun j v u1 hr hB => hSt j v u u1 hr hB) (Below.refl _ _) (.inl ⟨by rfl, rfl⟩)
    | 1, _ =>
      have hbw := h.n (fun hl => hno (anc_spec h.dc 40 12 1 (by kernel_rfl) hl))
      have hnN : ¬ L 12 := fun hl => hno (anc_spec h.dc 40 12 1 (by kernel_rfl) hl)
      obtain ⟨h1, h2, h3⟩ := flds (d := some 50) (p := Op.load 23 (.tmp 49)) (g := none) ho (by kernel_rfl)
      have g0 := (show a'.eval (.tmp 49) = .pointer (some ⟨gb, 2, none⟩) from E 0 (by decide) (by rfl) (dep ho hall 0 (by kernel_rfl)))
      have c0 := (hbw.cell (p := ⟨gb, 2, none⟩) lgb).trans kg
      refine og_plain ho h3 trivial ?_
      unfold Oper.wp
      simp only [execOp, h2, g0]
      go_simp
      exact h.next (i := 1) ho hall (by decide) hno inj hz hu (by kernel_rfl) (fun j v u1 hr hB => hSt j v u u1 hr hB) (Below.refl _ _) (.inl ⟨by rfl, rfl⟩)
    | 2, _ =>
      have hbw := h.n (fun hl => hno (anc_spec h.dc 40 12 2 (by kernel_rfl) hl))
      have hnN : ¬ L 12 := fun hl => hno (anc_spec h.dc 40 12 2 (by kernel_rfl) hl)
      obtain ⟨h1, h2, h3⟩ := flds (d := some 51) (p := Op.move (.tmp 5)) (g := none) ho (by kernel_rfl)
      have g0 := q5
      refine og_plain ho h3 trivial ?_
      unfold Oper.wp
      simp only [execOp, h2, g0]
      go_simp
      exact h.next (i := 2) ho hall (by decide) hno inj hz hu (by kernel_rfl) (fun j v u1 hr hB => hSt j v u u1 hr hB) (Below.refl _ _) (.inl ⟨by rfl, rfl⟩)
    | 3, _ =>
      have hbw := h.n (fun hl => hno (anc_spec h.dc 40 12 3 (by kernel_rfl) hl))
      have hnN : ¬ L 12 := fun hl => hno (anc_spec h.dc 40 12 3 (by kernel_rfl) hl)
      obtain ⟨h1, h2, h3⟩ := flds (d := some 52) (p := Op.fieldAddr 25 (.tmp 1) 2) (g := none) ho (by kernel_rfl)
      have g0 := q1
      refine og_plain ho h3 trivial ?_
      unfold Oper.wp
      simp only [execOp, h2, g0]
      go_simp
      exact h.next (i := 3) ho hall (by decide) hno inj hz hu (by kernel_rfl) (fun j v u1 hr hB => hSt j v u u1 hr hB) (Below.refl _ _) (.inl ⟨by rfl, rfl⟩)
    | 4, _ =>
      have hbw := h.n (fun hl => hno (anc_spec h.dc 40 12 4 (by kernel_rfl) hl))
      have hnN : ¬ L 12 := fun hl => hno (anc_spec h.dc 40 12 4 (by kernel_rfl) hl)
      obtain ⟨h1, h2, h3⟩ := flds (d := some 53) (p := Op.load 23 (.tmp 52)) (g := none) ho (by kernel_rfl)
      have g0 := (show a'.eval (.tmp 52) = .pointer (some ⟨hb, 2, none⟩) from E 3 (by decide) (by rfl) (dep ho hall 3 (by kernel_rfl)))
      have c0 := (hbw.cell (p := ⟨hb, 2, none⟩) lhb).trans kh
      refine og_plain ho h3 trivial ?_
      unfold Oper.wp
      simp only [execOp, h2, g0]
      go_simp
      exact h.next (i := 4) ho hall (by decide) hno inj hz hu (by kernel_rfl) (fun j v u1 hr hB => hSt j v u u1 hr hB) (Below.refl _ _) (.inl ⟨by rfl, rfl⟩)
    | 5, _ =>
      have hbw := h.n (fun hl => hno (anc_spec h.dc 40 12 5 (by kernel_rfl) hl))
      have hnN : ¬ L 12 := fun hl => hno (anc_spec h.dc 40 12 5 (by kernel_rfl) hl)
      obtain ⟨h1, h2, h3⟩ := flds (d := some 54) (p := Op.move (.tmp 5)) (g := none) ho (by kernel_rfl)
      have g0 := q5
      refine og_plain ho h3 trivial ?_
      unfold Oper.wp
      simp only [execOp, h2, g0]
      go_simp
      exact h.next (i := 5) ho hall (by decide) hno inj hz hu (by kernel_rfl) (fun j v u1 hr hB => hSt j v u u1 hr hB) (Below.refl _ _) (.inl ⟨by rfl, rfl⟩)
    | 6, _ =>
      have hbw := h.n (fun hl => hno (anc_spec h.dc 40 12 6 (by kernel_rfl) hl))
      have hnN : ¬ L 12 := fun hl => hno (anc_spec h.dc 40 12 6 (by kernel_rfl) hl)
      obtain ⟨h1, h2, h3⟩ := flds (d := some 55) (p := Op.indexAddr 23 (.tmp 53) (.tmp 54)) (g := none) ho (by kernel_rfl)
      have g0 := (show a'.eval (.tmp 53) = .slice (some ⟨b, off, none⟩) n c from E 4 (by decide) (by rfl) (dep ho hall 4 (by kernel_rfl)))
      have g1 := (show a'.eval (.tmp 54) = .int .i64 (ix : Int) from E 5 (by decide) (by rfl) (dep ho hall 5 (by kernel_rfl)))
      refine og_plain ho h3 trivial ?_
      unfold Oper.wp
      simp only [execOp, h2, g0, g1]
      go_simp
      exact h.next (i := 6) ho hall (by decide) hno inj hz hu (by kernel_rfl) (fun j v u1 hr hB => hSt j v u u1 hr hB) (Below.refl _ _) (.inl ⟨by rfl, rfl⟩)
    | 7, _ =>
      have hbw := h.n (fun hl => hno (anc_spec h.dc 40 12 7 (by kernel_rfl) hl))
      have hnN : ¬ L 12 := fun hl => hno (anc_spec h.dc 40 12 7 (by kernel_rfl) hl)
      obtain ⟨h1, h2, h3⟩ := flds (d := some 56) (p := Op.fieldAddr 76 (.tmp 55) 5) (g := none) ho (by kernel_rfl)
      have g0 := (show a'.eval (.tmp 55) = .pointer (some ⟨b, off + ix * 10, none⟩) from E 6 (by decide) (by rfl) (dep ho hall 6 (by kernel_rfl)))
      refine og_plain ho h3 trivial ?_
      unfold Oper.wp
      simp only [execOp, h2, g0]
      go_simp
      exact h.next (i := 7) ho hall (by decide) hno inj hz hu (by kernel_rfl) (fun j v u1 hr hB => hSt j v u u1 hr hB) (Below.refl _ _) (.inl ⟨by rfl, rfl⟩)
    | 8, _ =>
      have hbw := h.n (fun hl => hno (anc_spec h.dc 40 12 8 (by kernel_rfl) hl))
      have hnN : ¬ L 12 := fun hl => hno (anc_spec h.dc 40 12 8 (by kernel_rfl) hl)
      obtain ⟨h1, h2, h3⟩ := flds (d := some 57) (p := Op.load 70 (.tmp 56)) (g := none) ho (by kernel_rfl)
      have g0 := (show a'.eval (.tmp 56) = .pointer (some ⟨b, off + ix * 10 + 9, none⟩) from E 7 (by decide) (by rfl) (dep ho hall 7 (by kernel_rfl)))
      have c0 := (hbw.cell (p := ⟨b, off + ix * 10 + 9, none⟩) lb).trans k9
      refine og_plain ho h3 trivial ?_
      unfold Oper.wp
      simp only [execOp, h2, g0]
      go_simp
      exact h.next (i := 8) ho hall (by decide) hno inj hz hu (by kernel_rfl) (fun j v u1 hr hB => hSt j v u u1 hr hB) (Below.refl _ _) (.inl ⟨by rfl, rfl⟩)
    | 9, _ =>
      have hbw := h.n (fun hl => hno (anc_spec h.dc 40 12 9 (by kernel_rfl) hl))
      have hnN : ¬ L 12 := fun hl => hno (anc_spec h.dc 40 12 9 (by kernel_rfl) hl)
      refine op_call ho 19 (.tmp 57) 70 (d := some 58) (by kernel_rfl) Tryz.func19 rfl (by kernel_rfl) (by rw [(show a'.eval (.tmp 57) = .slice ad nd cd from E 8 (by decide) (by rfl) (dep ho hall 8 (by kernel_rfl)))]; exact CD u hbw) ?_
      rintro e w' ⟨v, rfl, hR, bb⟩
      exact ⟨_, rfl, h.next (i := 9) ho hall (by decide) hno inj hz hu (by kernel_rfl) (fun j v u1 hr hB => hSt j v u u1 hr hB) bb (.inr ⟨by rfl, hR⟩)⟩
    | 10, _ =>
      have hbw := h.n (fun hl => hno (anc_spec h.dc 40 12 10 (by kernel_rfl) hl))
      have hnN : ¬ L 12 := fun hl => hno (anc_spec h.dc 40 12 10 (by kernel_rfl) hl)
      obtain ⟨h1, h2, h3⟩ := flds (d := some 59) (p := Op.indexAddr 23 (.tmp 50) (.tmp 51)) (g := none) ho (by kernel_rfl)
      have g0 := (show a'.eval (.tmp 50) = .slice (some ⟨gr, 0, none⟩) n m from E 1 (by decide) (by rfl) (dep ho hall 1 (by kernel_rfl)))
      have g1 := (show a'.eval (.tmp 51) = .int .i64 (ix : Int) from E 2 (by decide) (by rfl) (dep ho hall 2 (by kernel_rfl)))
      refine og_plain ho h3 trivial ?_
      unfold Oper.wp
      simp only [execOp, h2, g0, g1]
      go_simp
      exact h.next (i := 10) ho hall (by decide) hno inj hz hu (by kernel_rfl) (fun j v u1 hr hB => hSt j v u u1 hr hB) (Below.refl _ _) (.inl ⟨by rfl, rfl⟩)
    | 11, _ =>
      have hbw := h.n (fun hl => hno (anc_spec h.dc 40 12 11 (by kernel_rfl) hl))
      have hnN : ¬ L 12 := fun hl => hno (anc_spec h.dc 40 12 11 (by kernel_rfl) hl)
      obtain ⟨h1, h2, h3⟩ := flds (d := some 60) (p := Op.fieldAddr 76 (.tmp 59) 5) (g := none) ho (by kernel_rfl)
      have g0 := (show a'.eval (.tmp 59) = .pointer (some ⟨gr, ix * 10, none⟩) from E 10 (by decide) (by rfl) (dep ho hall 10 (by kernel_rfl)))
      refine og_plain ho h3 trivial ?_
      unfold Oper.wp
      simp only [execOp, h2, g0]
      go_simp
      exact h.next (i := 11) ho hall (by decide) hno inj hz hu (by kernel_rfl) (fun j v u1 hr hB => hSt j v u u1 hr hB) (Below.refl _ _) (.inl ⟨by rfl, rfl⟩)
    | 12, _ =>
      obtain ⟨h1, h2, h3⟩ := flds (d := none) (p := Op.store 70 (.tmp 60) (.tmp 58)) (g := none) ho (by kernel_rfl)
      have g0 := (show a'.eval (.tmp 60) = .pointer (some ⟨gr, ix * 10 + 9, none⟩) from E 11 (by decide) (by rfl) (dep ho hall 11 (by kernel_rfl)))
      have lc : L 9 := dep ho hall 9 (by kernel_rfl)
      have hr := h.r 9 (by decide) (by rfl) lc hno
      obtain ⟨A1, n1, c1, hv⟩ := hRf _ _ hr
      have gv : a'.eval (.tmp 58) = .slice A1 n1 c1 := hv
      have hbw := h.n hno
      have z9 := (hbw.cell (p := ⟨gr, ix * 10 + 9, none⟩) lgr).trans y9
      have f9 := hfz u hbw
      refine og_plain ho h3 trivial ?_
      unfold Oper.wp
      simp only [execOp, h2, g0, gv]
      go_simp
      refine h.store ho hall hno hu ⟨u, hbw, hr, ?_⟩
      rw [show a'.eval (.tmp (slcpD 9)) = .slice A1 n1 c1 from hv]
    | i + 13, hi => omega
  · rintro L a' u h hall
    rw [opscpD_size] at hall
    obtain ⟨V', ⟨u1, hb1, hr1, e1⟩, rfl⟩ := h.done hz (hall 12 (by omega))
    rw [e1]
    exact hK V' _ u1 hb1 hr1
  · intro L hL
    exact JN.start ((Below.refl _ _).drew) hL

end Go.Proofs.YtfhghijefjhehaaGreatDoor

/-! Is -/
namespace Go.Proofs.YtfhghijefjhehaaGreatDoor
open Go.RowKit Go.Lib
set_option linter.unusedVariables false

/-- An event whose text lies at the block t. -/
def evt (x : Ev × Nat) : List Value := [.int .i64 x.1.step, .int .i64 x.1.site, .int .i64 x.1.hav, .int .i64 x.1.made, .int .i64 x.1.o.kind, .int .i64 x.1.o.pos, .int .u8 x.1.o.ch, .int .i64 x.1.o.cl, .int .i64 x.1.o.sq, .slice (some ⟨x.2, 0, none⟩) x.1.len x.1.len]
/-- A row of n elements at block g that opens with xs. -/
def RowX {α : Type} (f : α → List Value) (k : Nat) (e : TypeId) (w : World) (g n : Nat) (xs : List α) : Prop :=
  ∃ cur : List Value, w.heap[g]? = some (.cells cur.toArray e (0, 0)) ∧ cur.length = n * k ∧ ∀ q (hq : q < xs.length), ∀ j, j < k → cur[q * k + j]? = (f xs[q])[j]?
section
variable {α : Type} {f : α → List Value} {k : Nat} {e : TypeId} {w u : World} {g n : Nat} {xs : List α}
theorem RowX.lt (h : RowX f k e w g n xs) : g < w.heap.size := by obtain ⟨cur, h1, -⟩ := h; exact block_lt h1
theorem RowX.fr {S : Nat → Prop} (h : RowX f k e w g n xs) (hF : Fr S w u) (hS : ¬ S g) : RowX f k e u g n xs := by
  obtain ⟨cur, h1, h2⟩ := h
  exact ⟨cur, hF.keeps h1 hS, h2⟩
theorem RowX.below (h : RowX f k e w g n xs) (hb : Below w.heap.size w u) : RowX f k e u g n xs := h.fr (S := fun _ => False) (Fr.of_below hb) (fun h => h)
theorem RowX.get (h : RowX f k e w g n xs) (q j : Nat) (hq : q < xs.length) (hj : j < k) : w.cell? ⟨g, q * k + j, none⟩ = (f xs[q])[j]? := by
  obtain ⟨cur, h1, h2, h3⟩ := h
  rw [cell_row h1, ← h3 q hq j hj]
  simp
theorem RowX.old (h : RowX f k e w g n xs) {i : Nat} (hi : i < n) (j : Nat) (hj : j < k) : (∃ v, w.cell? ⟨g, i * k + j, none⟩ = some v) ∧ w.frozen? ⟨g, i * k + j, none⟩ = false := by
  obtain ⟨cur, h1, h2, -⟩ := h
  have : (i + 1) * k ≤ n * k := Nat.mul_le_mul_right _ (by omega)
  rw [Nat.add_mul] at this
  exact ⟨⟨cur[i * k + j]'(by omega), by rw [cell_row h1]; simp⟩, frozen_row h1 _⟩
/-- Cells behind xs. -/
theorem RowX.sets (h : RowX f k e w g n xs) (o : Nat) (vs : List Value) (ho : xs.length * k ≤ o) (hv : o + vs.length ≤ n * k) : RowX f k e (setsL w g o vs) g n xs ∧ Fr (fun k => k = g) w (setsL w g o vs) := by
  obtain ⟨cur, h1, h2, h3⟩ := h
  obtain ⟨⟨cur', a1, a2, a3, a4⟩, a5⟩ := setsL_row vs w o cur h1 (by omega)
  refine ⟨⟨cur', a1, by rw [a2]; exact h2, fun q hq j hj => ?_⟩, a5⟩
  have hq1 : (q + 1) * k ≤ xs.length * k := Nat.mul_le_mul_right _ (by omega)
  rw [Nat.add_mul, Nat.one_mul] at hq1
  rw [a4 _ (.inl (by omega))]
  exact h3 q hq j hj
/-- One element more. -/
theorem RowX.push (hz : Sz f k) (h : RowX f k e w g n xs) (hi : xs.length < n) (y : α) : RowX f k e (setsL w g (xs.length * k) (f y)) g n (xs ++ [y]) ∧ Fr (fun k => k = g) w (setsL w g (xs.length * k) (f y)) := by
  obtain ⟨cur, h1, h2, h3⟩ := h
  have hlen : (xs.length + 1) * k ≤ n * k := Nat.mul_le_mul_right _ (by omega)
  rw [Nat.add_mul, Nat.one_mul] at hlen
  have hfl := (hz y).1
  obtain ⟨⟨cur', a1, a2, a3, a4⟩, a5⟩ := setsL_row (f y) w (xs.length * k) cur h1 (by rw [hfl]; omega)
  refine ⟨⟨cur', a1, by rw [a2]; exact h2, fun q hq j hj => ?_⟩, a5⟩
  rw [List.length_append, List.length_singleton] at hq
  by_cases e : q = xs.length
  · subst e
    rw [List.getElem_append_right (Nat.le_refl _)]
    simp only [Nat.sub_self, List.getElem_singleton]
    exact a3 j (by rw [hfl]; exact hj)
  · have hq1 : (q + 1) * k ≤ xs.length * k := Nat.mul_le_mul_right _ (by omega)
    rw [Nat.add_mul, Nat.one_mul] at hq1
    rw [a4 _ (.inl (by omega)), List.getElem_append_left (by omega)]
    exact h3 q (by omega) j hj
end
/-- The last element's last cell is stored anew. -/
theorem RowX.last {w u : World} {g n : Nat} {xs : List (Ev × Nat)} {y : Ev} {d : Value} {t : Nat} (h : RowX evt 10 76 w g n xs) (hi : xs.length < n)
    (hF : Fr (fun k => k ≠ g) (setsL w g (xs.length * 10) [.int .i64 y.step, .int .i64 y.site, .int .i64 y.hav, .int .i64 y.made, .int .i64 y.o.kind, .int .i64 y.o.pos, .int .u8 y.o.ch, .int .i64 y.o.cl, .int .i64 y.o.sq, d]) u) :
    RowX evt 10 76 (u.setCell ⟨g, xs.length * 10 + 9, none⟩ (.slice (some ⟨t, 0, none⟩) y.len y.len)) g n (xs ++ [(y, t)]) := by
  obtain ⟨cur, h1, h2, h3⟩ := h
  have hlen : (xs.length + 1) * 10 ≤ n * 10 := Nat.mul_le_mul_right _ (by omega)
  obtain ⟨⟨cur', a1, a2, a3, a4⟩, a5⟩ := setsL_row [.int .i64 y.step, .int .i64 y.site, .int .i64 y.hav, .int .i64 y.made, .int .i64 y.o.kind, .int .i64 y.o.pos, .int .u8 y.o.ch, .int .i64 y.o.cl, .int .i64 y.o.sq, d] w (xs.length * 10) cur h1 (by simp; omega)
  have b1 := hF.keeps a1 (fun h => h rfl)
  refine ⟨(cur'.set (xs.length * 10 + 9) (.slice (some ⟨t, 0, none⟩) y.len y.len)), ?_, by rw [List.length_set, a2]; exact h2, fun q hq j hj => ?_⟩
  · rw [set_row b1]
    simp
  · rw [List.length_append, List.length_singleton] at hq
    by_cases e : q = xs.length
    · subst e
      rw [List.getElem_append_right (Nat.le_refl _)]
      simp only [Nat.sub_self, List.getElem_singleton]
      by_cases e9 : j = 9
      · subst e9
        rw [List.getElem?_set_self (by rw [a2, h2]; omega)]
        rfl
      · rw [List.getElem?_set_ne (by omega)]
        have := a3 j (by simp; omega)
        rw [this]
        have : j = 0 ∨ j = 1 ∨ j = 2 ∨ j = 3 ∨ j = 4 ∨ j = 5 ∨ j = 6 ∨ j = 7 ∨ j = 8 := by omega
        rcases this with rfl | rfl | rfl | rfl | rfl | rfl | rfl | rfl | rfl <;> rfl
    · rw [List.getElem?_set_ne (by omega), a4 _ (.inl (by omega)), List.getElem_append_left (by omega)]
      exact h3 q (by omega) j hj

/-- The texts of the first events, at blocks of their own. -/
def TxI (w : World) (B g2 : Nat) (D : Nat → List El) (tx : List Nat) : Prop := ∀ q (hq : q < tx.length), B ≤ tx[q] ∧ tx[q] < w.heap.size ∧ tx[q] ≠ g2 ∧ ∀ m (hm : m < (D q).length), w.cell? ⟨tx[q], m * 3, none⟩ = some (.int .u8 (D q)[m].1) ∧ w.cell? ⟨tx[q], m * 3 + 1, none⟩ = some (.int .i64 (D q)[m].2.1) ∧ w.cell? ⟨tx[q], m * 3 + 2, none⟩ = some (.int .i64 (D q)[m].2.2)
theorem TxI.fr {w u : World} {B g2 : Nat} {D : Nat → List El} {tx : List Nat} {S : Nat → Prop} (h : TxI w B g2 D tx) (hF : Fr S w u) (hS : ∀ q (hq : q < tx.length), ¬ S tx[q]) : TxI u B g2 D tx := fun q hq => by
  obtain ⟨h1, h2, h3, h4⟩ := h q hq
  refine ⟨h1, Nat.lt_of_lt_of_le h2 hF.size, h3, fun m hm => ?_⟩
  have k : ∀ i, u.cell? ⟨tx[q], i, none⟩ = w.cell? ⟨tx[q], i, none⟩ := fun i => hF.cell (p := ⟨tx[q], i, none⟩) h2 (hS q hq)
  simp only [k]
  exact h4 m hm

end Go.Proofs.YtfhghijefjhehaaGreatDoor
