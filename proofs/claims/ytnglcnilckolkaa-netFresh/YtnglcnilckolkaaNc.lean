/-
  The operations at the walk; bytes.Clone, net.twin.
-/
import Derived.Test.YtnglcnilckolkaaNb
namespace Go.Proofs.Ytnglcnilckolkaa
open Go.RowKit Go.Maps
set_option linter.unusedVariables false

section
variable {P : Program}
theorem step_append_k {ops : Array Oper} {o : Oper} {a : Act} {w : World} {K : Act → World → Prop} {Q : Exit → Act → World → Prop} {E : Prop}
    (hg : o.guard = none) (d x : Operand) (dT sT : TypeId) (hop : o.op = Op.call { callee := Callee.builtin Builtin.append, args := #[d, x], argTypes := #[dT, sT] })
    (v u : Value) (hd' : a.eval d = v) (hx : a.eval x = u) {v' : Value} {w' : World} (hr : (Builtin.append_ #[dT, sT] o.type #[v, u]).run P w = .ok v' w') (hK : K (a.put o.dst v') w') :
    if Region.wanted o (yielded ops a.tmps) = true then Oper.wp P o a w K Q else E := by
  have hw : Region.wanted o (yielded ops a.tmps) = true := by simp [Region.wanted, hg]
  rw [if_pos hw]
  unfold Oper.wp
  simp [execOp, hop, resolve, invoke, builtin, hd', hx, hr, Result.andThen]
  exact hK

theorem wpList_append_k (w : World) {ops : Array Oper} {rest : List Oper} {o : Oper} {a : Act} {Q : Exit → Act → World → Prop} (hgd : o.guard = none) (d s : Operand) (t t' : TypeId)
    (ho : o.op = .call { callee := .builtin .append, args := #[d, s], argTypes := #[t, t'] }) (v u : Value) (hd' : a.eval d = v) (hs : a.eval s = u) {v' : Value} {w' : World}
    (hr : (Builtin.append_ #[t, t'] o.type #[v, u]).run P w = .ok v' w') (h : wpList P ops Q rest (a.put o.dst v') w') : wpList P ops Q (o :: rest) a w := by
  refine wpList_plain hgd fun K hK => ?_
  unfold Oper.wp
  simp [execOp, ho, resolve, invoke, builtin, hd', hs, hr, Result.andThen]
  exact hK _ _ h

theorem wpList_clear_k (w : World) {ops : Array Oper} {rest : List Oper} {o : Oper} {a : Act} {Q : Exit → Act → World → Prop} (hgd : o.guard = none) (d : Operand) (t : TypeId)
    (ho : o.op = .call { callee := .builtin .clear, args := #[d], argTypes := #[t] }) (v : Value) (hd' : a.eval d = v) {v' : Value} {w' : World}
    (hr : (Builtin.clear_ #[t] o.type #[v]).run P w = .ok v' w') (h : wpList P ops Q rest (a.put o.dst v') w') : wpList P ops Q (o :: rest) a w := by
  refine wpList_plain hgd fun K hK => ?_
  unfold Oper.wp
  simp [execOp, ho, resolve, invoke, builtin, hd', hr, Result.andThen]
  exact hK _ _ h

theorem step_delete_k {ops : Array Oper} {o : Oper} {a : Act} {w : World} {K : Act → World → Prop} {Q : Exit → Act → World → Prop} {E : Prop}
    (hg : o.guard = none) (d x : Operand) (dT sT : TypeId) (hop : o.op = Op.call { callee := Callee.builtin Builtin.delete, args := #[d, x], argTypes := #[dT, sT] })
    (v u : Value) (hd' : a.eval d = v) (hx : a.eval x = u) {v' : Value} {w' : World} (hr : (Builtin.delete_ #[dT, sT] o.type #[v, u]).run P w = .ok v' w') (hK : K (a.put o.dst v') w') :
    if Region.wanted o (yielded ops a.tmps) = true then Oper.wp P o a w K Q else E := by
  have hw : Region.wanted o (yielded ops a.tmps) = true := by simp [Region.wanted, hg]
  rw [if_pos hw]
  unfold Oper.wp
  simp [execOp, hop, resolve, invoke, builtin, hd', hx, hr, Result.andThen]
  exact hK

theorem step_update_k {ops : Array Oper} {o : Oper} {a : Act} {w : World} {K : Act → World → Prop} {Q : Exit → Act → World → Prop} {E : Prop}
    (hg : o.guard = none) (m x y : Operand) (t : TypeId) (hop : o.op = Op.mapUpdate t m x y)
    (vm vx vy : Value) (hm : a.eval m = vm) (hx : a.eval x = vx) (hy : a.eval y = vy) {w' : World} (hr : (Instr.mapUpdate t vm vx vy).run P w = .ok () w') (hK : K (a.put o.dst undef) w') :
    if Region.wanted o (yielded ops a.tmps) = true then Oper.wp P o a w K Q else E := by
  have hw : Region.wanted o (yielded ops a.tmps) = true := by simp [Region.wanted, hg]
  rw [if_pos hw]
  unfold Oper.wp
  simp [execOp, hop, hm, hx, hy, hr, Result.andThen]
  exact hK

theorem step_lookup_k {ops : Array Oper} {o : Oper} {a : Act} {w : World} {K : Act → World → Prop} {Q : Exit → Act → World → Prop} {E : Prop}
    (hg : o.guard = none) (m x : Operand) (t : TypeId) (hop : o.op = Op.lookup t m x false)
    (vm vx : Value) (hm : a.eval m = vm) (hx : a.eval x = vx) {v' : Value} (hr : (Instr.lookup t vm vx false).run P w = .ok v' w) (hK : K (a.put o.dst v') w) :
    if Region.wanted o (yielded ops a.tmps) = true then Oper.wp P o a w K Q else E := by
  have hw : Region.wanted o (yielded ops a.tmps) = true := by simp [Region.wanted, hg]
  rw [if_pos hw]
  unfold Oper.wp
  simp [execOp, hop, hm, hx, hr, Result.andThen]
  exact hK

theorem wpList_lookup_k (w : World) {ops : Array Oper} {rest : List Oper} {o : Oper} {a : Act} {Q : Exit → Act → World → Prop} (hgd : o.guard = none) (m x : Operand) (t : TypeId)
    (ho : o.op = Op.lookup t m x false) (vm vx : Value) (hm : a.eval m = vm) (hx : a.eval x = vx) {v' : Value}
    (hr : (Instr.lookup t vm vx false).run P w = .ok v' w) (h : wpList P ops Q rest (a.put o.dst v') w) : wpList P ops Q (o :: rest) a w := by
  refine wpList_plain hgd fun K hK => ?_
  unfold Oper.wp
  simp [execOp, ho, hm, hx, hr, Result.andThen]
  exact hK _ _ h
end

/-- Bytes: nil, or a row. -/
def SB (w : World) (γ : Option Nat) (v : Value) (xs : List Int) : Prop := SRow w 5 γ v (ints xs)

theorem SB.isB {w : World} {γ : Option Nat} {v : Value} {xs : List Int} (h : SB w γ v xs) : ∃ a c, v = .slice a xs.length c ∧ IsB w a xs.length c xs := by
  cases γ with
  | none =>
    obtain ⟨rfl, hx⟩ := h
    have hx' : xs = [] := by simpa [ints] using hx
    subst hx'
    exact ⟨none, 0, rfl, rfl, Nat.le_refl _, by omega, fun h => by simp at h⟩
  | some g =>
    obtain ⟨cap, rfl, hR⟩ := h
    rw [ints_len] at hR ⊢
    refine ⟨_, cap, rfl, rfl, ?_, ?_, fun hn => ⟨g, 0, rfl, hR.lt, fun i hi => ?_⟩⟩
    · obtain ⟨cur, -, -, -, h, -⟩ := hR; exact h
    · obtain ⟨cur, -, -, -, -, h, -⟩ := hR; exact h
    · rw [Nat.zero_add, hR.cell i hi, ints_get _ _ hi]

theorem clone_run (a : Addr) (n c : Nat) (xs : List Int) (w : World) (hB : IsB w (some a) n c xs) (hn : n ≤ 1000000) :
    ∃ v w3, (∀ ty, (Builtin.append_ #[28, 28] ty #[.slice (some ⟨w.heap.size, 0, none⟩) 0 0, .slice (some a) n c]).run Try.prog (w.alloc (.cells #[] 5)) = .ok v w3) ∧ (∃ γ, SB w3 γ v xs ∧ (∀ g, γ = some g → w.heap.size ≤ g)) ∧ Below w.heap.size w w3 := by
  obtain ⟨i0, hi0, hz0, hz1, hz2⟩ := info_parts Try.info5
  have B1 : Below w.heap.size w (w.alloc (.cells #[] 5)) := (Below.refl _ _).alloc (Nat.le_refl _) _
  have hr0 : RowV (w.alloc (.cells #[] 5)) w.heap.size 0 0 5 [] := ⟨#[], heap_alloc_new w _, rfl, rfl, Nat.le_refl _, by omega, rfl⟩
  by_cases h0 : n = 0
  · subst h0
    obtain rfl : xs = [] := List.eq_nil_of_length_eq_zero hB.1
    refine ⟨.slice (some ⟨w.heap.size, 0, none⟩) 0 0, w.alloc (.cells #[] 5), fun ty => ?_, ⟨some w.heap.size, ⟨0, rfl, hr0⟩, fun g h => by injection h; omega⟩, B1⟩
    simp [Builtin.append_, run_underlying Try.underlying28, sizeOf, typeInfo, hi0, Builtin.lenOf, Builtin.firstCells, storeCells, loadCells, loadCellsFrom]
  · have hB1 := hB.below B1
    obtain ⟨ad, had, hc⟩ := cells_of_isB hB1 (by rw [ints_len, hB.1]; omega)
    obtain rfl : a = ad := by injection had
    obtain ⟨g', cap', w', hrun, hR, hW⟩ := run_push (P := Try.prog) (w.alloc (.cells #[] 5)) 28 0 5 i0 (.int .u8 0) 1 Try.underlying28 hi0 hz0 hz1 rfl hz2 (some w.heap.size) (.slice (some ⟨w.heap.size, 0, none⟩) 0 0) [] ⟨0, rfl, hr0⟩ a n c (ints xs) (by rw [ints_len, hB.1]) hc (ints_one _) (by omega) (by simp; omega) (by simp; omega)
    simp only [List.length_nil, Nat.zero_add, List.nil_append] at hrun hR
    refine ⟨_, w', fun ty => hrun, ⟨some g', ⟨cap', by rw [ints_len, hB.1], by rw [ints_len, hB.1]; exact hR⟩, ?_⟩, ?_⟩
    · intro g hg
      injection hg with hg
      subst hg
      rcases hW with ⟨h, -⟩ | ⟨h, -⟩
      · injection h with h; omega
      · rw [h]; simp
    · rcases hW with ⟨h, hF⟩ | ⟨h, hF⟩
      · injection h with h
        subst h
        exact B1.trans (hF.below (by simp) (fun k hk => by omega))
      · exact B1.trans (hF.below (by simp) (fun k hk => hk.elim))

set_option maxHeartbeats 1000000 in
theorem clone_any (a : Option Addr) (n c : Nat) (xs : List Int) (w : World) (hB : IsB w a n c xs) (hn : n ≤ 1000000) :
    Calls Try.prog 48 #[.slice a n c] w fun e w' => ∃ v, e = .returned v ∧ (∃ γ, SB w' γ v xs ∧ (∀ g, γ = some g → w.heap.size ≤ g)) ∧ Below w.heap.size w w' := by
  cases a with
  | none =>
    have h0 : n = 0 := by
      by_cases h : 0 < n
      · obtain ⟨b, off, e, -⟩ := hB.2.2.2 h
        simp at e
      · omega
    subst h0
    obtain rfl : xs = [] := List.eq_nil_of_length_eq_zero hB.1
    clear hB
    have he : ∀ w : World, (binOp .eql 28 (.slice none 0 c) (.slice none 0 0)).run Try.prog w = .ok (.bool true) w := fun _ => rfl
    go_enter Try.func48, Try.ntmps48
    go_wp2
    go_ret
    exact ⟨_, rfl, ⟨none, ⟨rfl, rfl⟩, fun g h => by cases h⟩, Below.refl _ _⟩
  | some a =>
    obtain ⟨v, w3, hap, hS, hW⟩ := clone_run a n c xs w hB hn
    have R := hd (And.intro hS hW)
    clear hB hS hW
    have he : ∀ w : World, (binOp .eql 28 (.slice (some a) n c) (.slice none 0 0)).run Try.prog w = .ok (.bool false) w := fun _ => rfl
    go_enter Try.func48, Try.ntmps48
    go_wp2_with (at_builtin; refine wpList_append_k _ rfl _ _ 28 28 rfl _ _ rfl rfl (hap _) ?_)
    go_ret
    exact ⟨_, rfl, R.out.1, R.out.2⟩

/-- A datagram: its addresses, its bytes, whether it is spoilt. -/
structure DG where
  f : Int
  t : Int
  b : List Int
  s : Bool

def dgv (d : DG) (v : Value) : Value := .agg #[.int .i64 d.f, .int .i64 d.t, v, .bool d.s]

set_option maxHeartbeats 1000000 in
theorem twin_any (d : DG) (a : Option Addr) (n c : Nat) (w : World) (hB : IsB w a n c d.b) (hn : n ≤ 1000000) :
    Calls Try.prog 37 #[dgv d (.slice a n c)] w fun e w' => ∃ v, e = .returned (dgv d v) ∧ (∃ γ, SB w' γ v d.b ∧ (∀ g, γ = some g → w.heap.size ≤ g)) ∧ Below w.heap.size w w' := by
  obtain ⟨f, t, b, s⟩ := d
  unfold dgv
  have HB := hd hB
  clear hB
  simp only at HB ⊢
  go_enter Try.func37, Try.ntmps37
  go_wp2_with fail
  refine (clone_any a n c b _ (HB.out.below ?_) hn).mono ?_
  · exact ((Below.refl _ _).alloc (by simp) _).alloc (by simp) _
  rintro e w1 ⟨v, rfl, ⟨γ, hS, hγ⟩, hW⟩
  obtain ⟨a', c', rfl, -⟩ := hS.isB
  have k0 : w1.heap[w.heap.size]? = some (.cells #[.int .i64 f, .int .i64 t, .slice a n c, .bool s] 37 (0, 0)) := by
    rw [hW.block _ (by simp; omega), heap_alloc_old _ _ (by simp)]
    exact heap_alloc_new _ _
  have k1 : w1.heap[w.heap.size + 1]? = some (.cells #[.int .i64 0, .int .i64 0, .slice none 0 0, .bool false] 37 (0, 0)) := by
    rw [hW.block _ (by simp)]
    have := heap_alloc_new (w.alloc (.cells #[.int .i64 f, .int .i64 t, .slice a n c, .bool s] 37)) (.cells #[.int .i64 0, .int .i64 0, .slice none 0 0, .bool false] 37)
    rw [World.size_alloc] at this
    exact this
  have c0 := cell_row k0 0
  have c1 := cell_row k0 1
  have c2 := cell_row k0 2
  have c3 := cell_row k0 3
  have f0 := frozen_row k0 2
  have g0 := frozen_row k1 0
  have g1 := frozen_row k1 1
  have g2 := frozen_row k1 2
  have g3 := frozen_row k1 3
  have d0 := cell_row k1 0
  have d1 := cell_row k1 1
  have d2 := cell_row k1 2
  have d3 := cell_row k1 3
  simp at c0 c1 c2 c3 d0 d1 d2 d3
  have B2 : Below w.heap.size w w1 := (((Below.refl _ w).alloc (Nat.le_refl _) _).alloc (by simp) _).trans (hW.mono (by simp; omega))
  have hγ' : ∀ g, γ = some g → w.heap.size + 2 ≤ g := fun g hg => by have := hγ g hg; simp at this; omega
  have R := hd (And.intro (And.intro hS hγ') B2)
  clear hS hγ hγ' B2 hW k0 k1
  go_wp2
  refine bodyPost_ret (v := .agg #[.int .i64 f, .int .i64 t, .slice a' b.length c', .bool s]) (by simp [results, Try.results37, go_sem, *]) rfl ?_
  obtain ⟨⟨hS, hγ⟩, hB⟩ := R.out
  refine ⟨_, rfl, ⟨γ, ?_, fun g hg => by have := hγ g hg; omega⟩, ?_⟩
  · refine SRow.fr hS (S := fun k => k = w.heap.size ∨ k = w.heap.size + 1) ?_ (fun g hg h => by have := hγ g hg; omega)
    repeat (first | exact Fr.refl _ _ | refine Fr.trans ?_ (Fr.setCell _ _ _ (by first | exact .inl rfl | exact .inr rfl)))
  · repeat (first | exact hB | refine Below.setCell ?_ (by simp) _)

end Go.Proofs.Ytnglcnilckolkaa
