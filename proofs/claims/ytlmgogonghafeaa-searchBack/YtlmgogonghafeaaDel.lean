/-
  slices.Delete of one element, in a row of the call's own.
-/
import Derived.Test.YtlmgogonghafeaaMI
namespace Go.Proofs.Ytlmgogonghafeaa
open Go.RowKit Go.Lib
set_option linter.unusedVariables false

def zc : List Value := [.int .u8 0, .int .i64 0, .int .i64 0]

theorem run_clear_one (w : World) (ty : TypeId) (g o cap : Nat) (cur : List Value) (hg : w.heap[g]? = some (.cells cur.toArray 69 (0, 0))) (hfit : o + 3 ≤ cur.length) :
    (Builtin.clear_ #[22] ty #[.slice (some ⟨g, o, none⟩) 1 cap]).run Try.prog w = .ok (.tuple #[]) (w.setRow g (splice cur o zc).toArray) := by
  obtain ⟨i0, hi0, hz0, hz1, hz2⟩ := info_parts Try.infoE
  have hz : (Builtin.zeroCells (Value.agg #[.int .u8 0, .int .i64 0, .int .i64 0]).cells 1).toList = zc := by kernel_rfl
  have hst := run_storeCells_at Try.prog g o 69 zc 0 cur.toArray w hg (by simpa [zc] using hfit) (by intro v hv; simp [zc] at hv; rcases hv with rfl | rfl <;> rfl)
  simp [Builtin.clear_, run_underlying Try.underlying22, zeroValue, typeInfo, hi0, hz0, hz, hst, splice]

theorem wpList_clear_k {P : Program} (w : World) {ops : Array Oper} {rest : List Oper} {o : Oper} {a : Act} {Q : Exit → Act → World → Prop} (hgd : o.guard = none) (d : Operand) (t : TypeId)
    (ho : o.op = .call { callee := .builtin .clear, args := #[d], argTypes := #[t] }) (v : Value) (hd' : a.eval d = v) {v' : Value} {w' : World}
    (hr : (Builtin.clear_ #[t] o.type #[v]).run P w = .ok v' w') (h : wpList P ops Q rest (a.put o.dst v') w') : wpList P ops Q (o :: rest) a w := by
  refine wpList_plain hgd fun K hK => ?_
  unfold Oper.wp
  simp [execOp, ho, resolve, invoke, builtin, hd', hr, Result.andThen]
  exact hK _ _ h

theorem step_clear_k {P : Program} {ops : Array Oper} {o : Oper} {a : Act} {w : World} {K : Act → World → Prop} {Q : Exit → Act → World → Prop} {E : Prop}
    (hg : o.guard = none) (d : Operand) (dT : TypeId) (hop : o.op = Op.call { callee := Callee.builtin Builtin.clear, args := #[d], argTypes := #[dT] })
    (v : Value) (hd' : a.eval d = v) {v' : Value} {w' : World} (hr : (Builtin.clear_ #[dT] o.type #[v]).run P w = .ok v' w') (hK : K (a.put o.dst v') w') :
    if Region.wanted o (yielded ops a.tmps) = true then Oper.wp P o a w K Q else E := by
  have hw : Region.wanted o (yielded ops a.tmps) = true := by simp [Region.wanted, hg]
  rw [if_pos hw]
  unfold Oper.wp
  simp [execOp, hop, resolve, invoke, builtin, hd', hr, Result.andThen]
  exact hK

set_option maxHeartbeats 4000000 in
set_option maxRecDepth 100000 in
theorem delete_row (g m c i : Nat) (xs : List El) (cur : List Value) (w : World) (hi : i ≤ m) (hroom : m + 1 ≤ c) (hm : m ≤ 4096) (hc63 : c ≤ 9223372036854775807)
    (hg : Hid (w.heap[g]? = some (.cells cur.toArray 69 (0, 0)))) (ht : Hid (cur.take ((m + 1) * 3) = cE xs)) (hx : Hid (xs.length = m + 1)) (hcl : Hid (cur.length = c * 3)) :
    Calls Try.prog 52 #[.slice (some ⟨g, 0, none⟩) (m + 1) c, .int .i64 i, .int .i64 ((i : Int) + 1)] w fun e w' =>
      e = .returned (.slice (some ⟨g, 0, none⟩) m c) ∧ w'.heap[g]? = some (.cells (splice (splice cur (i * 3) (cE (xs.drop (i + 1)))) (m * 3) zc).toArray 69 (0, 0)) ∧ Fr (· = g) w w' := by
  obtain ⟨i0, hi0, hz0, hz1, hz2⟩ := info_parts Try.infoE
  have hdl : (cE (xs.drop (i + 1))).length = (m - i) * 3 := by rw [cE_len, List.length_drop, hx.out]; congr 1; omega
  have hgd : w.drew.heap[g]? = some (.cells cur.toArray 69 (0, 0)) := hg.out
  obtain ⟨W1, hW1⟩ : ∃ W1, W1 = w.drew.setRow g (splice cur (i * 3) (cE (xs.drop (i + 1)))).toArray := ⟨_, rfl⟩
  have hap : ∀ (A : Addr) ty, (c = i + 1 ∨ A = ⟨g, (i + 1) * 3, none⟩) → (Builtin.append_ #[22, 22] ty #[.slice (some ⟨g, 0, none⟩) i c, .slice (some A) (m - i) (c - (i + 1))]).run Try.prog w.drew = .ok (.slice (some ⟨g, 0, none⟩) m c) W1 := fun A ty hA => by
    have hsrc : ∀ j u, (cE (xs.drop (i + 1)))[j]? = some u → w.drew.cell? (A.add j) = some u := by
      rcases hA with hA | rfl
      · intro j u hj
        have : (cE (xs.drop (i + 1))).length = 0 := by rw [hdl]; omega
        rw [List.length_eq_zero_iff.1 this] at hj
        simp at hj
      · exact row_cells hgd ht.out hx.out (i + 1) (by omega)
    have hr := run_append_room (P := Try.prog) w.drew 22 ty 69 i0 Try.underlying22 hi0 g i c cur.toArray hgd A (m - i) (c - (i + 1)) (cE (xs.drop (i + 1))) (by rw [hz1, hdl]) hsrc (cE_one' _) (by omega) (by rw [hz1, hdl]; simp [hcl.out]; omega)
    rw [show i + (m - i) = m by omega, hz1] at hr
    rw [hW1]
    simpa [splice] using hr
  have hg1 : W1.heap[g]? = some (.cells (splice cur (i * 3) (cE (xs.drop (i + 1)))).toArray 69 (0, 0)) := by rw [hW1]; exact setRow_heap w.drew g _ _ 69 _ hgd
  have hl1 : (splice cur (i * 3) (cE (xs.drop (i + 1)))).length = c * 3 := by rw [length_splice _ _ _ (by rw [hdl, hcl.out]; omega), hcl.out]
  have F1 : Fr (· = g) w W1 := by rw [hW1]; exact (Fr.drew _ w).trans (Fr.setRow _ _ _ rfl)
  have hcr : ∀ ty dc, (Builtin.clear_ #[22] ty #[.slice (some ⟨g, m * 3, none⟩) 1 dc]).run Try.prog W1 = .ok (.tuple #[]) (W1.setRow g (splice (splice cur (i * 3) (cE (xs.drop (i + 1)))) (m * 3) zc).toArray) := fun ty dc =>
    run_clear_one W1 ty g (m * 3) dc _ hg1 (by rw [hl1]; omega)
  obtain ⟨W2, hW2⟩ : ∃ W2, W2 = W1.setRow g (splice (splice cur (i * 3) (cE (xs.drop (i + 1)))) (m * 3) zc).toArray := ⟨_, rfl⟩
  rw [← hW2] at hcr
  have R : Hid (W2.heap[g]? = some (.cells (splice (splice cur (i * 3) (cE (xs.drop (i + 1)))) (m * 3) zc).toArray 69 (0, 0)) ∧ Fr (· = g) w W2) := by
    rw [hW2]
    exact ⟨setRow_heap W1 g _ _ 69 _ hg1, F1.trans (Fr.setRow _ _ _ rfl)⟩
  clear hW1 hg1 hl1 F1 hW2 hgd hdl hi0 hz0 hz1 hz2
  have hw1 : IntKind.i64.wrap ((i : Int) + 1) = (i : Int) + 1 := by rw [IntKind.wrap_i64]; omega
  have hb1 : (0 : Int) ≤ (i : Int) + 1 := by omega
  have htn : ((i : Int) + 1).toNat = i + 1 := by omega
  have hb3 : (i : Int) ≤ (i : Int) + 1 := by omega
  have hb4 : (i : Int) + 1 ≤ (m : Int) + 1 := by omega
  have hb5 : ¬ (c = i) := by omega
  have hb6 : i ≤ c := by omega
  have hb7 : i + 1 ≤ c := by omega
  have hb8 : ¬ (c = m) := by omega
  go_enter Try.func52, Try.ntmps52
  go_wp2_with fail
  by_cases hcj : c = i + 1
  · subst hcj
    have hap0 : ∀ ty, (Builtin.append_ #[22, 22] ty #[.slice (some ⟨g, 0, none⟩) i (i + 1), .slice (some ⟨g, 0, none⟩) 0 0]).run Try.prog w.drew = .ok (.slice (some ⟨g, 0, none⟩) m (i + 1)) W1 := fun ty => by
      have h := hap ⟨g, 0, none⟩ ty (.inl rfl)
      rwa [Nat.sub_self, show m - i = 0 by omega] at h
    clear hap
    go_region_law (refine step_append_k rfl (.tmp 22) (.tmp 25) 22 22 rfl (.slice (some ⟨g, 0, none⟩) i (i + 1)) (.slice (some ⟨g, 0, none⟩) 0 0) (by simp [Act.eval, Act.put]) (by simp [Act.eval, Act.put]) (hap0 _) ?_)
    go_wp2_with (at_builtin; refine wpList_clear_k _ rfl _ 22 rfl _ rfl (hcr _ _) ?_)
    go_ret
    exact ⟨rfl, R.out⟩
  · go_region_law (refine step_append_k rfl (.tmp 22) (.tmp 25) 22 22 rfl (.slice (some ⟨g, 0, none⟩) i c) (.slice (some ⟨g, (i + 1) * 3, none⟩) (m - i) (c - (i + 1))) (by simp [Act.eval, Act.put]) (by simp [Act.eval, Act.put]) (hap ⟨g, (i + 1) * 3, none⟩ _ (.inr rfl)) ?_)
    go_wp2_with (at_builtin; refine wpList_clear_k _ rfl _ 22 rfl _ rfl (hcr _ _) ?_)
    go_ret
    exact ⟨rfl, R.out⟩

theorem delete_any (β : Option Nat) (v : Value) (i : Nat) (xs : List El) (w : World) (hS : SE w β v xs) (hi : i < xs.length) (hn : xs.length ≤ 4096) :
    Calls Try.prog 52 #[v, .int .i64 i, .int .i64 ((i : Int) + 1)] w fun e w' => ∃ v', e = .returned v' ∧ NowE w w' β v' (xs.take i ++ xs.drop (i + 1)) := by
  cases β with
  | none =>
    obtain ⟨-, rfl⟩ := hS
    simp at hi
  | some g =>
    obtain ⟨c, rfl, cur, hh, htk, hvl, hnc, hcm, hcs⟩ := hS
    obtain ⟨m, hm⟩ : ∃ m, xs.length = m + 1 := ⟨xs.length - 1, by omega⟩
    rw [hm] at htk hnc hi ⊢
    refine (delete_row g m c i xs cur w (by omega) hnc (by omega) hcm hh htk hm hcs).mono ?_
    rintro e w' ⟨rfl, hh', hF⟩
    have hl : (xs.take i ++ xs.drop (i + 1)).length = m := by simp; omega
    have hdl : (cE (xs.drop (i + 1))).length = (m - i) * 3 := by rw [cE_len, List.length_drop, hm]; congr 1; omega
    have hl1 : (splice cur (i * 3) (cE (xs.drop (i + 1)))).length = c * 3 := by rw [length_splice _ _ _ (by omega), hcs]
    refine ⟨_, rfl, some g, ⟨c, by rw [hl], _, hh', ?_, rfl, by omega, hcm, ?_⟩, .inl rfl, hF.mono (fun k _ h => by rw [h])⟩
    · rw [hl]
      have := unshift_take cur xs zc i (m + 1) hm hi (by omega) htk
      simpa using this
    · rw [length_splice _ _ _ (by rw [hl1]; simp [zc]; omega), hl1]

end Go.Proofs.Ytlmgogonghafeaa
