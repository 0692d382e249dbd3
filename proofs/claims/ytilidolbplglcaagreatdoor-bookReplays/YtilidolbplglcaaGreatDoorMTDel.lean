/-
  Texts put together: TDel TChg TApp.
-/
import Derived.Test.YtilidolbplglcaaGreatDoorMTIns
import Derived.Test.YtilidolbplglcaaGreatDoorVb
/-! TDel -/
namespace Go.Proofs.YtilidolbplglcaaGreatDoor
open Go.RowKit Go.Lib
set_option linter.unusedVariables false

def zc : List Value := [.int .u8 0, .int .i64 0, .int .i64 0]

theorem run_clear_one (w : World) (ty : TypeId) (g o cap : Nat) (cur : List Value) (hg : w.heap[g]? = some (.cells cur.toArray 50 (0, 0))) (hfit : o + 3 ≤ cur.length) :
    (Builtin.clear_ #[25] ty #[.slice (some ⟨g, o, none⟩) 1 cap]).run Tryz.prog w = .ok (.tuple #[]) (w.setRow g (splice cur o zc).toArray) := by
  obtain ⟨i0, hi0, hz0, hz1, hz2⟩ := info_parts Tryz.infoE
  have hz : (Builtin.zeroCells (Value.agg #[.int .u8 0, .int .i64 0, .int .i64 0]).cells 1).toList = zc := by kernel_rfl
  have hst := run_storeCells_at Tryz.prog g o 50 zc 0 cur.toArray w hg (by simpa [zc] using hfit) (by intro v hv; simp [zc] at hv; rcases hv with rfl | rfl <;> rfl)
  simp [Builtin.clear_, run_underlying Tryz.underlying25, zeroValue, typeInfo, hi0, hz0, hz, hst, splice]

theorem wpList_clear_k {P : Program} (w : World) {ops : Array Oper} {rest : List Oper} {o : Oper} {a : Act} {Q : Exit → Act → World → Prop} (hgd : o.guard = none) (d : Operand) (t : TypeId)
    (ho : o.op = .call { callee := .builtin .clear, args := #[d], argTypes := #[t] }) (v : Value) (hd' : a.eval d = v) {v' : Value} {w' : World}
    (hr : (Builtin.clear_ #[t] o.type #[v]).run P w = .ok v' w') (h : wpList P ops Q rest (a.put o.dst v') w') : wpList P ops Q (o :: rest) a w := by
  refine wpList_plain hgd fun K hK => ?_
  unfold Oper.wp
  simp [execOp, ho, resolve, invoke, builtin, hd', hr, Result.andThen]
  exact hK _ _ h

theorem step_clear_k {P : Program} {ops : Array Oper} {o : Oper} {a : Act} {w : World} {K : Act → World → Prop} {Q : Exit → Act → World → Prop} {E : Prop}
    (hg : o.guard = none) (d : Operand) (dT : TypeId) (hop : o.op = Op.call { callee := Callee.builtin Builtin.clear, args := #[d], argTypes := #[dT] })
    (v : Value) (hd' : a.eval d = v) {v' : Value} {w' : World} (hr : (Builtin.clear_ #[dT] o.type #[v]).run P w = .ok v' w') (hK : K (a.put o.dst v') w') :
    if Region.wanted o (yielded ops a.tmps) = true then Oper.wp P o a w K Q else E := by
  have hw : Region.wanted o (yielded ops a.tmps) = true := by simp [Region.wanted, hg]
  rw [if_pos hw]
  unfold Oper.wp
  simp [execOp, hop, resolve, invoke, builtin, hd', hr, Result.andThen]
  exact hK

set_option maxHeartbeats 4000000 in
set_option maxRecDepth 100000 in
theorem delete_row (g m c i : Nat) (xs : List El) (cur : List Value) (w : World) (hi : i ≤ m) (hroom : m + 1 ≤ c) (hm : m ≤ 4096) (hc63 : c ≤ 9223372036854775807)
    (hg : Hid (w.heap[g]? = some (.cells cur.toArray 50 (0, 0)))) (ht : Hid (cur.take ((m + 1) * 3) = cE xs)) (hx : Hid (xs.length = m + 1)) (hcl : Hid (cur.length = c * 3)) :
    Calls Tryz.prog 58 #[.slice (some ⟨g, 0, none⟩) (m + 1) c, .int .i64 i, .int .i64 ((i : Int) + 1)] w fun e w' =>
      e = .returned (.slice (some ⟨g, 0, none⟩) m c) ∧ w'.heap[g]? = some (.cells (splice (splice cur (i * 3) (cE (xs.drop (i + 1)))) (m * 3) zc).toArray 50 (0, 0)) ∧ Fr (· = g) w w' := by
  obtain ⟨i0, hi0, hz0, hz1, hz2⟩ := info_parts Tryz.infoE
  have hdl : (cE (xs.drop (i + 1))).length = (m - i) * 3 := by rw [cE_len, List.length_drop, hx.out]; congr 1; omega
  have hgd : w.drew.heap[g]? = some (.cells cur.toArray 50 (0, 0)) := hg.out
  obtain ⟨W1, hW1⟩ : ∃ W1, W1 = w.drew.setRow g (splice cur (i * 3) (cE (xs.drop (i + 1)))).toArray := ⟨_, rfl⟩
  have hap : ∀ (A : Addr) ty, (c = i + 1 ∨ A = ⟨g, (i + 1) * 3, none⟩) → (Builtin.append_ #[25, 25] ty #[.slice (some ⟨g, 0, none⟩) i c, .slice (some A) (m - i) (c - (i + 1))]).run Tryz.prog w.drew = .ok (.slice (some ⟨g, 0, none⟩) m c) W1 := fun A ty hA => by
    have hsrc : ∀ j u, (cE (xs.drop (i + 1)))[j]? = some u → w.drew.cell? (A.add j) = some u := by
      rcases hA with hA | rfl
      · intro j u hj
        have : (cE (xs.drop (i + 1))).length = 0 := by rw [hdl]; omega
        rw [List.length_eq_zero_iff.1 this] at hj
        simp at hj
      · exact row_cells hgd ht.out hx.out (i + 1) (by omega)
    have hr := run_append_room (P := Tryz.prog) w.drew 25 ty 50 i0 Tryz.underlying25 hi0 g i c cur.toArray hgd A (m - i) (c - (i + 1)) (cE (xs.drop (i + 1))) (by rw [hz1, hdl]) hsrc (cE_one' _) (by omega) (by rw [hz1, hdl]; simp [hcl.out]; omega)
    rw [show i + (m - i) = m by omega, hz1] at hr
    rw [hW1]
    simpa [splice] using hr
  have hg1 : W1.heap[g]? = some (.cells (splice cur (i * 3) (cE (xs.drop (i + 1)))).toArray 50 (0, 0)) := by rw [hW1]; exact setRow_heap w.drew g _ _ 50 _ hgd
  have hl1 : (splice cur (i * 3) (cE (xs.drop (i + 1)))).length = c * 3 := by rw [length_splice _ _ _ (by rw [hdl, hcl.out]; omega), hcl.out]
  have F1 : Fr (· = g) w W1 := by rw [hW1]; exact (Fr.drew _ w).trans (Fr.setRow _ _ _ rfl)
  have hcr : ∀ ty dc, (Builtin.clear_ #[25] ty #[.slice (some ⟨g, m * 3, none⟩) 1 dc]).run Tryz.prog W1 = .ok (.tuple #[]) (W1.setRow g (splice (splice cur (i * 3) (cE (xs.drop (i + 1)))) (m * 3) zc).toArray) := fun ty dc =>
    run_clear_one W1 ty g (m * 3) dc _ hg1 (by rw [hl1]; omega)
  obtain ⟨W2, hW2⟩ : ∃ W2, W2 = W1.setRow g (splice (splice cur (i * 3) (cE (xs.drop (i + 1)))) (m * 3) zc).toArray := ⟨_, rfl⟩
  rw [← hW2] at hcr
  have R : Hid (W2.heap[g]? = some (.cells (splice (splice cur (i * 3) (cE (xs.drop (i + 1)))) (m * 3) zc).toArray 50 (0, 0)) ∧ Fr (· = g) w W2) := by
    rw [hW2]
    exact ⟨setRow_heap W1 g _ _ 50 _ hg1, F1.trans (Fr.setRow _ _ _ rfl)⟩
  clear hW1 hg1 hl1 F1 hW2 hgd hdl hi0 hz0 hz1 hz2
  have hw1 : IntKind.i64.wrap ((i : Int) + 1) = (i : Int) + 1 := by rw [IntKind.wrap_i64]; omega
  have hb1 : (0 : Int) ≤ (i : Int) + 1 := by omega
  have htn : ((i : Int) + 1).toNat = i + 1 := by omega
  have hb3 : (i : Int) ≤ (i : Int) + 1 := by omega
  have hb4 : (i : Int) + 1 ≤ (m : Int) + 1 := by omega
  have hb5 : ¬ (c = i) := by omega
  have hb6 : i ≤ c := by omega
  have hb7 : i + 1 ≤ c := by omega
  have hb8 : ¬ (c = m) := by omega
  go_enter Tryz.func58, Tryz.ntmps58
  go_wp2_with fail
  by_cases hcj : c = i + 1
  · subst hcj
    have hap0 : ∀ ty, (Builtin.append_ #[25, 25] ty #[.slice (some ⟨g, 0, none⟩) i (i + 1), .slice (some ⟨g, 0, none⟩) 0 0]).run Tryz.prog w.drew = .ok (.slice (some ⟨g, 0, none⟩) m (i + 1)) W1 := fun ty => by
      have h := hap ⟨g, 0, none⟩ ty (.inl rfl)
      rwa [Nat.sub_self, show m - i = 0 by omega] at h
    clear hap
    go_region_law (refine step_append_k rfl (.tmp 22) (.tmp 25) 25 25 rfl (.slice (some ⟨g, 0, none⟩) i (i + 1)) (.slice (some ⟨g, 0, none⟩) 0 0) (by simp [Act.eval, Act.put]) (by simp [Act.eval, Act.put]) (hap0 _) ?_)
    go_wp2_with (at_builtin; refine wpList_clear_k _ rfl _ 25 rfl _ rfl (hcr _ _) ?_)
    go_ret
    exact ⟨rfl, R.out⟩
  · go_region_law (refine step_append_k rfl (.tmp 22) (.tmp 25) 25 25 rfl (.slice (some ⟨g, 0, none⟩) i c) (.slice (some ⟨g, (i + 1) * 3, none⟩) (m - i) (c - (i + 1))) (by simp [Act.eval, Act.put]) (by simp [Act.eval, Act.put]) (hap ⟨g, (i + 1) * 3, none⟩ _ (.inr rfl)) ?_)
    go_wp2_with (at_builtin; refine wpList_clear_k _ rfl _ 25 rfl _ rfl (hcr _ _) ?_)
    go_ret
    exact ⟨rfl, R.out⟩

theorem delete_any (β : Option Nat) (v : Value) (i : Nat) (xs : List El) (w : World) (hS : SE w β v xs) (hi : i < xs.length) (hn : xs.length ≤ 4096) :
    Calls Tryz.prog 58 #[v, .int .i64 i, .int .i64 ((i : Int) + 1)] w fun e w' => ∃ v', e = .returned v' ∧ NowE w w' β v' (xs.take i ++ xs.drop (i + 1)) := by
  cases β with
  | none =>
    obtain ⟨-, rfl⟩ := hS
    simp at hi
  | some g =>
    obtain ⟨c, rfl, cur, hh, htk, hvl, hnc, hcm, hcs⟩ := hS
    obtain ⟨m, hm⟩ : ∃ m, xs.length = m + 1 := ⟨xs.length - 1, by omega⟩
    rw [hm] at htk hnc hi ⊢
    refine (delete_row g m c i xs cur w (by omega) hnc (by omega) hcm hh htk hm hcs).mono ?_
    rintro e w' ⟨rfl, hh', hF⟩
    have hl : (xs.take i ++ xs.drop (i + 1)).length = m := by simp; omega
    have hdl : (cE (xs.drop (i + 1))).length = (m - i) * 3 := by rw [cE_len, List.length_drop, hm]; congr 1; omega
    have hl1 : (splice cur (i * 3) (cE (xs.drop (i + 1)))).length = c * 3 := by rw [length_splice _ _ _ (by omega), hcs]
    refine ⟨_, rfl, some g, ⟨c, by rw [hl], _, hh', ?_, rfl, by omega, hcm, ?_⟩, .inl rfl, hF.mono (fun k _ h => by rw [h])⟩
    · rw [hl]
      have := unshift_take cur xs zc i (m + 1) hm hi (by omega) htk
      simpa using this
    · rw [length_splice _ _ _ (by rw [hl1]; simp [zc]; omega), hl1]

end Go.Proofs.YtilidolbplglcaaGreatDoor

/-! TChg -/
namespace Go.Proofs.YtilidolbplglcaaGreatDoor
open Go.RowKit Go.Lib
set_option linter.unusedVariables false

/-- The text behind an operation that fits. -/
def applyP (xs : List El) (o : OpE) : List El :=
  if o.kind = 1 then xs.take o.pos.toNat ++ @List.cons El (o.ch, o.cl, o.sq) (xs.drop o.pos.toNat)
  else if o.kind = 2 then xs.take o.pos.toNat ++ xs.drop (o.pos.toNat + 1)
  else xs

theorem NowE.base {w w1 w2 : World} {β : Option Nat} {v : Value} {ys : List El} (hN : NowE w1 w2 β v ys) (hb : Below w.heap.size w w1) (hβ : ∀ g, β = some g → g < w.heap.size) : NowE w w2 β v ys := by
  obtain ⟨β', h1, h2, h3⟩ := hN
  refine ⟨β', h1, ?_, (Fr.of_below hb).trans h3⟩
  rcases h2 with h2 | ⟨g, h2, h4⟩
  · exact .inl h2
  · exact .inr ⟨g, h2, Nat.le_trans hb.size h4⟩

set_option maxHeartbeats 1000000 in
theorem change_ins (β : Option Nat) (v : Value) (i : Nat) (c l s : Int) (xs : List El) (w : World) (hS : SE w β v xs) (hi : i ≤ xs.length) (hn : xs.length < 4096) :
    Calls Tryz.prog 42 #[v, .agg #[.int .i64 1, .int .i64 i, .int .u8 c, .int .i64 l, .int .i64 s]] w fun e w' => ∃ v', e = .returned v' ∧ NowE w w' β v' (xs.take i ++ @List.cons El (c, l, s) (xs.drop i)) := by
  obtain ⟨a, cc, rfl, -, -⟩ := hS.form
  have HS := hd hS
  have HI := hd hi
  have HN := hd hn
  clear hS hi hn
  go_enter Tryz.func42, Tryz.ntmps42
  go_wp2_with fail
  generalize hW : World.alloc _ _ = W1
  have B1 : Below w.heap.size w W1 := by
    rw [← hW]
    exact ((Below.refl _ _).alloc (Nat.le_refl _) _).alloc (by simp) _
  refine (insert_any β _ i (w.heap.size + 1) (c, l, s) xs W1 (HS.out.below B1) HI.out HN.out (by rw [← hW, show w.heap.size + 1 = (w.alloc _).heap.size from by simp, heap_alloc_new]; rfl) (fun h => by have := HS.out.lt _ h; omega)).mono ?_
  rintro e w2 ⟨v', rfl, hN⟩
  have N2 := hd (hN.base B1 HS.out.lt)
  clear hN hW B1
  go_wp2
  go_ret
  exact ⟨_, rfl, N2.out⟩

set_option maxHeartbeats 1000000 in
theorem change_del (β : Option Nat) (v : Value) (i : Nat) (c l s : Int) (xs : List El) (w : World) (hS : SE w β v xs) (hi : i < xs.length) (hn : xs.length ≤ 4096) :
    Calls Tryz.prog 42 #[v, .agg #[.int .i64 2, .int .i64 i, .int .u8 c, .int .i64 l, .int .i64 s]] w fun e w' => ∃ v', e = .returned v' ∧ NowE w w' β v' (xs.take i ++ xs.drop (i + 1)) := by
  obtain ⟨a, cc, rfl, -, -⟩ := hS.form
  have HS := hd hS
  have HI := hd hi
  have HN := hd hn
  have hw1 : IntKind.i64.wrap ((i : Int) + 1) = (i : Int) + 1 := by rw [IntKind.wrap_i64]; omega
  clear hS hi hn
  go_enter Tryz.func42, Tryz.ntmps42
  go_wp2_with fail
  generalize hW : World.alloc _ _ = W1
  have B1 : Below w.heap.size w W1 := by
    rw [← hW]
    exact (Below.refl _ _).alloc (Nat.le_refl _) _
  refine (delete_any β _ i xs W1 (HS.out.below B1) HI.out HN.out).mono ?_
  rintro e w2 ⟨v', rfl, hN⟩
  have N2 := hd (hN.base B1 HS.out.lt)
  clear hN hW B1
  go_wp2
  go_ret
  exact ⟨_, rfl, N2.out⟩

set_option maxHeartbeats 1000000 in
theorem change_nop (β : Option Nat) (v : Value) (p c l s : Int) (xs : List El) (w : World) (hS : SE w β v xs) :
    Calls Tryz.prog 42 #[v, .agg #[.int .i64 0, .int .i64 p, .int .u8 c, .int .i64 l, .int .i64 s]] w fun e w' => ∃ v', e = .returned v' ∧ NowE w w' β v' xs := by
  obtain ⟨a, cc, rfl, -, -⟩ := hS.form
  have B1 : Below w.heap.size w (w.alloc (.cells #[.int .i64 0, .int .i64 p, .int .u8 c, .int .i64 l, .int .i64 s] 46)) := (Below.refl _ _).alloc (Nat.le_refl _) _
  have R : Hid (NowE w (w.alloc (.cells #[.int .i64 0, .int .i64 p, .int .u8 c, .int .i64 l, .int .i64 s] 46)) β (.slice a xs.length cc) xs) := ⟨β, hS.below B1, .inl rfl, Fr.of_below B1⟩
  clear hS B1
  go_enter Tryz.func42, Tryz.ntmps42
  go_wp2
  go_ret
  exact ⟨_, rfl, R.out⟩

theorem change_any (β : Option Nat) (v : Value) (k p c l s : Int) (xs : List El) (w : World) (hS : SE w β v xs) (hf : fitsP xs.length ⟨k, p, c, l, s⟩ = 0) :
    Calls Tryz.prog 42 #[v, .agg #[.int .i64 k, .int .i64 p, .int .u8 c, .int .i64 l, .int .i64 s]] w fun e w' => ∃ v', e = .returned v' ∧ NowE w w' β v' (applyP xs ⟨k, p, c, l, s⟩) := by
  obtain ⟨hv, h0, h1, h2, h3⟩ := fitsP_zero hf
  simp only at h2 h3
  obtain ⟨i, rfl⟩ : ∃ i : Nat, p = (i : Int) := ⟨p.toNat, by omega⟩
  rcases h2 with rfl | ⟨rfl, h4, h5⟩ | ⟨rfl, h4⟩
  · simp only [applyP]
    exact change_nop β v i c l s xs w hS
  · simp only [applyP, Int.toNat_natCast]
    exact change_ins β v i c l s xs w hS (by omega) (by omega)
  · simp only [applyP, Int.toNat_natCast]
    exact change_del β v i c l s xs w hS (by omega) (by omega)

theorem applyP_len {xs : List El} {o : OpE} (hf : fitsP xs.length o = 0) : ((applyP xs o).length : Int) = if o.kind = 1 then (xs.length : Int) + 1 else if o.kind = 2 then (xs.length : Int) - 1 else (xs.length : Int) := by
  obtain ⟨hv, h0, h1, h2, h3⟩ := fitsP_zero hf
  unfold applyP
  rcases h2 with h2 | ⟨h2, h4, h5⟩ | ⟨h2, h4⟩ <;> simp [h2] <;> omega

theorem applyP_le {xs : List El} {o : OpE} (hf : fitsP xs.length o = 0) : (applyP xs o).length ≤ 4096 := by
  obtain ⟨hv, h0, h1, h2, h3⟩ := fitsP_zero hf
  have := applyP_len hf
  rcases h2 with h2 | ⟨h2, h4, h5⟩ | ⟨h2, h4⟩ <;> simp [h2] at this <;> omega

end Go.Proofs.YtilidolbplglcaaGreatDoor

/-! TApp -/
namespace Go.Proofs.YtilidolbplglcaaGreatDoor
open Go.RowKit Go.Lib
set_option linter.unusedVariables false

/-- A copy of a whole text into a row of the call's own. -/
theorem run_copyE (w : World) (a : Option Addr) (n c m g : Nat) (xs : List El) (cur : List Value) (hE : IsE w a n c xs) (hg : w.heap[g]? = some (.cells cur.toArray 50 (0, 0))) (hl : cur.length = m * 3) (hm : n ≤ m) (hm63 : m ≤ 9223372036854775807) :
    ∃ w', (∀ ty, (Builtin.copy_ #[25, 25] ty #[.slice (some ⟨g, 0, none⟩) n m, .slice a n c]).run Tryz.prog w = .ok (goInt n) w') ∧ RowE w' g n m xs ∧ Fr (· = g) w w' := by
  obtain ⟨h1, h2, h3, h4⟩ := hE
  by_cases h0 : n = 0
  · subst h0
    obtain rfl := List.eq_nil_of_length_eq_zero h1
    exact ⟨w, fun ty => run_copy_zero w _ _ ty 50 _ _ _ _ _ _ 3 Tryz.underlying25 (by obtain ⟨i0, hi, hz0, hz1, hz2⟩ := info_parts Tryz.infoE; rw [hi]; simp [hz1]) (Nat.min_self _), ⟨cur, hg, by simp [cE_nil], rfl, hm, hm63, hl⟩, Fr.refl _ _⟩
  · obtain ⟨b, off, rfl, hlt, hc⟩ := h4 (by omega)
    have hcl : (cE xs).length = n * 3 := by rw [cE_len, h1]
    refine ⟨_, fun ty => run_copy_k w 25 25 ty 50 3 g 0 n m ⟨b, off, none⟩ n c n cur 50 (cE xs) Tryz.underlying25 sizeE' hg (Nat.min_self _).symm hcl (fun j v hj => by rw [add_lit]; exact hc j v hj) (by rw [hcl, hl]; omega) (cE_one' _), ?_, Fr.setRow _ _ _ rfl⟩
    refine ⟨_, setRow_heap w g _ _ 50 _ hg, ?_, h1, hm, hm63, by rw [length_splice _ _ _ (by rw [hcl, hl]; omega), hl]⟩
    have := splice_take_end cur 0 (cE xs) (Nat.zero_le _)
    rw [Nat.zero_add, hcl] at this
    simpa using this

/-- A row of the call's own, from block base on. -/
def OwnE (w : World) (base : Nat) (v : Value) (xs : List El) : Prop := ∃ g, base ≤ g ∧ SE w (some g) v xs

theorem OwnE.form {w : World} {base : Nat} {v : Value} {xs : List El} (h : OwnE w base v xs) : ∃ g c, base ≤ g ∧ v = .slice (some ⟨g, 0, none⟩) xs.length c ∧ RowE w g xs.length c xs := by
  obtain ⟨g, hb, c, hv, hR⟩ := h
  exact ⟨g, c, hb, hv, hR⟩
theorem OwnE.below {w w' : World} {base : Nat} {v : Value} {xs : List El} (h : OwnE w base v xs) (hb : Below w.heap.size w w') : OwnE w' base v xs := by
  obtain ⟨g, h1, h2⟩ := h
  exact ⟨g, h1, h2.below hb⟩


end Go.Proofs.YtilidolbplglcaaGreatDoor
