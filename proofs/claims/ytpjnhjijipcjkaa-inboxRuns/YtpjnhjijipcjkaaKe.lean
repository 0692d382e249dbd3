/-
  Put of an inbox of operations.
-/
import Derived.Test.YtpjnhjijipcjkaaKc
namespace Go.Proofs.Ytpjnhjijipcjkaa
open Go.RowKit
set_option linter.unusedVariables false

theorem step_update_x {ops : Array Oper} {o : Oper} {a : Act} {w : World} {K : Act → World → Prop} {Q : Exit → Act → World → Prop} {E : Prop}
    (hg : o.guard = none) (m x y : Operand) (T : TypeId) (hop : o.op = Op.mapUpdate T m x y) (vm vx vy : Value) (hm : a.eval m = vm) (hx : a.eval x = vx) (hy : a.eval y = vy)
    (R : World → Prop) (hr : ∃ w', (Instr.mapUpdate T vm vx vy).run Try.prog w = .ok () w' ∧ R w') (hK : ∀ w', R w' → K (a.put o.dst undef) w') :
    if Region.wanted o (yielded ops a.tmps) = true then Oper.wp Try.prog o a w K Q else E := by
  obtain ⟨w', hr, hR⟩ := hr
  have hw : Region.wanted o (yielded ops a.tmps) = true := by simp [Region.wanted, hg]
  rw [if_pos hw]
  unfold Oper.wp
  simp [execOp, hop, hm, hx, hy, hr, Result.andThen]
  exact hK w' hR

set_option maxRecDepth 100000 in
set_option maxHeartbeats 4000000 in
theorem q_put (x : Nat) (p : Ib) (n y1 y2 y3 y4 y5 : Int) (S : Nat → Prop) (w : World) (h : InAt 106 w x p S) (hv : ∀ q ∈ p.H, OOk q.2) :
    Calls Try.prog 58 #[.pointer (some ⟨x, 0, none⟩), .int .i64 n, .agg #[.int .i64 y1, .int .i64 y2, .int .u8 y3, .int .i64 y4, .int .i64 y5]] w fun e w' => e = .returned (.int .i64 (iputE p n)) ∧ INow 106 w w' x (iputS p n (.agg #[.int .i64 y1, .int .i64 y2, .int .u8 y3, .int .i64 y4, .int .i64 y5])) S := by
  obtain ⟨vv, hvv⟩ : ∃ vv, vv = Value.agg #[.int .i64 y1, .int .i64 y2, .int .u8 y3, .int .i64 y4, .int .i64 y5] := ⟨_, rfl⟩
  obtain ⟨W1, hW1⟩ : ∃ W1, w.alloc (.cells #[.int .i64 y1, .int .i64 y2, .int .u8 y3, .int .i64 y4, .int .i64 y5] 94) = W1 := ⟨_, rfl⟩
  have hB1 : RowKit.Below w.heap.size w W1 := by rw [← hW1]; exact (Below.refl _ _).alloc (Nat.le_refl _) _
  have hb1 : W1.heap[w.heap.size]? = some (.cells #[.int .i64 y1, .int .i64 y2, .int .u8 y3, .int .i64 y4, .int .i64 y5] 94 (0, 0)) := by rw [← hW1]; exact heap_alloc_new _ _
  have h1 := h.below hB1
  have H1 := hd h1
  obtain ⟨b, hK, hSx, hSb, hS⟩ := h1
  have c0 := cell_row hK.box 0
  have c1 := cell_row hK.box 1
  have c2 := cell_row hK.box 2
  simp at c0 c1 c2
  have hc := hK.ok.c2
  have hr := hK.ok.r2
  have HK := hd hK
  have HS := hd (And.intro hSx hSb)
  have HB := hd (And.intro hB1 hb1)
  rw [← hvv]
  have HV := hd hvv
  clear hSx hSb hS hK h hB1 hb1
  have fin : Hid (∀ w', RowKit.Below W1.heap.size W1 w' → iputS p n vv = p → INow 106 w w' x (iputS p n vv) S) := fun w' hw he => by
    rw [he]
    exact (H1.out.now hw).after HB.out.1
  by_cases i0 : n < 1 ∨ 4096 < n
  · have hE : Hid (iputE p n = 91) := by show _ = _; rw [iputE, if_pos i0]
    have hT : Hid (iputS p n vv = p) := by show _ = _; rw [iputS, if_neg (by rw [hE.out]; omega)]
    rw [hvv]
    clear HK HS hv
    rcases i0 with i0 | i0
    · go_enter Try.func58, Try.ntmps58
      go_wp2_with fail
      go_ret
      rw [hE.out, ← HV.out]
      exact ⟨rfl, fin.out _ (Below.refl _ _) hT.out⟩
    · have i2 : ¬ n < 1 := by omega
      go_enter Try.func58, Try.ntmps58
      go_wp2_with fail
      go_ret
      rw [hE.out, ← HV.out]
      exact ⟨rfl, fin.out _ (Below.refl _ _) hT.out⟩
  · obtain ⟨m, rfl⟩ : ∃ m : Nat, n = m := ⟨n.toNat, by omega⟩
    have i1 : ¬ (m : Int) < 1 := by omega
    have i2 : ¬ (4096 : Int) < (m : Int) := by omega
    by_cases h2 : (m : Int) ≤ p.c
    · have hE : Hid (iputE p m = 92) := by show _ = _; rw [iputE, if_neg i0, if_pos (.inl h2)]
      have hT : Hid (iputS p m vv = p) := by show _ = _; rw [iputS, if_neg (by rw [hE.out]; omega)]
      rw [hvv]
      clear HK HS hv i0
      go_enter Try.func58, Try.ntmps58
      go_wp2_with fail
      go_ret
      rw [hE.out, ← HV.out]
      exact ⟨rfl, fin.out _ (Below.refl _ _) hT.out⟩
    have CH : Hid (Calls Try.prog 81 #[.pointer (some ⟨x, 0, none⟩), .int .i64 m] W1 fun e w' => e = .returned (.bool (hasK p.H m)) ∧ RowKit.Below W1.heap.size W1 w') := q_holds x b m p W1 HK.out hv (by omega)
    have HW : Hid (∀ w2, RowKit.Below W1.heap.size W1 w2 → w2.cell? ⟨x, 0, none⟩ = some (.int .i64 p.R) ∧ w2.cell? ⟨x, 1, none⟩ = some (.int .i64 p.c) ∧ w2.cell? ⟨x, 2, none⟩ = some (.map (some b)) ∧ w2.heap[w.heap.size]? = some (.cells #[.int .i64 y1, .int .i64 y2, .int .u8 y3, .int .i64 y4, .int .i64 y5] 94 (0, 0)) ∧ IK 106 w2 x b p) := by
      intro w2 hw2
      have hK2 := HK.out.below hw2
      have d0 := cell_row hK2.box 0
      have d1 := cell_row hK2.box 1
      have d2 := cell_row hK2.box 2
      simp at d0 d1 d2
      exact ⟨d0, d1, d2, (hw2.block _ (block_lt HB.out.2)).trans HB.out.2, hK2⟩
    cases hh : hasK p.H m
    · by_cases h3 : (p.c : Int) + p.R < m
      · have hE : Hid (iputE p m = 93) := by show _ = _; rw [iputE, if_neg i0, if_neg (by simp [hh]; omega), if_pos h3]
        have hT : Hid (iputS p m vv = p) := by show _ = _; rw [iputS, if_neg (by rw [hE.out]; omega)]
        have hw : IntKind.i64.wrap ((p.c : Int) + p.R) = (p.c : Int) + p.R := by rw [IntKind.wrap_i64]; omega
        rw [hvv]
        clear HK HS hv i0
        go_enter Try.func58, Try.ntmps58
        go_wp2_with fail
        refine CH.out.mono ?_
        rintro e w2 ⟨rfl, hw2⟩
        obtain ⟨d0, d1, d2, d3, -⟩ := HW.out w2 hw2
        rw [hh]
        have HW2 := hd hw2
        clear HW CH hh hw2 d3 c0 c1 c2
        go_wp2_with fail
        go_quiet (fail)
        go_wp2_with fail
        go_ret
        rw [hE.out, ← HV.out]
        exact ⟨rfl, fin.out _ (HW2.out.trans ((below_drewN (Below.refl w2.heap.size w2) _).mono HW2.out.size)) hT.out⟩
      · have hE : Hid (iputE p m = 0) := by show _ = _; rw [iputE, if_neg i0, if_neg (by simp [hh]; omega), if_neg h3]
        have hT : Hid (iputS p m vv = { p with H := p.H ++ [(m, vv)] }) := by show _ = _; rw [iputS, if_pos hE.out, Int.toNat_natCast]
        have hw : IntKind.i64.wrap ((p.c : Int) + p.R) = (p.c : Int) + p.R := by rw [IntKind.wrap_i64]; omega
        have CU : Hid (∀ u, RowKit.Below W1.heap.size W1 u → ∃ w', (Instr.mapUpdate 104 (.map (some b)) (.int .i64 (m : Int)) vv).run Try.prog u = .ok () w' ∧ INow 106 w w' x (iputS p m vv) S) := by
          intro u hu
          have hKu := HK.out.below hu
          have hl := HK.out.ok.len
          obtain ⟨w', q1, q2, q3⟩ := hKu.mp.add Try.underlying104 (k := m) (v := vv) (by omega) (by omega) (hasK_false hh)
          have hF : Fr S W1 w' := (Fr.of_below hu).next q3 (fun k _ hk => by rw [hk]; exact HS.out.2)
          have hbx := q3.keeps hKu.box hKu.ne
          refine ⟨w', q1, INow.after ⟨⟨b, ⟨?_, ?_, iputS_ok HK.out.ok _ _⟩, HS.out.1, HS.out.2, fun k hk => Nat.lt_of_lt_of_le (H1.out.old k hk) hF.size⟩, hF⟩ HB.out.1⟩
          · rw [hT.out]; exact hbx
          · rw [hT.out]; exact q2
        rw [hvv] at CU ⊢
        clear HK HS hv i0
        go_enter Try.func58, Try.ntmps58
        go_wp2_with fail
        refine CH.out.mono ?_
        rintro e w2 ⟨rfl, hw2⟩
        obtain ⟨d0, d1, d2, d3, -⟩ := HW.out w2 hw2
        have e0 := cell_row d3 0
        have e1 := cell_row d3 1
        have e2 := cell_row d3 2
        have e3 := cell_row d3 3
        have e4 := cell_row d3 4
        simp at e0 e1 e2 e3 e4
        rw [hh]
        have HW2 := hd hw2
        clear HW CH hh hw2 d3 c0 c1 c2
        go_wp2_with fail
        go_quiet (fail)
        have CU2 : Hid (∀ u, RowKit.Below w2.heap.size w2 u → ∃ w', (Instr.mapUpdate 104 (.map (some b)) (.int .i64 (m : Int)) (.agg #[.int .i64 y1, .int .i64 y2, .int .u8 y3, .int .i64 y4, .int .i64 y5])).run Try.prog u = .ok () w' ∧ INow 106 w w' x (iputS p m (.agg #[.int .i64 y1, .int .i64 y2, .int .u8 y3, .int .i64 y4, .int .i64 y5])) S) := fun u hu => CU.out u (HW2.out.trans (hu.mono HW2.out.size))
        obtain ⟨w4, hup, hN⟩ := CU2.out (w2.drewN (nq + 1)) (below_drewN (Below.refl w2.heap.size w2) _)
        have Z := hd hN
        clear hN CU CU2
        go_wp2_with fail
        go_region_law fail
        all_goals
          go_wp2_with fail
          go_ret
          rw [hE.out]
          exact ⟨rfl, Z.out⟩
    · have hE : Hid (iputE p m = 92) := by show _ = _; rw [iputE, if_neg i0, if_pos (.inr (by simpa using hh))]
      have hT : Hid (iputS p m vv = p) := by show _ = _; rw [iputS, if_neg (by rw [hE.out]; omega)]
      rw [hvv]
      clear HK HS hv i0
      go_enter Try.func58, Try.ntmps58
      go_wp2_with fail
      refine CH.out.mono ?_
      rintro e w2 ⟨rfl, hw2⟩
      rw [hh]
      have HW2 := hd hw2
      clear HW CH hh hw2
      go_wp2_with fail
      go_ret
      rw [hE.out, ← HV.out]
      exact ⟨rfl, fin.out _ HW2.out hT.out⟩

end Go.Proofs.Ytpjnhjijipcjkaa
