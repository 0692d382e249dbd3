/-
  SpaceWhole: the walk.
-/
import Derived.Test.YtmbnimlibnheeabDoorWl
namespace Go.Proofs.YtmbnimlibnheeabDoor
open Go.RowKit Go.Lib
set_option linter.unusedVariables false

set_option maxRecDepth 100000 in
set_option maxHeartbeats 16000000 in
theorem spaceWhole_any (x0 : Int) (a : Option Addr) (n c : Nat) (X0 : Nat → AV) (w : World) (hT : Table w) (hX : IsAc w a n c X0) (hK : OkA X0) :
    Calls Tryd.prog 3 #[.int .i64 x0, .slice a n c] w fun e w' => e = .returned (.bool true) ∧ Below w.heap.size w w' := by
  have hc1 := hX.1
  have hc2 := hX.2.1
  have HX := hd hX
  have HT := hd hT
  have HK := hd hK
  have CB : Hid (∀ W, Calls Tryd.prog 6 #[.int .i64 x0] W fun e w' => ∃ a n c β, e = .returned (.slice a n c) ∧ Hid (SE w' β (.slice a n c) (bgP (inN x0 40)) ∧ (∀ g, β = some g → W.heap.size ≤ g) ∧ Below W.heap.size W w')) := fun W => (begun_any x0 W).mono (by
    rintro e w' ⟨u, β, rfl, h1, h2, h3⟩
    obtain ⟨a, c, rfl, -⟩ := h1.form
    exact ⟨_, _, _, β, rfl, h1, h2, h3⟩)
  clear hX hT hK
  go_enter Tryd.func3, Tryd.ntmps3
  go_wp2_with fail
  refine (sides_any x0 _).mono ?_
  rintro e w1 ⟨x, y, rfl, h1⟩
  obtain ⟨T1, T2, A1, A2, -⟩ := h1.out
  obtain ⟨z1, _, _, _, _, _, _, _, _, k1, -⟩ := A1
  obtain ⟨z2, _, _, _, _, _, _, _, _, k2, -⟩ := A2
  have e1 : w1.cell? ⟨x, 1, none⟩ = some (.pointer (some ⟨z1, 0, none⟩)) := by rw [cell_row k1.box]; rfl
  have e2 : w1.cell? ⟨y, 1, none⟩ = some (.pointer (some ⟨z2, 0, none⟩)) := by rw [cell_row k2.box]; rfl
  have xl := block_lt k1.box
  have yl := block_lt k2.box
  clear k1 k2
  go_wp2_with fail
  refine (CB.out _).mono ?_
  rintro e w2 ⟨ai, ni, ci, βi, rfl, h2⟩
  clear e1 e2 xl yl
  go_wp2_with fail
  refine (CB.out _).mono ?_
  rintro e w3 ⟨a0, n0, c0, β0, rfl, h3⟩
  have S0 := hd (start_ls (Nat.le_of_lt (in_lt x0)) h1.out h2.out.1 h2.out.2.1 h2.out.2.2 h3.out.1 h3.out.2.1 h3.out.2.2)
  generalize (bgP (inN x0 40)).length = N at S0
  clear h1 h2 h3 CB
  go_wp2_with fail
  obtain ⟨vi0, hvi0⟩ : ∃ v, v = Value.slice ai ni ci := ⟨_, rfl⟩
  simp only [← hvi0] at S0 ⊢
  clear hvi0
  go_loopw [7, 8, 9] (fun vi vx i wr => ∃ k : Nat, k ≤ n ∧ k ≤ 100 ∧ i = .int .i64 k ∧ Hid (∃ s t K Gs Gt Ins X vs βs vt βt L βi bx, LS w wr x y s t N k K Gs Gt Ins X vs βs vt βt vi vx L βi bx ∧ put1 L = Ins ∧ L.length ≤ 40 + k ∧ X.length ≤ 1 + 2 * k)) (fun _ _ i _ => 100 - (intOf i).toNat)
  case atStart => exact ⟨0, Nat.zero_le _, by omega, rfl, S0⟩
  case round =>
    obtain ⟨k, hk, hk2, rfl, H⟩ := hrel
    clear S0
    by_cases hlt : k < n
    · by_cases hlt2 : k < 100
      · obtain ⟨s, t, K, Gs, Gt, Ins, X, vs, βs, vt, βt, L, βi', bx, H1'⟩ := H.out
        have H1 := hd H1'
        clear H
        obtain ⟨bA, oA, rfl, hbA, hcA⟩ := HX.out.2.2 (by omega)
        have FW : Fr (fun _ => False) w wr := Fr.of_below H1'.1.ww.bel
        obtain ⟨c0, c1, c2, c3, c4⟩ := hcA k hlt
        have c0 := (FW.cell (p := ⟨bA, oA + k * 5, none⟩) hbA (fun h => h)).trans c0
        have c1 := (FW.cell (p := ⟨bA, oA + k * 5 + 1, none⟩) hbA (fun h => h)).trans c1
        have c2 := (FW.cell (p := ⟨bA, oA + k * 5 + 2, none⟩) hbA (fun h => h)).trans c2
        have c3 := (FW.cell (p := ⟨bA, oA + k * 5 + 3, none⟩) hbA (fun h => h)).trans c3
        have c4 := (FW.cell (p := ⟨bA, oA + k * 5 + 4, none⟩) hbA (fun h => h)).trans c4
        have hk5 := HK.out k
        generalize X0 k = ac at *
        obtain ⟨kd, nop, out, na, ch⟩ := ac
        simp only at c0 c1 c2 c3 c4 hk5
        have bl : bA < wr.heap.size := by have := H1'.1.ww.bel.size; omega
        have i1 : (k : Int) < (n : Int) := by omega
        have i2 : (k : Int) < 100 := by omega
        have CA := hd (act_w H1'.1.ww (by omega) HT.out kd na ch nop out hk5.1 hk5.2)
        obtain ⟨z1, af, cf, vf, βf, -, -, f4, -, fl, -⟩ := H1'.1.ww.see
        obtain ⟨z2, ag, cg, vg, βg, -, -, g4, -, gl, -⟩ := H1'.1.ww.swap.see
        obtain ⟨l1, hl1⟩ : ∃ l, l = s.way.length := ⟨_, rfl⟩
        obtain ⟨l2, hl2⟩ : ∃ l, l = t.way.length := ⟨_, rfl⟩
        rw [← hl1] at f4
        rw [← hl2] at g4
        have HL := hd (And.intro hl1 hl2)
        clear FW hcA hk5 H1' hl1 hl2
        go_wp2_with fail
        refine CA.out.mono ?_
        rintro e w2 ⟨rfl, h2⟩
        clear c0 c1 c2 c3 c4 CA bl f4 g4 fl gl i1 i2
        obtain ⟨s2, t2, K2, Gs2, Gt2, Ins2, vs2, βs2, vt2, βt2, hw2, hk2a, hk2b, hcase⟩ := h2.out
        have h1 := H1.out.1.act hw2 hk2a hk2b
        have H2L := hd H1.out.2
        clear h2 H1 hw2 hk2a hk2b
        rcases hcase with ⟨o, pc, hv, hpo, hw, hl, hIns⟩ | ⟨o, pc, hv, hpo, hw, hl, hIns⟩ | ⟨hl1, hl2, hIns⟩
        · obtain ⟨z1, af, cf, vf, βf, f0, f1, f4, f6, fl, -, -, fc1, fc2, fW⟩ := h1.ww.see
          obtain ⟨z2, ag, cg, vg, βg, g0, g1, g4, g6, gl, -, -, gc1, gc2, gW⟩ := h1.ww.swap.see
          rw [hw] at f4
          simp only [List.length_append, List.length_cons, List.length_nil, Nat.zero_add] at f4
          rw [hl] at g4
          obtain ⟨gw, ow, haw, hgl, pc', hpc, hcl⟩ := fW l1 (by rw [hw, HL.out.1]; simp)
          subst haw
          obtain rfl : pc' = pc := by
            rw [hw, HL.out.1] at hpc
            simpa using hpc.symm
          rw [← HL.out.1] at f4
          rw [← HL.out.2] at g4
          have d2 := hcl 2 _ rfl
          have d3 := hcl 3 _ rfl
          have d4 := hcl 4 _ rfl
          have d5 := hcl 5 _ rfl
          have d6 := hcl 6 _ rfl
          rw [hpo] at d2 d3 d4 d5 d6
          obtain ⟨ok, op, oc, ol, oq⟩ := o
          simp only [] at d2 d3 d4 d5 d6
          have HA := hd h1
          have HLT : Hid (t2.way.length = l2) := hl.trans HL.out.2.symm
          have HI := hd (And.intro hv (And.intro hIns H2L.out))
          have LL : Hid (L.length ≤ 4096) := by have := H2L.out.2.1; show _ ≤ _; omega
          have hcw : l1 + 1 ≤ cf := by
            have := fc1
            rw [hw, List.length_append, ← HL.out.1] at this
            simpa using this
          have fc2' := fc2
          have j1 : (l1 : Int) < ((l1 + 1 : Nat) : Int) := by omega
          have j2 : (l1 : Int) < (l1 : Int) + 1 := by omega
          have j3 : ¬ (l2 : Int) < (l2 : Int) := by omega
          have i0 : (0 : Int) ≤ (l1 : Int) := by omega
          clear fW gW hcl hpc hpo hw hl hv hIns h1 fc1 gc1 gc2 f0 f1 f6 g0 g1 g6
          go_wp2_with (at_builtin; refine wpList_ins _ rfl (.tmp 83) (.tmp 91) rfl (el := (oc, ol, oq)) rfl rfl HA.out (by repeat (first | exact Below.refl _ _ | refine Below.alloc ?_ (by simp) _ | refine Below.setCell ?_ (by simp) _)) (by rw [show w2.heap.size + 1 = (w2.alloc (.cells #[.int .i64 ok, .int .i64 op, .int .u8 oc, .int .i64 ol, .int .i64 oq] 37)).heap.size from by simp]; exact heap_alloc_new _ _) LL.out ?_; intro v3 w3 h3; obtain ⟨K3, β3, h3⟩ := h3; obtain ⟨z3, a3, c3, v3', β3', -, -, k4, -, kl, -⟩ := h3.ww.swap.see; rw [HLT.out] at k4)
          have H2 : Hid (LS w w3 x y s2 t2 N (k + 1) K3 Gs2 Gt2 Ins2 X vs2 βs2 vt2 βt2 v3 u8 (L ++ [(oc, ol, oq)]) β3 bx ∧ put1 (L ++ [(oc, ol, oq)]) = Ins2 ∧ (L ++ [(oc, ol, oq)]).length ≤ 40 + (k + 1) ∧ X.length ≤ 1 + 2 * k) := ⟨h3, by rw [HI.out.2.1, ← HI.out.2.2.1]; exact put_add HI.out.1 L, by have := HI.out.2.2.2.1; simp; omega, HI.out.2.2.2.2⟩
          clear d2 d3 d4 d5 d6 f4 g4 fl gl hgl HA HI LL hcw h3
          go_upto_region 19 with fail
          refine wh19 _ _ H2.out.1 (by have := H2.out.2.2.2; omega) rfl rfl rfl (by simp) ?_
          intro V u v' hV hP
          have Z : Hid (∃ s t K Gs Gt Ins X vs βs vt βt L βi bx, LS w u x y s t N (k + 1) K Gs Gt Ins X vs βs vt βt v3 v' L βi bx ∧ put1 L = Ins ∧ L.length ≤ 40 + (k + 1) ∧ X.length ≤ 1 + 2 * (k + 1)) := by
            obtain ⟨K', g', h'⟩ := hP
            exact ⟨_, _, _, _, _, _, _, _, _, _, _, _, _, _, h', H2.out.2.1, by have := H2.out.2.2.1; omega, by have := H2.out.2.2.2; simp; omega⟩
          clear hP H2
          simp only [slwh19, List.getD_cons_zero, List.getD_cons_succ, List.range, List.range.loop, List.map_cons, List.map_nil, puts, List.foldl_cons, List.foldl_nil, Act.put, List.setIfInBounds_toArray, List.set_cons_succ, List.set_cons_zero]
          rw [hV]
          clear hV
          go_wp2_with fail
          exact ⟨⟨k + 1, by omega, by omega, by go_num, Z⟩, by simp [intOf]; omega⟩
        · obtain ⟨z1, af, cf, vf, βf, f0, f1, f4, f6, fl, -, -, fc1, fc2, fW⟩ := h1.ww.see
          obtain ⟨z2, ag, cg, vg, βg, g0, g1, g4, g6, gl, -, -, gc1, gc2, gW⟩ := h1.ww.swap.see
          rw [hw] at g4
          simp only [List.length_append, List.length_cons, List.length_nil, Nat.zero_add] at g4
          rw [hl] at f4
          obtain ⟨gw, ow, haw, hgl, pc', hpc, hcl⟩ := gW l2 (by rw [hw, HL.out.2]; simp)
          subst haw
          obtain rfl : pc' = pc := by
            rw [hw, HL.out.2] at hpc
            simpa using hpc.symm
          rw [← HL.out.1] at f4
          rw [← HL.out.2] at g4
          have d2 := hcl 2 _ rfl
          have d3 := hcl 3 _ rfl
          have d4 := hcl 4 _ rfl
          have d5 := hcl 5 _ rfl
          have d6 := hcl 6 _ rfl
          rw [hpo] at d2 d3 d4 d5 d6
          obtain ⟨ok, op, oc, ol, oq⟩ := o
          simp only [] at d2 d3 d4 d5 d6
          have HA := hd h1
          have HI := hd (And.intro hv (And.intro hIns H2L.out))
          have LL : Hid (L.length ≤ 4096) := by have := H2L.out.2.1; show _ ≤ _; omega
          have hcw : l2 + 1 ≤ cg := by
            have := gc1
            rw [hw, List.length_append, ← HL.out.2] at this
            simpa using this
          have gc2' := gc2
          have j1 : (l2 : Int) < ((l2 + 1 : Nat) : Int) := by omega
          have j2 : (l2 : Int) < (l2 : Int) + 1 := by omega
          have j3 : ¬ (l1 : Int) < (l1 : Int) := by omega
          have i0 : (0 : Int) ≤ (l2 : Int) := by omega
          clear gW fW hcl hpc hpo hw hl hv hIns h1 gc1 fc1 fc2 f0 f1 f6 g0 g1 g6
          go_wp2_with (at_builtin; refine wpList_ins _ rfl (.tmp 108) (.tmp 116) rfl (el := (oc, ol, oq)) rfl rfl HA.out (by repeat (first | exact Below.refl _ _ | refine Below.alloc ?_ (by simp) _ | refine Below.setCell ?_ (by simp) _)) (by rw [show w2.heap.size + 1 = (w2.alloc (.cells #[.int .i64 ok, .int .i64 op, .int .u8 oc, .int .i64 ol, .int .i64 oq] 37)).heap.size from by simp]; exact heap_alloc_new _ _) LL.out ?_; intro v3 w3 h3; obtain ⟨K3, β3, h3⟩ := h3)
          have H2 : Hid (LS w w3 x y s2 t2 N (k + 1) K3 Gs2 Gt2 Ins2 X vs2 βs2 vt2 βt2 v3 u8 (L ++ [(oc, ol, oq)]) β3 bx ∧ put1 (L ++ [(oc, ol, oq)]) = Ins2 ∧ (L ++ [(oc, ol, oq)]).length ≤ 40 + (k + 1) ∧ X.length ≤ 1 + 2 * k) := ⟨h3, by rw [HI.out.2.1, ← HI.out.2.2.1]; exact put_add HI.out.1 L, by have := HI.out.2.2.2.1; simp; omega, HI.out.2.2.2.2⟩
          clear d2 d3 d4 d5 d6 f4 g4 fl gl hgl HA HI LL hcw h3
          go_upto_region 19 with fail
          refine wh19 _ _ H2.out.1 (by have := H2.out.2.2.2; omega) rfl rfl rfl (by simp) ?_
          intro V u v' hV hP
          have Z : Hid (∃ s t K Gs Gt Ins X vs βs vt βt L βi bx, LS w u x y s t N (k + 1) K Gs Gt Ins X vs βs vt βt v3 v' L βi bx ∧ put1 L = Ins ∧ L.length ≤ 40 + (k + 1) ∧ X.length ≤ 1 + 2 * (k + 1)) := by
            obtain ⟨K', g', h'⟩ := hP
            exact ⟨_, _, _, _, _, _, _, _, _, _, _, _, _, _, h', H2.out.2.1, by have := H2.out.2.2.1; omega, by have := H2.out.2.2.2; simp; omega⟩
          clear hP H2
          simp only [slwh19, List.getD_cons_zero, List.getD_cons_succ, List.range, List.range.loop, List.map_cons, List.map_nil, puts, List.foldl_cons, List.foldl_nil, Act.put, List.setIfInBounds_toArray, List.set_cons_succ, List.set_cons_zero]
          rw [hV]
          clear hV
          go_wp2_with fail
          exact ⟨⟨k + 1, by omega, by omega, by go_num, Z⟩, by simp [intOf]; omega⟩
        · have H2 : Hid (LS w w2 x y s2 t2 N (k + 1) K2 Gs2 Gt2 Ins2 X vs2 βs2 vt2 βt2 u7 u8 L βi' bx ∧ put1 L = Ins2 ∧ L.length ≤ 40 + (k + 1) ∧ X.length ≤ 1 + 2 * k) := ⟨h1, by rw [hIns]; exact H2L.out.1, by have := H2L.out.2.1; omega, H2L.out.2.2⟩
          obtain ⟨z1, af, cf, vf, βf, f0, f1, f4, f6, fl, -, -, fc1, fc2, fW⟩ := h1.ww.see
          obtain ⟨z2, ag, cg, vg, βg, g0, g1, g4, g6, gl, -, -, gc1, gc2, gW⟩ := h1.ww.swap.see
          rw [← HL.out.1] at hl1
          rw [← HL.out.2] at hl2
          generalize s2.way.length = m1 at f4 hl1
          generalize t2.way.length = m2 at g4 hl2
          have j1 : ¬ (l1 : Int) < (m1 : Int) := by omega
          have j2 : ¬ (l2 : Int) < (m2 : Int) := by omega
          clear fW gW f0 f1 f6 g0 g1 g6 fc1 fc2 gc1 gc2 hl1 hl2 hIns h1 H2L
          go_upto_region 19 with fail
          refine wh19 _ _ H2.out.1 (by have := H2.out.2.2.2; omega) rfl rfl rfl (by simp) ?_
          intro V u v' hV hP
          have Z : Hid (∃ s t K Gs Gt Ins X vs βs vt βt L βi bx, LS w u x y s t N (k + 1) K Gs Gt Ins X vs βs vt βt u7 v' L βi bx ∧ put1 L = Ins ∧ L.length ≤ 40 + (k + 1) ∧ X.length ≤ 1 + 2 * (k + 1)) := by
            obtain ⟨K', g', h'⟩ := hP
            exact ⟨_, _, _, _, _, _, _, _, _, _, _, _, _, _, h', H2.out.2.1, by have := H2.out.2.2.1; omega, by have := H2.out.2.2.2; simp; omega⟩
          clear hP H2
          simp only [slwh19, List.getD_cons_zero, List.getD_cons_succ, List.range, List.range.loop, List.map_cons, List.map_nil, puts, List.foldl_cons, List.foldl_nil, Act.put, List.setIfInBounds_toArray, List.set_cons_succ, List.set_cons_zero]
          rw [hV]
          clear hV
          go_wp2_with fail
          exact ⟨⟨k + 1, by omega, by omega, by go_num, Z⟩, by simp [intOf]; omega⟩
      · have i1 : (k : Int) < (n : Int) := by omega
        have i2 : ¬ ((k : Int) < 100) := by omega
        obtain rfl : k = 100 := by omega
        have HD : Hid (∃ s t K Gs Gt Ins X vs βs vt βt L βi bx, LS w wr x y s t N 100 K Gs Gt Ins X vs βs vt βt u7 u8 L βi bx ∧ put1 L = Ins) := by
          obtain ⟨s, t, K, Gs, Gt, Ins, X, vs, βs, vt, βt, L, βi', bx, h, hp, -⟩ := H.out
          exact ⟨s, t, K, Gs, Gt, Ins, X, vs, βs, vt, βt, L, βi', bx, { h with ww := h.ww.mono (by omega) }, hp⟩
        clear H
        go_wp2_with fail
        go_loopw [] (fun wr => Hid (∃ s t K Gs Gt Ins X vs βs vt βt L βi bx, LS w wr x y s t N 100 K Gs Gt Ins X vs βs vt βt u7 u8 L βi bx ∧ put1 L = Ins)) (fun wr => lenAt wr x + lenAt wr y)
        case atStart => exact HD
        case round =>
          rename_i K0 hK0
          have HK0 := hd hK0
          clear HD hK0
          obtain ⟨s, t, K, Gs, Gt, Ins, X, vs, βs, vt, βt, L, βi', bx, H1', hput⟩ := hrel.out
          have H1 := hd H1'
          obtain ⟨z1, af, cf, vf, βf, -, -, f4, -, fl, -⟩ := H1'.ww.see
          obtain ⟨z2, ag, cg, vg, βg, -, -, g4, -, gl, -⟩ := H1'.ww.swap.see
          have HM := hd (And.intro (lenAt_of f4) (lenAt_of g4))
          obtain ⟨l1, hl1⟩ : ∃ l, l = s.way.length := ⟨_, rfl⟩
          obtain ⟨l2, hl2⟩ : ∃ l, l = t.way.length := ⟨_, rfl⟩
          rw [← hl1] at f4
          rw [← hl2] at g4
          have HL := hd (And.intro hl1 hl2)
          have HP := hd hput
          clear H1' hl1 hl2 hput hrel
          by_cases dd : l1 = 0 ∧ l2 = 0
          · obtain ⟨rfl, rfl⟩ := dd
            go_wp2_with fail
            refine HK0.out _ _ ?_
            obtain ⟨ai, ci, hvi, -, -⟩ := H1.out.il.form
            obtain ⟨cx, hvx, -⟩ := H1.out.xl
            generalize L.length = nl at hvi
            generalize (X.map (·.v)).length = nx at hvx
            subst hvi hvx
            exact whole_rest ai nl ci nx cx H1.out (List.eq_nil_of_length_eq_zero HL.out.1.symm) (List.eq_nil_of_length_eq_zero HL.out.2.symm) HP.out _ _ _ _ _ _ _ _ _ _ _ _ _ _ _ _ _ _ _ _ _ _ _ _ _ _ _ _ _ _ _ _ _ _ _ _ _ _ _ _ _ _ _ _ _ _ _ _ _ _ _ _ _ _ _ _ _ _ _ _ _ _ _ _ _ _ _ _ _ _ _ _ _ _ _ _ _ _ _ _ _ _ _ _ _ _ _ _ _ _ _ _ _ _ _ _ _ _ _ _ _ _ _ _ _ _ _ _ _ _ _ _ _ _ _ _ _ _ _ _ _ _ _ _ _ _ _ _ _ _ _ _ _ _ _ _ _ _ _ _ _ _ _ _ _ _ _ _ _ _ _ _ _ _ _ _ _ _ _ _ _ _ _ _ _ _ _ _ _ _ _ _ _ _ _ _ _ _ _ _ _ _ _ _ _ _ _ _ _ _ _ _ _ _ _ _ _ _ _ _ _ _ _ _ _ _ _ _ _ _ _ _ _ _ _ _ _ _ _ _ _ _ _ _ _ _ _ _ _ _ _ _ _ _ _ _ _ _ _ _ _ _ _ _ _ _ _ _ _ _ _ _ _ 
          · have CT := hd (tk_w H1.out.ww (by omega) HT.out)
            by_cases d1 : l1 = 0
            · subst d1
              have d2 : (0 : Int) < (l2 : Int) := by omega
              go_wp2_with fail
              refine CT.out.mono ?_
              rintro e w3 ⟨rfl, h3⟩
              obtain ⟨s3, t3, vs3, βs3, K3, W3, m1, m2, q1, q2⟩ := h3.out
              have L3 := hd (H1.out.act W3 q1 q2)
              have CT2 := hd (tk_w W3.swap (by omega) HT.out)
              have HM1 := hd (And.intro m1 m2)
              clear f4 g4 fl gl h3 W3 m1 m2 q1 q2 CT
              go_wp2_with fail
              refine CT2.out.mono ?_
              rintro e w4 ⟨rfl, h4⟩
              obtain ⟨t4, s4, vt4, βt4, K4, W4, m3, m4, q1, q2⟩ := h4.out
              have Z4 : Hid (∃ s t K Gs Gt Ins X vs βs vt βt L βi bx, LS w w4 x y s t N 100 K Gs Gt Ins X vs βs vt βt u7 u8 L βi bx ∧ put1 L = Ins) := ⟨_, _, _, _, _, _, _, _, _, _, _, _, _, _, L3.out.act W4.swap q1 q2, HP.out⟩
              have ZM : Hid (lenAt w4 x + lenAt w4 y < lenAt wr x + lenAt wr y) := by
                obtain ⟨_, _, _, _, _, _, _, k4, _⟩ := W4.see
                obtain ⟨_, _, _, _, _, _, _, j4, _⟩ := W4.swap.see
                have := lenAt_of k4
                have := lenAt_of j4
                have := HM.out
                have := HM1.out
                have := HL.out
                show _ < _
                omega
              clear CT2 h4 HM1 W4 q1 q2 L3 m3 m4
              go_wp2_with fail
              exact ⟨Z4, ZM.out⟩
            · have d1' : (0 : Int) < (l1 : Int) := by omega
              go_wp2_with fail
              refine CT.out.mono ?_
              rintro e w3 ⟨rfl, h3⟩
              obtain ⟨s3, t3, vs3, βs3, K3, W3, m1, m2, q1, q2⟩ := h3.out
              have L3 := hd (H1.out.act W3 q1 q2)
              have CT2 := hd (tk_w W3.swap (by omega) HT.out)
              have HM1 := hd (And.intro m1 m2)
              clear f4 g4 fl gl h3 W3 m1 m2 q1 q2 CT
              go_wp2_with fail
              refine CT2.out.mono ?_
              rintro e w4 ⟨rfl, h4⟩
              obtain ⟨t4, s4, vt4, βt4, K4, W4, m3, m4, q1, q2⟩ := h4.out
              have Z4 : Hid (∃ s t K Gs Gt Ins X vs βs vt βt L βi bx, LS w w4 x y s t N 100 K Gs Gt Ins X vs βs vt βt u7 u8 L βi bx ∧ put1 L = Ins) := ⟨_, _, _, _, _, _, _, _, _, _, _, _, _, _, L3.out.act W4.swap q1 q2, HP.out⟩
              have ZM : Hid (lenAt w4 x + lenAt w4 y < lenAt wr x + lenAt wr y) := by
                obtain ⟨_, _, _, _, _, _, _, k4, _⟩ := W4.see
                obtain ⟨_, _, _, _, _, _, _, j4, _⟩ := W4.swap.see
                have := lenAt_of k4
                have := lenAt_of j4
                have := HM.out
                have := HM1.out
                have := HL.out
                show _ < _
                omega
              clear CT2 h4 HM1 W4 q1 q2 L3 m3 m4
              go_wp2_with fail
              exact ⟨Z4, ZM.out⟩
    · have i1 : ¬ ((k : Int) < (n : Int)) := by omega
      have HD : Hid (∃ s t K Gs Gt Ins X vs βs vt βt L βi bx, LS w wr x y s t N 100 K Gs Gt Ins X vs βs vt βt u7 u8 L βi bx ∧ put1 L = Ins) := by
        obtain ⟨s, t, K, Gs, Gt, Ins, X, vs, βs, vt, βt, L, βi', bx, h, hp, -⟩ := H.out
        exact ⟨s, t, K, Gs, Gt, Ins, X, vs, βs, vt, βt, L, βi', bx, { h with ww := h.ww.mono (by omega) }, hp⟩
      clear H
      go_wp2_with fail
      go_loopw [] (fun wr => Hid (∃ s t K Gs Gt Ins X vs βs vt βt L βi bx, LS w wr x y s t N 100 K Gs Gt Ins X vs βs vt βt u7 u8 L βi bx ∧ put1 L = Ins)) (fun wr => lenAt wr x + lenAt wr y)
      case atStart => exact HD
      case round =>
        rename_i K0 hK0
        have HK0 := hd hK0
        clear HD hK0
        obtain ⟨s, t, K, Gs, Gt, Ins, X, vs, βs, vt, βt, L, βi', bx, H1', hput⟩ := hrel.out
        have H1 := hd H1'
        obtain ⟨z1, af, cf, vf, βf, -, -, f4, -, fl, -⟩ := H1'.ww.see
        obtain ⟨z2, ag, cg, vg, βg, -, -, g4, -, gl, -⟩ := H1'.ww.swap.see
        have HM := hd (And.intro (lenAt_of f4) (lenAt_of g4))
        obtain ⟨l1, hl1⟩ : ∃ l, l = s.way.length := ⟨_, rfl⟩
        obtain ⟨l2, hl2⟩ : ∃ l, l = t.way.length := ⟨_, rfl⟩
        rw [← hl1] at f4
        rw [← hl2] at g4
        have HL := hd (And.intro hl1 hl2)
        have HP := hd hput
        clear H1' hl1 hl2 hput hrel
        by_cases dd : l1 = 0 ∧ l2 = 0
        · obtain ⟨rfl, rfl⟩ := dd
          go_wp2_with fail
          refine HK0.out _ _ ?_
          obtain ⟨ai, ci, hvi, -, -⟩ := H1.out.il.form
          obtain ⟨cx, hvx, -⟩ := H1.out.xl
          generalize L.length = nl at hvi
          generalize (X.map (·.v)).length = nx at hvx
          subst hvi hvx
          exact whole_rest ai nl ci nx cx H1.out (List.eq_nil_of_length_eq_zero HL.out.1.symm) (List.eq_nil_of_length_eq_zero HL.out.2.symm) HP.out _ _ _ _ _ _ _ _ _ _ _ _ _ _ _ _ _ _ _ _ _ _ _ _ _ _ _ _ _ _ _ _ _ _ _ _ _ _ _ _ _ _ _ _ _ _ _ _ _ _ _ _ _ _ _ _ _ _ _ _ _ _ _ _ _ _ _ _ _ _ _ _ _ _ _ _ _ _ _ _ _ _ _ _ _ _ _ _ _ _ _ _ _ _ _ _ _ _ _ _ _ _ _ _ _ _ _ _ _ _ _ _ _ _ _ _ _ _ _ _ _ _ _ _ _ _ _ _ _ _ _ _ _ _ _ _ _ _ _ _ _ _ _ _ _ _ _ _ _ _ _ _ _ _ _ _ _ _ _ _ _ _ _ _ _ _ _ _ _ _ _ _ _ _ _ _ _ _ _ _ _ _ _ _ _ _ _ _ _ _ _ _ _ _ _ _ _ _ _ _ _ _ _ _ _ _ _ _ _ _ _ _ _ _ _ _ _ _ _ _ _ _ _ _ _ _ _ _ _ _ _ _ _ _ _ _ _ _ _ _ _ _ _ _ _ _ _ _ _ _ _ _ _ 
        · have CT := hd (tk_w H1.out.ww (by omega) HT.out)
          by_cases d1 : l1 = 0
          · subst d1
            have d2 : (0 : Int) < (l2 : Int) := by omega
            go_wp2_with fail
            refine CT.out.mono ?_
            rintro e w3 ⟨rfl, h3⟩
            obtain ⟨s3, t3, vs3, βs3, K3, W3, m1, m2, q1, q2⟩ := h3.out
            have L3 := hd (H1.out.act W3 q1 q2)
            have CT2 := hd (tk_w W3.swap (by omega) HT.out)
            have HM1 := hd (And.intro m1 m2)
            clear f4 g4 fl gl h3 W3 m1 m2 q1 q2 CT
            go_wp2_with fail
            refine CT2.out.mono ?_
            rintro e w4 ⟨rfl, h4⟩
            obtain ⟨t4, s4, vt4, βt4, K4, W4, m3, m4, q1, q2⟩ := h4.out
            have Z4 : Hid (∃ s t K Gs Gt Ins X vs βs vt βt L βi bx, LS w w4 x y s t N 100 K Gs Gt Ins X vs βs vt βt u7 u8 L βi bx ∧ put1 L = Ins) := ⟨_, _, _, _, _, _, _, _, _, _, _, _, _, _, L3.out.act W4.swap q1 q2, HP.out⟩
            have ZM : Hid (lenAt w4 x + lenAt w4 y < lenAt wr x + lenAt wr y) := by
              obtain ⟨_, _, _, _, _, _, _, k4, _⟩ := W4.see
              obtain ⟨_, _, _, _, _, _, _, j4, _⟩ := W4.swap.see
              have := lenAt_of k4
              have := lenAt_of j4
              have := HM.out
              have := HM1.out
              have := HL.out
              show _ < _
              omega
            clear CT2 h4 HM1 W4 q1 q2 L3 m3 m4
            go_wp2_with fail
            exact ⟨Z4, ZM.out⟩
          · have d1' : (0 : Int) < (l1 : Int) := by omega
            go_wp2_with fail
            refine CT.out.mono ?_
            rintro e w3 ⟨rfl, h3⟩
            obtain ⟨s3, t3, vs3, βs3, K3, W3, m1, m2, q1, q2⟩ := h3.out
            have L3 := hd (H1.out.act W3 q1 q2)
            have CT2 := hd (tk_w W3.swap (by omega) HT.out)
            have HM1 := hd (And.intro m1 m2)
            clear f4 g4 fl gl h3 W3 m1 m2 q1 q2 CT
            go_wp2_with fail
            refine CT2.out.mono ?_
            rintro e w4 ⟨rfl, h4⟩
            obtain ⟨t4, s4, vt4, βt4, K4, W4, m3, m4, q1, q2⟩ := h4.out
            have Z4 : Hid (∃ s t K Gs Gt Ins X vs βs vt βt L βi bx, LS w w4 x y s t N 100 K Gs Gt Ins X vs βs vt βt u7 u8 L βi bx ∧ put1 L = Ins) := ⟨_, _, _, _, _, _, _, _, _, _, _, _, _, _, L3.out.act W4.swap q1 q2, HP.out⟩
            have ZM : Hid (lenAt w4 x + lenAt w4 y < lenAt wr x + lenAt wr y) := by
              obtain ⟨_, _, _, _, _, _, _, k4, _⟩ := W4.see
              obtain ⟨_, _, _, _, _, _, _, j4, _⟩ := W4.swap.see
              have := lenAt_of k4
              have := lenAt_of j4
              have := HM.out
              have := HM1.out
              have := HL.out
              show _ < _
              omega
            clear CT2 h4 HM1 W4 q1 q2 L3 m3 m4
            go_wp2_with fail
            exact ⟨Z4, ZM.out⟩

end Go.Proofs.YtmbnimlibnheeabDoor
