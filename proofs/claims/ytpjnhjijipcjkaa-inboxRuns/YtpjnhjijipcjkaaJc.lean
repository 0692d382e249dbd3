/-
  The calls of an inbox of numbers: New, Cum, Head, Put, Toss, Pop, Reset.
-/
import Derived.Test.YtpjnhjijipcjkaaJb
import Derived.Deep.RegionHeld3
import Derived.Deep.QuietTactic
import Derived.BigQuiet
namespace Go.Proofs.Ytpjnhjijipcjkaa
open Go.RowKit
set_option linter.unusedVariables false

theorem step_delete_x {ops : Array Oper} {o : Oper} {a : Act} {w : World} {K : Act → World → Prop} {Q : Exit → Act → World → Prop} {E : Prop}
    (hg : o.guard = none) (d x : Operand) (dT sT : TypeId) (hop : o.op = Op.call { callee := Callee.builtin Builtin.delete, args := #[d, x], argTypes := #[dT, sT] })
    (v u : Value) (hd' : a.eval d = v) (hx : a.eval x = u) (R : World → Prop) (hr : ∃ w', (∀ ty, (Builtin.delete_ #[dT, sT] ty #[v, u]).run Try.prog w = .ok (.tuple #[]) w') ∧ R w') (hK : ∀ w', R w' → K (a.put o.dst (.tuple #[])) w') :
    if Region.wanted o (yielded ops a.tmps) = true then Oper.wp Try.prog o a w K Q else E := by
  obtain ⟨w', hr, hR⟩ := hr
  have hw : Region.wanted o (yielded ops a.tmps) = true := by simp [Region.wanted, hg]
  rw [if_pos hw]
  unfold Oper.wp
  simp [execOp, hop, resolve, invoke, builtin, hd', hx, hr, Result.andThen]
  exact hK w' hR

abbrev iz : Value := .int .i64 0
abbrev IOk (v : Value) : Prop := ∃ y : Int, v = .int .i64 y

theorem i_new_bad (R : Int) (w : World) (h : R < 1 ∨ 4096 < R) : Calls Try.prog 11 #[.int .i64 R] w fun e w' => e = .returned (.tuple #[.pointer none, .int .i64 90]) ∧ w' = w := by
  by_cases h1 : R < 1
  · go_enter Try.func11, Try.ntmps11
    go_wp2
    refine bodyPost_ret (v := .tuple #[.pointer none, .int .i64 90]) (by simp [results, Try.results11, go_sem]) rfl ?_
    exact ⟨rfl, rfl⟩
  · have h2 : 4096 < R := by omega
    go_enter Try.func11, Try.ntmps11
    go_wp2
    refine bodyPost_ret (v := .tuple #[.pointer none, .int .i64 90]) (by simp [results, Try.results11, go_sem]) rfl ?_
    exact ⟨rfl, rfl⟩

theorem i_new_good (R : Nat) (w : World) (hR1 : 1 ≤ R) (hR2 : R ≤ 4096) : Calls Try.prog 11 #[.int .i64 R] w fun e w' => ∃ x, e = .returned (.tuple #[.pointer (some ⟨x, 0, none⟩), .int .i64 0]) ∧ ∃ S, InAt 82 w' x ⟨R, 0, []⟩ S ∧ (∀ k, S k → w.heap.size ≤ k) ∧ Below w.heap.size w w' := by
  have h1 : ¬ (R : Int) < 1 := by omega
  have h2 : ¬ (4096 : Int) < R := by omega
  have hmm := @run_makeMap Try.prog
  go_enter Try.func11, Try.ntmps11
  go_wp2
  refine bodyPost_ret (v := .tuple #[.pointer (some ⟨w.heap.size + 1, 0, none⟩), .int .i64 0]) (by simp [results, Try.results11, go_sem]) rfl ?_
  have B1 : Below w.heap.size w (w.alloc (.map #[] 0)) := (Below.refl _ _).alloc (Nat.le_refl _) _
  have B2 : Below (w.alloc (.map #[] 0)).heap.size (w.alloc (.map #[] 0)) ((w.alloc (.map #[] 0)).alloc (.cells #[.int .i64 R, .int .i64 0, .map (some w.heap.size)] 82)) := (Below.refl _ _).alloc (Nat.le_refl _) _
  refine ⟨_, rfl, fun k => k = w.heap.size ∨ k = w.heap.size + 1, ⟨w.heap.size, ⟨?_, (MP.made w).fr (S := fun _ => False) (Fr.of_below B2) (fun h => h), ⟨hR1, hR2, by simp, by simp, by simp⟩⟩, .inr rfl, .inl rfl, ?_⟩, ?_, ?_⟩
  · have := heap_alloc_new (w.alloc (.map #[] 0)) (.cells #[.int .i64 R, .int .i64 0, .map (some w.heap.size)] 82)
    rw [World.size_alloc] at this
    exact this
  · rintro k (rfl | rfl) <;> simp <;> omega
  · rintro k (rfl | rfl) <;> omega
  · exact B1.trans (B2.mono (by simp))

theorem i_cum (x b : Nat) (p : Ib) (w : World) (h : IK 82 w x b p) :
    Calls Try.prog 17 #[.pointer (some ⟨x, 0, none⟩)] w fun e w' => e = .returned (.int .i64 p.c) ∧ w' = w := by
  have c1 := cell_row h.box 1
  simp at c1
  clear h
  go_enter Try.func17, Try.ntmps17
  go_wp2
  go_ret
  exact ⟨rfl, rfl⟩

theorem i_next (x b : Nat) (p : Ib) (w : World) (h : IK 82 w x b p) :
    Calls Try.prog 37 #[.pointer (some ⟨x, 0, none⟩)] w fun e w' => e = .returned (.int .i64 ((p.c : Int) + 1)) ∧ w' = w := by
  have c1 := cell_row h.box 1
  have hc := h.ok.c2
  simp at c1
  generalize p.c = c at c1 hc
  clear h
  go_enter Try.func37, Try.ntmps37
  go_wp2
  go_ret
  exact ⟨by go_num, rfl⟩

theorem i_holds (x b k : Nat) (p : Ib) (w : World) (h : IK 82 w x b p) (hk : k ≤ 9223372036854775807) :
    Calls Try.prog 36 #[.pointer (some ⟨x, 0, none⟩), .int .i64 k] w fun e w' => e = .returned (.bool (hasK p.H k)) ∧ w' = w := by
  have c2 := cell_row h.box 2
  simp at c2
  cases hh : hasK p.H k
  · have hl := h.mp.none Try.underlying80 Try.zeroValue3 hk (hasK_false hh)
    clear h
    go_enter Try.func36, Try.ntmps36
    go_wp2
    go_ret
    exact ⟨rfl, rfl⟩
  · obtain ⟨v, hv⟩ := hasK_true hh
    have hl := h.mp.look Try.underlying80 Try.zeroValue3 hv
    clear h
    go_enter Try.func36, Try.ntmps36
    go_wp2
    go_ret
    exact ⟨rfl, rfl⟩

set_option maxHeartbeats 1000000 in
theorem i_head (x b : Nat) (p : Ib) (w : World) (h : IK 82 w x b p) (hv : ∀ q ∈ p.H, IOk q.2) :
    Calls Try.prog 15 #[.pointer (some ⟨x, 0, none⟩)] w fun e w' => e = .returned (.tuple #[atK p.H (p.c + 1) iz, .bool p.hd]) ∧ ∃ z, w' = w.drewN z := by
  have c2 := cell_row h.box 2
  simp at c2
  have hc := h.ok.c2
  have CQ : Hid (∀ q, Calls Try.prog 37 #[.pointer (some ⟨x, 0, none⟩)] (w.drewN q) fun e w' => e = .returned (.int .i64 ((p.c : Int) + 1)) ∧ ∃ z, w' = w.drewN z) := fun q => by
    refine (i_next x b p _ (h.fr (Fr.drewN (fun _ => False) w q) (fun h => h) (fun h => h))).mono ?_
    rintro e w' ⟨rfl, rfl⟩
    exact ⟨rfl, q, rfl⟩
  have HM := hd h.mp
  unfold Ib.hd
  generalize p.c = c at CQ hc ⊢
  generalize p.H = H at HM hv ⊢
  clear h
  cases hh : hasK H (c + 1)
  · have hl0 : ∀ q, (Instr.lookup 80 (.map (some b)) (.int .i64 ((c : Int) + 1)) true).run Try.prog (w.drewN q) = .ok (.tuple #[iz, .bool false]) (w.drewN q) := fun q => by
      have := (HM.out.fr (Fr.drewN (fun _ => False) w q) (fun h => h)).none Try.underlying80 Try.zeroValue3 (k := c + 1) (by omega) (hasK_false hh)
      rwa [Int.natCast_add, Int.natCast_one] at this
    rw [atK_none hh]
    clear hv HM
    go_enter Try.func15, Try.ntmps15
    go_wp2_with fail
    go_quiet (first | (go_at_call 37; exact CQ.out _))
    go_wp2_with fail
    refine bodyPost_ret (v := .tuple #[iz, .bool false]) (by simp [results, Try.results15, go_sem]) rfl ?_
    exact ⟨rfl, _, rfl⟩
  · have hm := atK_mem (z := iz) hh
    obtain ⟨y, hy⟩ := hv _ hm
    simp only at hy
    have hl0 : ∀ q, (Instr.lookup 80 (.map (some b)) (.int .i64 ((c : Int) + 1)) true).run Try.prog (w.drewN q) = .ok (.tuple #[.int .i64 y, .bool true]) (w.drewN q) := fun q => by
      have := (HM.out.fr (Fr.drewN (fun _ => False) w q) (fun h => h)).look Try.underlying80 Try.zeroValue3 hm
      rwa [hy, Int.natCast_add, Int.natCast_one] at this
    rw [hy]
    clear hv HM hm hy
    go_enter Try.func15, Try.ntmps15
    go_wp2_with fail
    go_quiet (first | (go_at_call 37; exact CQ.out _))
    go_wp2_with fail
    refine bodyPost_ret (v := .tuple #[.int .i64 y, .bool true]) (by simp [results, Try.results15, go_sem]) rfl ?_
    exact ⟨rfl, _, rfl⟩

set_option maxHeartbeats 1000000 in
theorem i_toss (x : Nat) (p : Ib) (S : Nat → Prop) (w : World) (h : InAt 82 w x p S) :
    Calls Try.prog 38 #[.pointer (some ⟨x, 0, none⟩)] w fun e w' => e = .returned (.int .i64 (itossE p)) ∧ INow 82 w w' x (itossS p) S := by
  have H0 := hd h
  obtain ⟨b, hK, hSx, hSb, hS⟩ := h
  have c2 := cell_row hK.box 2
  simp at c2
  have hc := hK.ok.c2
  have HK := hd hK
  have HS := hd (And.intro hSx hSb)
  clear hSx hSb hS
  go_enter Try.func38, Try.ntmps38
  go_wp2_with fail
  refine (i_next x b p w HK.out).mono ?_
  rintro e w1 ⟨rfl, rfl⟩
  go_wp2_with fail
  rw [show ((p.c : Int) + 1) = ((p.c + 1 : Nat) : Int) by omega]
  refine (i_holds x b (p.c + 1) p w1 HK.out (by omega)).mono ?_
  rintro e w2 ⟨rfl, rfl⟩
  cases hh : hasK p.H (p.c + 1)
  · have hE : Hid (itossE p = 94) := by show _ = _; rw [itossE, if_neg (by unfold Ib.hd; rw [hh]; simp)]
    have hT : Hid (itossS p = p) := by show _ = _; unfold itossS; rw [cutK_none hh]
    clear hK HK HS
    go_wp2_with fail
    go_ret
    rw [hE.out, hT.out]
    exact ⟨rfl, H0.out.now (Below.refl _ _)⟩
  · have hE : Hid (itossE p = 0) := by show _ = _; rw [itossE, if_pos (by unfold Ib.hd; rw [hh])]
    obtain ⟨L1, v, L2, hH, hC, hn⟩ := cutK_split hK.ok.once hh
    have CQ : Hid (∀ u, Fr (fun _ => False) w2 u → Calls Try.prog 37 #[.pointer (some ⟨x, 0, none⟩)] u fun e w' => e = .returned (.int .i64 ((p.c : Int) + 1)) ∧ w' = u) := fun u hu =>
      i_next x b p u (HK.out.fr hu (fun h => h) (fun h => h))
    have CD : Hid (∀ u, Fr (fun _ => False) w2 u → ∃ w', (∀ ty, (Builtin.delete_ #[80, 3] ty #[.map (some b), .int .i64 ((p.c : Int) + 1)]).run Try.prog u = .ok (.tuple #[]) w') ∧ INow 82 w2 w' x (itossS p) S) := by
      intro u hu
      have hm := HK.out.mp.fr hu (fun h => h)
      rw [hH] at hm
      obtain ⟨w', h1, h2, h3⟩ := hm.del Try.underlying80 hn
      rw [Int.natCast_add, Int.natCast_one] at h1
      have hF : Fr S w2 w' := (hu.mono (fun _ _ h => h.elim)).next h3 (fun k _ hk => by rw [hk]; exact HS.out.2)
      have hbx := h3.keeps (hu.keeps HK.out.box (fun h => h)) HK.out.ne
      refine ⟨w', h1, ⟨b, ⟨hbx, ?_, itossS_ok HK.out.ok⟩, HS.out.1, HS.out.2, fun k hk => Nat.lt_of_lt_of_le (H0.out.old k hk) hF.size⟩, hF⟩
      show MP w' b (cutK p.H (p.c + 1))
      rw [hC]
      exact h2
    clear hK HK HS hH hC hn hh
    go_wp2_with fail
    go_region_law (first | (go_simp; go_at_call 37; refine (CQ.out _ (by repeat (first | exact Fr.refl _ _ | refine Fr.trans ?_ (Fr.drew _ _) | refine Fr.trans ?_ (Fr.drewN _ _ _)))).mono ?_; rintro ex w3 ⟨rfl, rfl⟩) | (refine step_delete_x rfl (.tmp 11) (.tmp 13) 80 3 rfl (.map (some b)) (.int .i64 ((p.c : Int) + 1)) (by simp [Act.eval]) (by simp [Act.eval]) _ (CD.out _ (by repeat (first | exact Fr.refl _ _ | refine Fr.trans ?_ (Fr.drew _ _) | refine Fr.trans ?_ (Fr.drewN _ _ _)))) ?_; intro w4 hN; have Z := hd hN; clear hN))
    all_goals
      go_wp2_with fail
      go_ret
      rw [hE.out]
      exact ⟨rfl, Z.out⟩

theorem ipop_toss {p : Ib} (h : p.hd = true) : ipopS p = { itossS p with c := p.c + 1 } := by
  rw [ipopS, if_pos h]
  rfl

set_option maxHeartbeats 1000000 in
theorem i_pop (x : Nat) (p : Ib) (S : Nat → Prop) (w : World) (h : InAt 82 w x p S) :
    Calls Try.prog 16 #[.pointer (some ⟨x, 0, none⟩)] w fun e w' => e = .returned (.int .i64 (itossE p)) ∧ INow 82 w w' x (ipopS p) S := by
  have HO := hd h.ok
  have H0 := hd h
  have hc := h.ok.c2
  clear h
  go_enter Try.func16, Try.ntmps16
  go_wp2_with fail
  refine (i_toss x p S w H0.out).mono ?_
  rintro e w1 ⟨rfl, h1⟩
  cases hh : p.hd
  · have hE : itossE p = 94 := by rw [itossE, if_neg (by rw [hh]; simp)]
    have hT : Hid (ipopS p = p) := by show _ = _; rw [ipopS, if_neg (by rw [hh]; simp)]
    have hS : itossS p = p := by unfold itossS; rw [cutK_none hh]
    rw [hS] at h1
    have Z := hd h1
    have QE := hd hE
    rw [hE]
    clear h1 hE hS
    go_wp2_with fail
    go_ret
    rw [hT.out, QE.out]
    exact ⟨rfl, Z.out⟩
  · have hE : itossE p = 0 := by rw [itossE, if_pos hh]
    obtain ⟨⟨b, hK, hSx, hSb, hS⟩, hF⟩ := h1
    have c1 := cell_row hK.box 1
    have f1 := frozen_row hK.box 1
    simp at c1
    have Z : Hid (INow 82 w (w1.setCell ⟨x, 1, none⟩ (.int .i64 ((p.c : Int) + 1))) x (ipopS p) S) := by
      have F2 : Fr (· = x) w1 (w1.setCell ⟨x, 1, none⟩ (.int .i64 ((p.c : Int) + 1))) := Fr.setCell _ _ _ rfl
      have hbx := set_row hK.box 1 (.int .i64 ((p.c : Int) + 1))
      refine ⟨⟨b, ⟨?_, ?_, ipopS_ok HO.out⟩, hSx, hSb, fun k hk => Nat.lt_of_lt_of_le (hS k hk) F2.size⟩, hF.next F2 (fun k _ hk => by rw [hk]; exact hSx)⟩
      · rw [ipop_toss hh]
        simpa using hbx
      · rw [ipop_toss hh]
        exact hK.mp.fr F2 hK.ne.symm
    have hc1 : w1.cell? ⟨x, 1, none⟩ = some (.int .i64 p.c) := c1
    have QE := hd hE
    rw [hE]
    generalize p.c = c at c1 hc1 hc Z
    clear hK hSx hSb hS hF hE c1
    go_wp2_with fail
    go_ret
    rw [QE.out]
    exact ⟨rfl, Z.out⟩

set_option maxRecDepth 100000 in
set_option maxHeartbeats 1000000 in
theorem i_put (x : Nat) (p : Ib) (n y : Int) (S : Nat → Prop) (w : World) (h : InAt 82 w x p S) :
    Calls Try.prog 14 #[.pointer (some ⟨x, 0, none⟩), .int .i64 n, .int .i64 y] w fun e w' => e = .returned (.int .i64 (iputE p n)) ∧ INow 82 w w' x (iputS p n (.int .i64 y)) S := by
  have H0 := hd h
  obtain ⟨b, hK, hSx, hSb, hS⟩ := h
  have c0 := cell_row hK.box 0
  have c1 := cell_row hK.box 1
  have c2 := cell_row hK.box 2
  simp at c0 c1 c2
  have hc := hK.ok.c2
  have hr := hK.ok.r2
  have HK := hd hK
  have HS := hd (And.intro hSx hSb)
  clear hSx hSb hS hK
  by_cases h1 : n < 1 ∨ 4096 < n
  · have hE : Hid (iputE p n = 91) := by show _ = _; rw [iputE, if_pos h1]
    have hT : Hid (iputS p n (.int .i64 y) = p) := by show _ = _; rw [iputS, if_neg (by rw [hE.out]; omega)]
    clear HK HS
    rcases h1 with h1 | h1
    · go_enter Try.func14, Try.ntmps14
      go_wp2_with fail
      go_ret
      rw [hE.out, hT.out]
      exact ⟨rfl, H0.out.now (Below.refl _ _)⟩
    · have h2 : ¬ n < 1 := by omega
      go_enter Try.func14, Try.ntmps14
      go_wp2_with fail
      go_ret
      rw [hE.out, hT.out]
      exact ⟨rfl, H0.out.now (Below.refl _ _)⟩
  · obtain ⟨m, rfl⟩ : ∃ m : Nat, n = m := ⟨n.toNat, by omega⟩
    have i1 : ¬ (m : Int) < 1 := by omega
    have i2 : ¬ (4096 : Int) < (m : Int) := by omega
    by_cases h2 : (m : Int) ≤ p.c
    · have hE : Hid (iputE p m = 92) := by show _ = _; rw [iputE, if_neg h1, if_pos (.inl h2)]
      have hT : Hid (iputS p m (.int .i64 y) = p) := by show _ = _; rw [iputS, if_neg (by rw [hE.out]; omega)]
      clear HK HS h1
      go_enter Try.func14, Try.ntmps14
      go_wp2_with fail
      go_ret
      rw [hE.out, hT.out]
      exact ⟨rfl, H0.out.now (Below.refl _ _)⟩
    · cases hh : hasK p.H m
      · by_cases h3 : (p.c : Int) + p.R < m
        · have hE : Hid (iputE p m = 93) := by show _ = _; rw [iputE, if_neg h1, if_neg (by simp [hh]; omega), if_pos h3]
          have hT : Hid (iputS p m (.int .i64 y) = p) := by show _ = _; rw [iputS, if_neg (by rw [hE.out]; omega)]
          have hw : IntKind.i64.wrap ((p.c : Int) + p.R) = (p.c : Int) + p.R := by rw [IntKind.wrap_i64]; omega
          clear HS h1
          go_enter Try.func14, Try.ntmps14
          go_wp2_with fail
          refine (i_holds x b m p w HK.out (by omega)).mono ?_
          rintro e w1 ⟨rfl, rfl⟩
          rw [hh]
          clear HK hh
          go_wp2_with fail
          go_quiet (fail)
          go_wp2_with fail
          go_ret
          rw [hE.out, hT.out]
          exact ⟨rfl, H0.out.now (by repeat (first | exact Below.refl _ _ | refine Below.drew ?_ | refine below_drewN ?_ _))⟩
        · have hE : Hid (iputE p m = 0) := by show _ = _; rw [iputE, if_neg h1, if_neg (by simp [hh]; omega), if_neg h3]
          have hT : Hid (iputS p m (.int .i64 y) = { p with H := p.H ++ [(m, .int .i64 y)] }) := by show _ = _; rw [iputS, if_pos hE.out, Int.toNat_natCast]
          have CU : Hid (∀ u, Fr (fun _ => False) w u → ∃ w', (Instr.mapUpdate 80 (.map (some b)) (.int .i64 (m : Int)) (.int .i64 y)).run Try.prog u = .ok () w' ∧ INow 82 w w' x (iputS p m (.int .i64 y)) S) := by
            intro u hu
            have hm := HK.out.mp.fr hu (fun h => h)
            have hl := HK.out.ok.len
            obtain ⟨w', q1, q2, q3⟩ := hm.add Try.underlying80 (k := m) (v := .int .i64 y) (by omega) (by omega) (hasK_false hh)
            have hF : Fr S w w' := (hu.mono (fun _ _ h => h.elim)).next q3 (fun k _ hk => by rw [hk]; exact HS.out.2)
            have hbx := q3.keeps (hu.keeps HK.out.box (fun h => h)) HK.out.ne
            refine ⟨w', q1, ⟨b, ⟨?_, ?_, iputS_ok HK.out.ok _ _⟩, HS.out.1, HS.out.2, fun k hk => Nat.lt_of_lt_of_le (H0.out.old k hk) hF.size⟩, hF⟩
            · rw [hT.out]; exact hbx
            · rw [hT.out]; exact q2
          have hw : IntKind.i64.wrap ((p.c : Int) + p.R) = (p.c : Int) + p.R := by rw [IntKind.wrap_i64]; omega
          clear HS h1
          go_enter Try.func14, Try.ntmps14
          go_wp2_with fail
          refine (i_holds x b m p w HK.out (by omega)).mono ?_
          rintro e w1 ⟨rfl, rfl⟩
          rw [hh]
          clear HK hh
          go_wp2_with fail
          go_quiet (fail)
          obtain ⟨w5, hup, hN⟩ := CU.out (w1.drewN nq) (Fr.drewN _ _ _)
          have Z := hd hN
          clear hN CU
          go_wp2_with fail
          go_ret
          rw [hE.out]
          exact ⟨rfl, Z.out⟩
      · have hE : Hid (iputE p m = 92) := by show _ = _; rw [iputE, if_neg h1, if_pos (.inr (by simpa using hh))]
        have hT : Hid (iputS p m (.int .i64 y) = p) := by show _ = _; rw [iputS, if_neg (by rw [hE.out]; omega)]
        clear HS h1
        go_enter Try.func14, Try.ntmps14
        go_wp2_with fail
        refine (i_holds x b m p w HK.out (by omega)).mono ?_
        rintro e w1 ⟨rfl, rfl⟩
        rw [hh]
        clear HK hh
        go_wp2_with fail
        go_ret
        rw [hE.out, hT.out]
        exact ⟨rfl, H0.out.now (Below.refl _ _)⟩

set_option maxHeartbeats 1000000 in
theorem i_reset (x : Nat) (p : Ib) (S : Nat → Prop) (w : World) (h : InAt 82 w x p S) :
    Calls Try.prog 64 #[.pointer (some ⟨x, 0, none⟩)] w fun e w' => e = .returned (.tuple #[]) ∧ INow 82 w w' x (iresetS p) S := by
  obtain ⟨b, hK, hSx, hSb, hS⟩ := h
  have c2 := cell_row hK.box 2
  simp at c2
  obtain ⟨w1, hcl, hm, hF⟩ := hK.mp.clear Try.underlying80
  have hbx := hF.keeps hK.box hK.ne
  have c1 := cell_row hbx 1
  have f1 := frozen_row hbx 1
  simp at c1
  have Z : Hid (INow 82 w (w1.setCell ⟨x, 1, none⟩ (.int .i64 0)) x (iresetS p) S) := by
    have F2 : Fr (· = x) w1 (w1.setCell ⟨x, 1, none⟩ (.int .i64 0)) := Fr.setCell _ _ _ rfl
    have hb2 := set_row hbx 1 (.int .i64 0)
    have F3 : Fr S w (w1.setCell ⟨x, 1, none⟩ (.int .i64 0)) := (hF.mono (fun k _ hk => by rw [hk]; exact hSb)).next F2 (fun k _ hk => by rw [hk]; exact hSx)
    refine ⟨⟨b, ⟨?_, ?_, iresetS_ok hK.ok⟩, hSx, hSb, fun k hk => Nat.lt_of_lt_of_le (hS k hk) F3.size⟩, F3⟩
    · simpa [iresetS] using hb2
    · exact hm.fr F2 hK.ne.symm
  clear hK hSx hSb hS hm hF hbx
  go_enter Try.func64, Try.ntmps64
  go_wp2_with fail
  go_end0
  exact ⟨rfl, Z.out⟩

end Go.Proofs.Ytpjnhjijipcjkaa
