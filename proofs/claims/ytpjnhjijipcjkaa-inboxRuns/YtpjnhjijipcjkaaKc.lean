/-
  The calls of an inbox of operations: New, Cum, Head, Put, Toss, Pop, Reset.
-/
import Derived.Test.YtpjnhjijipcjkaaJc
import Derived.Deep.RegionHeld3
import Derived.Deep.QuietTactic
import Derived.BigQuiet
namespace Go.Proofs.Ytpjnhjijipcjkaa
open Go.RowKit
set_option linter.unusedVariables false

abbrev oz : Value := .agg #[.int .i64 0, .int .i64 0, .int .u8 0, .int .i64 0, .int .i64 0]
abbrev OOk (v : Value) : Prop := ∃ y1 y2 y3 y4 y5 : Int, v = .agg #[.int .i64 y1, .int .i64 y2, .int .u8 y3, .int .i64 y4, .int .i64 y5]

theorem q_new_bad (R : Int) (w : World) (h : R < 1 ∨ 4096 < R) : Calls Try.prog 43 #[.int .i64 R] w fun e w' => e = .returned (.tuple #[.pointer none, .int .i64 90]) ∧ w' = w := by
  by_cases h1 : R < 1
  · go_enter Try.func43, Try.ntmps43
    go_wp2
    refine bodyPost_ret (v := .tuple #[.pointer none, .int .i64 90]) (by simp [results, Try.results43, go_sem]) rfl ?_
    exact ⟨rfl, rfl⟩
  · have h2 : 4096 < R := by omega
    go_enter Try.func43, Try.ntmps43
    go_wp2
    refine bodyPost_ret (v := .tuple #[.pointer none, .int .i64 90]) (by simp [results, Try.results43, go_sem]) rfl ?_
    exact ⟨rfl, rfl⟩

theorem q_new_good (R : Nat) (w : World) (hR1 : 1 ≤ R) (hR2 : R ≤ 4096) : Calls Try.prog 43 #[.int .i64 R] w fun e w' => ∃ x, e = .returned (.tuple #[.pointer (some ⟨x, 0, none⟩), .int .i64 0]) ∧ ∃ S, InAt 106 w' x ⟨R, 0, []⟩ S ∧ (∀ k, S k → w.heap.size ≤ k) ∧ Below w.heap.size w w' := by
  have h1 : ¬ (R : Int) < 1 := by omega
  have h2 : ¬ (4096 : Int) < R := by omega
  have hmm := @run_makeMap Try.prog
  go_enter Try.func43, Try.ntmps43
  go_wp2
  refine bodyPost_ret (v := .tuple #[.pointer (some ⟨w.heap.size + 1, 0, none⟩), .int .i64 0]) (by simp [results, Try.results43, go_sem]) rfl ?_
  have B1 : Below w.heap.size w (w.alloc (.map #[] 0)) := (Below.refl _ _).alloc (Nat.le_refl _) _
  have B2 : Below (w.alloc (.map #[] 0)).heap.size (w.alloc (.map #[] 0)) ((w.alloc (.map #[] 0)).alloc (.cells #[.int .i64 R, .int .i64 0, .map (some w.heap.size)] 106)) := (Below.refl _ _).alloc (Nat.le_refl _) _
  refine ⟨_, rfl, fun k => k = w.heap.size ∨ k = w.heap.size + 1, ⟨w.heap.size, ⟨?_, (MP.made w).fr (S := fun _ => False) (Fr.of_below B2) (fun h => h), ⟨hR1, hR2, by simp, by simp, by simp⟩⟩, .inr rfl, .inl rfl, ?_⟩, ?_, ?_⟩
  · have := heap_alloc_new (w.alloc (.map #[] 0)) (.cells #[.int .i64 R, .int .i64 0, .map (some w.heap.size)] 106)
    rw [World.size_alloc] at this
    exact this
  · rintro k (rfl | rfl) <;> simp <;> omega
  · rintro k (rfl | rfl) <;> omega
  · exact B1.trans (B2.mono (by simp))

theorem q_cum (x b : Nat) (p : Ib) (w : World) (h : IK 106 w x b p) :
    Calls Try.prog 45 #[.pointer (some ⟨x, 0, none⟩)] w fun e w' => e = .returned (.int .i64 p.c) ∧ w' = w := by
  have c1 := cell_row h.box 1
  simp at c1
  clear h
  go_enter Try.func45, Try.ntmps45
  go_wp2
  go_ret
  exact ⟨rfl, rfl⟩

theorem q_next (x b : Nat) (p : Ib) (w : World) (h : IK 106 w x b p) :
    Calls Try.prog 67 #[.pointer (some ⟨x, 0, none⟩)] w fun e w' => e = .returned (.int .i64 ((p.c : Int) + 1)) ∧ w' = w := by
  have c1 := cell_row h.box 1
  have hc := h.ok.c2
  simp at c1
  generalize p.c = c at c1 hc
  clear h
  go_enter Try.func67, Try.ntmps67
  go_wp2
  go_ret
  exact ⟨by go_num, rfl⟩

set_option maxRecDepth 100000 in
theorem q_holds (x b k : Nat) (p : Ib) (w : World) (h : IK 106 w x b p) (hv : ∀ q ∈ p.H, OOk q.2) (hk : k ≤ 9223372036854775807) :
    Calls Try.prog 81 #[.pointer (some ⟨x, 0, none⟩), .int .i64 k] w fun e w' => e = .returned (.bool (hasK p.H k)) ∧ RowKit.Below w.heap.size w w' := by
  have c2 := cell_row h.box 2
  simp at c2
  cases hh : hasK p.H k
  · have hl := h.mp.none Try.underlying104 Try.zeroValue94 hk (hasK_false hh)
    clear h
    go_enter Try.func81, Try.ntmps81
    go_wp2
    go_ret
    exact ⟨rfl, (by repeat (first | exact Below.refl _ _ | refine Below.drew ?_ | refine below_drewN ?_ _ | refine Below.alloc ?_ (by simp) _ | refine Below.setCell ?_ (by simp) _))⟩
  · obtain ⟨v, hm⟩ := hasK_true hh
    obtain ⟨y1, y2, y3, y4, y5, hy⟩ := hv _ hm
    simp only at hy
    subst hy
    have hl := h.mp.look Try.underlying104 Try.zeroValue94 hm
    clear h hv hm
    go_enter Try.func81, Try.ntmps81
    go_wp2
    go_ret
    exact ⟨rfl, (by repeat (first | exact Below.refl _ _ | refine Below.drew ?_ | refine below_drewN ?_ _ | refine Below.alloc ?_ (by simp) _ | refine Below.setCell ?_ (by simp) _))⟩

set_option maxRecDepth 100000 in
set_option maxHeartbeats 4000000 in
theorem q_head (x b : Nat) (p : Ib) (w : World) (h : IK 106 w x b p) (hv : ∀ q ∈ p.H, OOk q.2) :
    Calls Try.prog 47 #[.pointer (some ⟨x, 0, none⟩)] w fun e w' => e = .returned (.tuple #[atK p.H (p.c + 1) oz, .bool p.hd]) ∧ RowKit.Below w.heap.size w w' := by
  have c2 := cell_row h.box 2
  simp at c2
  have hc := h.ok.c2
  have CQ : Hid (∀ u, RowKit.Below w.heap.size w u → Calls Try.prog 67 #[.pointer (some ⟨x, 0, none⟩)] u fun e w' => e = .returned (.int .i64 ((p.c : Int) + 1)) ∧ w' = u) := fun u hu =>
    q_next x b p u (h.below hu)
  have HM := hd h.mp
  unfold Ib.hd
  generalize p.c = c at CQ hc ⊢
  generalize p.H = H at HM hv ⊢
  clear h
  cases hh : hasK H (c + 1)
  · rw [atK_none hh]
    have hl1 : ∀ U : World, RowKit.Below w.heap.size w U → (Instr.lookup 104 (.map (some b)) (.int .i64 ((c : Int) + 1)) true).run Try.prog U = .ok (.tuple #[oz, .bool false]) U := fun U hU => by
      have := (HM.out.fr (S := fun _ => False) (Fr.of_below hU) (fun h => h)).none Try.underlying104 Try.zeroValue94 (k := c + 1) (by omega) (hasK_false hh)
      rwa [Int.natCast_add, Int.natCast_one] at this
    obtain ⟨W1, hW1⟩ : ∃ W1, w.alloc (.cells #[.int .i64 0, .int .i64 0, .int .u8 0, .int .i64 0, .int .i64 0] 94) = W1 := ⟨_, rfl⟩
    have hB1 : RowKit.Below w.heap.size w W1 := by rw [← hW1]; exact (Below.refl _ _).alloc (Nat.le_refl _) _
    have hb1 : W1.heap[w.heap.size]? = some (.cells #[.int .i64 0, .int .i64 0, .int .u8 0, .int .i64 0, .int .i64 0] 94 (0, 0)) := by rw [← hW1]; exact heap_alloc_new _ _
    have hs1 : W1.heap.size = w.heap.size + 1 := by rw [← hW1]; simp
    have c2a : W1.cell? ⟨x, 2, none⟩ = some (.map (some b)) := (hB1.cell (p := ⟨x, 2, none⟩) (World.block_lt_of_cell? _ _ c2)).trans c2
    have c2b : ∀ o, (W1.alloc o).cell? ⟨x, 2, none⟩ = some (.map (some b)) := fun o => (((Below.refl W1.heap.size W1).alloc (Nat.le_refl _) o).cell (p := ⟨x, 2, none⟩) (World.block_lt_of_cell? _ _ c2a)).trans c2a
    have l1 := hl1 W1.drew hB1.drew
    have l2 : ∀ o, (Instr.lookup 104 (.map (some b)) (.int .i64 ((c : Int) + 1)) true).run Try.prog (W1.alloc o).drew = .ok (.tuple #[oz, .bool false]) (W1.alloc o).drew := fun o => hl1 _ (hB1.alloc (by omega) o).drew
    have CQ1 : Hid (∀ u, RowKit.Below W1.heap.size W1 u → Calls Try.prog 67 #[.pointer (some ⟨x, 0, none⟩)] u fun e w' => e = .returned (.int .i64 ((c : Int) + 1)) ∧ w' = u) := fun u hu => CQ.out u (hB1.trans (hu.mono (by omega)))
    have HB1 := hd (And.intro hB1 (And.intro hb1 hs1))
    clear hv HM hl1 CQ
    go_enter Try.func47, Try.ntmps47
    go_wp2_with fail
    go_region_law (first | (go_simp; go_at_call 67; refine (CQ1.out _ (by repeat (first | exact Below.refl _ _ | refine Below.drew ?_ | refine below_drewN ?_ _ | refine Below.alloc ?_ (by simp) _ | refine Below.setCell ?_ (by simp) _))).mono ?_; rintro ex w3 ⟨rfl, rfl⟩))
    all_goals
      subst hW1
      clear c2a c2b l1 l2 CQ1 hb1 hs1 hB1 HB1
      go_wp2_with fail
      refine bodyPost_ret (v := .tuple #[oz, .bool false]) (by simp [results, Try.results47, go_sem]) rfl ?_
      exact ⟨rfl, (by repeat (first | exact Below.refl _ _ | refine Below.drew ?_ | refine below_drewN ?_ _ | refine Below.alloc ?_ (by simp) _ | refine Below.setCell ?_ (by simp) _))⟩
  · have hm := atK_mem (z := oz) hh
    obtain ⟨y1, y2, y3, y4, y5, hy⟩ := hv _ hm
    simp only at hy
    have hl1 : ∀ U : World, RowKit.Below w.heap.size w U → (Instr.lookup 104 (.map (some b)) (.int .i64 ((c : Int) + 1)) true).run Try.prog U = .ok (.tuple #[.agg #[.int .i64 y1, .int .i64 y2, .int .u8 y3, .int .i64 y4, .int .i64 y5], .bool true]) U := fun U hU => by
      have := (HM.out.fr (S := fun _ => False) (Fr.of_below hU) (fun h => h)).look Try.underlying104 Try.zeroValue94 hm
      rwa [hy, Int.natCast_add, Int.natCast_one] at this
    rw [hy]
    obtain ⟨W1, hW1⟩ : ∃ W1, w.alloc (.cells #[.int .i64 0, .int .i64 0, .int .u8 0, .int .i64 0, .int .i64 0] 94) = W1 := ⟨_, rfl⟩
    have hB1 : RowKit.Below w.heap.size w W1 := by rw [← hW1]; exact (Below.refl _ _).alloc (Nat.le_refl _) _
    have hb1 : W1.heap[w.heap.size]? = some (.cells #[.int .i64 0, .int .i64 0, .int .u8 0, .int .i64 0, .int .i64 0] 94 (0, 0)) := by rw [← hW1]; exact heap_alloc_new _ _
    have hs1 : W1.heap.size = w.heap.size + 1 := by rw [← hW1]; simp
    have c2a : W1.cell? ⟨x, 2, none⟩ = some (.map (some b)) := (hB1.cell (p := ⟨x, 2, none⟩) (World.block_lt_of_cell? _ _ c2)).trans c2
    have c2b : ∀ o, (W1.alloc o).cell? ⟨x, 2, none⟩ = some (.map (some b)) := fun o => (((Below.refl W1.heap.size W1).alloc (Nat.le_refl _) o).cell (p := ⟨x, 2, none⟩) (World.block_lt_of_cell? _ _ c2a)).trans c2a
    have l1 := hl1 W1.drew hB1.drew
    have l2 : ∀ o, (Instr.lookup 104 (.map (some b)) (.int .i64 ((c : Int) + 1)) true).run Try.prog (W1.alloc o).drew = .ok (.tuple #[.agg #[.int .i64 y1, .int .i64 y2, .int .u8 y3, .int .i64 y4, .int .i64 y5], .bool true]) (W1.alloc o).drew := fun o => hl1 _ (hB1.alloc (by omega) o).drew
    have CQ1 : Hid (∀ u, RowKit.Below W1.heap.size W1 u → Calls Try.prog 67 #[.pointer (some ⟨x, 0, none⟩)] u fun e w' => e = .returned (.int .i64 ((c : Int) + 1)) ∧ w' = u) := fun u hu => CQ.out u (hB1.trans (hu.mono (by omega)))
    have HB1 := hd (And.intro hB1 (And.intro hb1 hs1))
    clear hv HM hl1 CQ hm hy
    go_enter Try.func47, Try.ntmps47
    go_wp2_with fail
    go_region_law (first | (go_simp; go_at_call 67; refine (CQ1.out _ (by repeat (first | exact Below.refl _ _ | refine Below.drew ?_ | refine below_drewN ?_ _ | refine Below.alloc ?_ (by simp) _ | refine Below.setCell ?_ (by simp) _))).mono ?_; rintro ex w3 ⟨rfl, rfl⟩))
    all_goals
      subst hW1
      clear c2a c2b l1 l2 CQ1 hb1 hs1 hB1 HB1
      go_wp2_with fail
      refine bodyPost_ret (v := .tuple #[.agg #[.int .i64 y1, .int .i64 y2, .int .u8 y3, .int .i64 y4, .int .i64 y5], .bool true]) (by simp [results, Try.results47, go_sem]) rfl ?_
      exact ⟨rfl, (by repeat (first | exact Below.refl _ _ | refine Below.drew ?_ | refine below_drewN ?_ _ | refine Below.alloc ?_ (by simp) _ | refine Below.setCell ?_ (by simp) _))⟩

set_option maxHeartbeats 1000000 in
theorem q_toss (x : Nat) (p : Ib) (S : Nat → Prop) (w : World) (h : InAt 106 w x p S) (hv : ∀ q ∈ p.H, OOk q.2) :
    Calls Try.prog 62 #[.pointer (some ⟨x, 0, none⟩)] w fun e w' => e = .returned (.int .i64 (itossE p)) ∧ INow 106 w w' x (itossS p) S := by
  have H0 := hd h
  obtain ⟨b, hK, hSx, hSb, hS⟩ := h
  have c2 := cell_row hK.box 2
  simp at c2
  have hc := hK.ok.c2
  have HK := hd hK
  have HS := hd (And.intro hSx hSb)
  clear hSx hSb hS
  go_enter Try.func62, Try.ntmps62
  go_wp2_with fail
  refine (q_next x b p w HK.out).mono ?_
  rintro e w1 ⟨rfl, rfl⟩
  go_wp2_with fail
  rw [show ((p.c : Int) + 1) = ((p.c + 1 : Nat) : Int) by omega]
  refine (q_holds x b (p.c + 1) p w1 HK.out hv (by omega)).mono ?_
  rintro e w2 ⟨rfl, hb2⟩
  have H02 := hd (H0.out.below hb2)
  have HK2 := hd (HK.out.below hb2)
  have HB2 := hd hb2
  have c22 := cell_row HK2.out.box 2
  simp at c22
  cases hh : hasK p.H (p.c + 1)
  · have hE : Hid (itossE p = 94) := by show _ = _; rw [itossE, if_neg (by unfold Ib.hd; rw [hh]; simp)]
    have hT : Hid (itossS p = p) := by show _ = _; unfold itossS; rw [cutK_none hh]
    clear hK HK HS HK2 c22 c2
    go_wp2_with fail
    go_ret
    rw [hE.out, hT.out]
    exact ⟨rfl, (H02.out.now (Below.refl _ _)).after HB2.out⟩
  · have hE : Hid (itossE p = 0) := by show _ = _; rw [itossE, if_pos (by unfold Ib.hd; rw [hh])]
    obtain ⟨L1, v, L2, hH, hC, hn⟩ := cutK_split hK.ok.once hh
    have CQ : Hid (∀ u, Fr (fun _ => False) w2 u → Calls Try.prog 67 #[.pointer (some ⟨x, 0, none⟩)] u fun e w' => e = .returned (.int .i64 ((p.c : Int) + 1)) ∧ w' = u) := fun u hu =>
      q_next x b p u (HK2.out.fr hu (fun h => h) (fun h => h))
    have CD : Hid (∀ u, Fr (fun _ => False) w2 u → ∃ w', (∀ ty, (Builtin.delete_ #[104, 3] ty #[.map (some b), .int .i64 ((p.c : Int) + 1)]).run Try.prog u = .ok (.tuple #[]) w') ∧ INow 106 w2 w' x (itossS p) S) := by
      intro u hu
      have hm := HK2.out.mp.fr hu (fun h => h)
      rw [hH] at hm
      obtain ⟨w', h1, h2, h3⟩ := hm.del Try.underlying104 hn
      rw [Int.natCast_add, Int.natCast_one] at h1
      have hF : Fr S w2 w' := (hu.mono (fun _ _ h => h.elim)).next h3 (fun k _ hk => by rw [hk]; exact HS.out.2)
      have hbx := h3.keeps (hu.keeps HK2.out.box (fun h => h)) HK2.out.ne
      refine ⟨w', h1, ⟨b, ⟨hbx, ?_, itossS_ok HK2.out.ok⟩, HS.out.1, HS.out.2, fun k hk => Nat.lt_of_lt_of_le (H02.out.old k hk) hF.size⟩, hF⟩
      show MP w' b (cutK p.H (p.c + 1))
      rw [hC]
      exact h2
    clear hK HK HS hH hC hn hh HK2 H0 c2
    go_wp2_with fail
    go_region_law (first | (go_simp; go_at_call 67; refine (CQ.out _ (by repeat (first | exact Fr.refl _ _ | refine Fr.trans ?_ (Fr.drew _ _) | refine Fr.trans ?_ (Fr.drewN _ _ _)))).mono ?_; rintro ex w3 ⟨rfl, rfl⟩) | (refine step_delete_x rfl (.tmp 11) (.tmp 13) 104 3 rfl (.map (some b)) (.int .i64 ((p.c : Int) + 1)) (by simp [Act.eval]) (by simp [Act.eval]) _ (CD.out _ (by repeat (first | exact Fr.refl _ _ | refine Fr.trans ?_ (Fr.drew _ _) | refine Fr.trans ?_ (Fr.drewN _ _ _)))) ?_; intro w4 hN; have Z := hd hN; clear hN))
    all_goals
      go_wp2_with fail
      go_ret
      rw [hE.out]
      exact ⟨rfl, Z.out.after HB2.out⟩

set_option maxHeartbeats 1000000 in
theorem q_pop (x : Nat) (p : Ib) (S : Nat → Prop) (w : World) (h : InAt 106 w x p S) (hv : ∀ q ∈ p.H, OOk q.2) :
    Calls Try.prog 60 #[.pointer (some ⟨x, 0, none⟩)] w fun e w' => e = .returned (.int .i64 (itossE p)) ∧ INow 106 w w' x (ipopS p) S := by
  have HO := hd h.ok
  have H0 := hd h
  have hc := h.ok.c2
  clear h
  go_enter Try.func60, Try.ntmps60
  go_wp2_with fail
  refine (q_toss x p S w H0.out hv).mono ?_
  rintro e w1 ⟨rfl, h1⟩
  cases hh : p.hd
  · have hE : itossE p = 94 := by rw [itossE, if_neg (by rw [hh]; simp)]
    have hT : Hid (ipopS p = p) := by show _ = _; rw [ipopS, if_neg (by rw [hh]; simp)]
    have hS : itossS p = p := by unfold itossS; rw [cutK_none hh]
    rw [hS] at h1
    have Z := hd h1
    have QE := hd hE
    rw [hE]
    clear h1 hE hS
    go_wp2_with fail
    go_ret
    rw [hT.out, QE.out]
    exact ⟨rfl, Z.out⟩
  · have hE : itossE p = 0 := by rw [itossE, if_pos hh]
    obtain ⟨⟨b, hK, hSx, hSb, hS⟩, hF⟩ := h1
    have c1 := cell_row hK.box 1
    have f1 := frozen_row hK.box 1
    simp at c1
    have Z : Hid (INow 106 w (w1.setCell ⟨x, 1, none⟩ (.int .i64 ((p.c : Int) + 1))) x (ipopS p) S) := by
      have F2 : Fr (· = x) w1 (w1.setCell ⟨x, 1, none⟩ (.int .i64 ((p.c : Int) + 1))) := Fr.setCell _ _ _ rfl
      have hbx := set_row hK.box 1 (.int .i64 ((p.c : Int) + 1))
      refine ⟨⟨b, ⟨?_, ?_, ipopS_ok HO.out⟩, hSx, hSb, fun k hk => Nat.lt_of_lt_of_le (hS k hk) F2.size⟩, hF.next F2 (fun k _ hk => by rw [hk]; exact hSx)⟩
      · rw [ipop_toss hh]
        simpa using hbx
      · rw [ipop_toss hh]
        exact hK.mp.fr F2 hK.ne.symm
    have hc1 : w1.cell? ⟨x, 1, none⟩ = some (.int .i64 p.c) := c1
    have QE := hd hE
    rw [hE]
    generalize p.c = c at c1 hc1 hc Z
    clear hK hSx hSb hS hF hE c1
    go_wp2_with fail
    go_ret
    rw [QE.out]
    exact ⟨rfl, Z.out⟩

set_option maxHeartbeats 1000000 in
theorem q_reset (x : Nat) (p : Ib) (S : Nat → Prop) (w : World) (h : InAt 106 w x p S) :
    Calls Try.prog 65 #[.pointer (some ⟨x, 0, none⟩)] w fun e w' => e = .returned (.tuple #[]) ∧ INow 106 w w' x (iresetS p) S := by
  obtain ⟨b, hK, hSx, hSb, hS⟩ := h
  have c2 := cell_row hK.box 2
  simp at c2
  obtain ⟨w1, hcl, hm, hF⟩ := hK.mp.clear Try.underlying104
  have hbx := hF.keeps hK.box hK.ne
  have c1 := cell_row hbx 1
  have f1 := frozen_row hbx 1
  simp at c1
  have Z : Hid (INow 106 w (w1.setCell ⟨x, 1, none⟩ (.int .i64 0)) x (iresetS p) S) := by
    have F2 : Fr (· = x) w1 (w1.setCell ⟨x, 1, none⟩ (.int .i64 0)) := Fr.setCell _ _ _ rfl
    have hb2 := set_row hbx 1 (.int .i64 0)
    have F3 : Fr S w (w1.setCell ⟨x, 1, none⟩ (.int .i64 0)) := (hF.mono (fun k _ hk => by rw [hk]; exact hSb)).next F2 (fun k _ hk => by rw [hk]; exact hSx)
    refine ⟨⟨b, ⟨?_, ?_, iresetS_ok hK.ok⟩, hSx, hSb, fun k hk => Nat.lt_of_lt_of_le (hS k hk) F3.size⟩, F3⟩
    · simpa [iresetS] using hb2
    · exact hm.fr F2 hK.ne.symm
  clear hK hSx hSb hS hm hF hbx
  go_enter Try.func65, Try.ntmps65
  go_wp2_with fail
  go_end0
  exact ⟨rfl, Z.out⟩

end Go.Proofs.Ytpjnhjijipcjkaa
