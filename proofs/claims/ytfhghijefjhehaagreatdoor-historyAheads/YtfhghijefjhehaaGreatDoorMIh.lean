/-
  Texts put together: Ih Hj Ib.
-/
import Derived.Test.YtfhghijefjhehaaGreatDoorMHg
import Derived.Test.YtfhghijefjhehaaGreatDoorMNb
/-! Ih -/
namespace Go.Proofs.YtfhghijefjhehaaGreatDoor
open Go.RowKit
set_option linter.unusedVariables false

noncomputable def opspushL : Array Oper := (Tryz.f15.body.bind (opsAt 11)).getD #[]
theorem opspushL_size : opspushL.size = 19 := by kernel_rfl
theorem opspushL_earlier : Earlier opspushL := by
  have h : (List.range 19).all (fun i => ((opspushL[i]?).map (fun o => o.after.all (fun e => !Region.binds .any e || decide (e.on < i)))).getD true) = true := by kernel_rfl
  intro i o ho e he hb
  have hi : i < 19 := by
    have := (Array.getElem?_eq_some_iff.1 ho).1
    rwa [opspushL_size] at this
  have h1 := List.all_eq_true.1 h i (List.mem_range.2 hi)
  rw [ho] at h1
  simp only [Option.map_some, Option.getD_some, Array.all_eq_true'] at h1
  have h2 := h1 e he
  rw [hb] at h2
  simpa using h2
def slpushL (j : Nat) : Nat := ([43, 44, 45, 46, 47, 48, 49, 50, 51, 52, 53, 54, 55, 56, 57, 58, 59, 60] : List Nat).getD j 0
def VpushL (x be cN on oc : Nat) (oa : Option Addr) (k : Nat) (j : Nat) : Value := [.pointer (some ⟨x, 0, none⟩), .pointer (some ⟨be, 1, none⟩), .pointer (some ⟨be, 4, none⟩), .int .i64 (cN : Int), .pointer (some ⟨x, 0, none⟩), .pointer (some ⟨be, 1, none⟩), .pointer (some ⟨be, 4, none⟩), .int .i64 (cN : Int), .pointer (some ⟨x, 0, none⟩), .pointer (some ⟨x, 3, none⟩), .pointer (some ⟨x, 3 + cN, none⟩), .slice oa on oc, .int .i64 (k : Int), .slice oa on oc, .slice oa on oc, .pointer (some ⟨x, 0, none⟩), .pointer (some ⟨x, 3, none⟩), .pointer (some ⟨x, 3 + cN, none⟩)].getD j (.bool false)

set_option maxRecDepth 100000 in
set_option maxHeartbeats 4000000 in
theorem pushL (a0 : Act) (w : World) {Q : Exit → Act → World → Prop} (x be cN on oc : Nat) (oa : Option Addr) (k : Nat) (h4 : a0.eval (.tmp 4) = .pointer (some ⟨x, 0, none⟩)) (h5 : a0.eval (.tmp 5) = .int .i64 (k : Int)) (h6 : a0.eval (.tmp 6) = .pointer (some ⟨be, 0, none⟩)) (hzz : 60 < a0.tmps.size) (c65 : (cN : Int) < 65) (P : Value → World → Prop)
    (hG0 : ∀ u, Below w.heap.size w u → u.cell? ⟨be, 4, none⟩ = some (.int .i64 (cN : Int)) ∧ u.cell? ⟨x, 3 + cN, none⟩ = some (.slice oa on oc)) (hGP : ∀ v u, P v u → u.cell? ⟨be, 4, none⟩ = some (.int .i64 (cN : Int)) ∧ u.cell? ⟨x, 3 + cN, none⟩ = some (.slice oa on oc))
    (hA : ∀ u g, Below w.heap.size w u → u.heap[g]? = some (.cells #[.int .i64 (k : Int)] 3 (0, 0)) → ∃ v' u', (∀ ty, (Builtin.append_ #[26, 26] ty #[.slice oa on oc, .slice (some ⟨g, 0, none⟩) 1 1]).run Tryz.prog u = .ok v' u') ∧ P v' u')
    (hSt : ∀ v u, P v u → (∃ A n c, v = .slice A n c) ∧ u.frozen? ⟨x, 3 + cN, none⟩ = false)
    (hK : ∀ (V' : Nat → Value) v' u1, P v' u1 → Q .normal (puts a0 ((List.range 18).map fun j => (slpushL j, V' j))) (u1.setCell ⟨x, 3 + cN, none⟩ v')) :
    (Code.region 11 opspushL true).wp Tryz.prog Q a0 w := by
  have inj : ∀ i j, i < 18 → j < 18 → slpushL i = slpushL j → i = j := by
    have h : (List.range 18).all (fun i => (List.range 18).all (fun j => decide (slpushL i = slpushL j → i = j))) = true := by kernel_rfl
    intro i j hi hj he
    have h1 := List.all_eq_true.1 h i (List.mem_range.2 hi)
    have h2 := List.all_eq_true.1 h1 j (List.mem_range.2 hj)
    exact (of_decide_eq_true h2) he
  have hz : ∀ j, j < 18 → slpushL j < a0.tmps.size := by
    have h : (List.range 18).all (fun i => decide (slpushL i ≤ 60)) = true := by kernel_rfl
    intro j hj
    have := of_decide_eq_true (List.all_eq_true.1 h j (List.mem_range.2 hj))
    omega
  refine wp_region_inv (by kernel_rfl) opspushL_earlier (fun L a u => JP opspushL slpushL 18 13 14 (VpushL x be cN on oc oa k) a0 w (fun g u => u.heap[g]? = some (.cells #[.int .i64 (k : Int)] 3 (0, 0))) P x (3 + cN) L a u) ?_ ?_ ?_
  · rintro L L' a' u i o h ho hno hall hu
    clear hK
    have q4 := (h.fe.ev (j := 4) (by decide)).trans h4
    have q5 := (h.fe.ev (j := 5) (by decide)).trans h5
    have q6 := (h.fe.ev (j := 6) (by decide)).trans h6
    have E := h.e
    have hi : i < 19 := by
      have := (Array.getElem?_eq_some_iff.1 ho).1
      rwa [opspushL_size] at this
    match i, hi with
    | 0, _ =>
      refine og_move (g := none) ho (.tmp 4) (d := some 43) (by kernel_rfl) trivial q4 ?_
      exact h.next ho hall (by decide) (by decide) (by decide) (by decide) (by decide) inj hz hu
    | 1, _ =>
      obtain ⟨h1, h2, h3⟩ := flds (d := some 44) (p := Op.fieldAddr 74 (.tmp 6) 1) (g := none) ho (by kernel_rfl)
      have g0 := q6
      refine og_plain ho h3 trivial ?_
      unfold Oper.wp
      simp only [execOp, h2, g0]
      go_simp
      exact h.next (i := 1) ho hall (by decide) (by decide) (by decide) (by decide) (by decide) inj hz hu
    | 2, _ =>
      obtain ⟨h1, h2, h3⟩ := flds (d := some 45) (p := Op.fieldAddr 69 (.tmp 44) 3) (g := none) ho (by kernel_rfl)
      have g0 := (show a'.eval (.tmp 44) = .pointer (some ⟨be, 1, none⟩) from E 1 (by decide) (by decide) (by decide) (dep ho hall 1 (by kernel_rfl)))
      refine og_plain ho h3 trivial ?_
      unfold Oper.wp
      simp only [execOp, h2, g0]
      go_simp
      exact h.next (i := 2) ho hall (by decide) (by decide) (by decide) (by decide) (by decide) inj hz hu
    | 3, _ =>
      obtain ⟨h1, h2, h3⟩ := flds (d := some 46) (p := Op.load 3 (.tmp 45)) (g := none) ho (by kernel_rfl)
      have g0 := (show a'.eval (.tmp 45) = .pointer (some ⟨be, 4, none⟩) from E 2 (by decide) (by decide) (by decide) (dep ho hall 2 (by kernel_rfl)))
      obtain ⟨c0, c1⟩ := h.g hG0 hGP (fun hl => hno (anc_spec h.dc 40 18 3 (by kernel_rfl) hl))
      refine og_plain ho h3 trivial ?_
      unfold Oper.wp
      simp only [execOp, h2, g0]
      go_simp
      exact h.next (i := 3) ho hall (by decide) (by decide) (by decide) (by decide) (by decide) inj hz hu
    | 4, _ =>
      refine og_move (g := none) ho (.tmp 4) (d := some 47) (by kernel_rfl) trivial q4 ?_
      exact h.next ho hall (by decide) (by decide) (by decide) (by decide) (by decide) inj hz hu
    | 5, _ =>
      obtain ⟨h1, h2, h3⟩ := flds (d := some 48) (p := Op.fieldAddr 74 (.tmp 6) 1) (g := none) ho (by kernel_rfl)
      have g0 := q6
      refine og_plain ho h3 trivial ?_
      unfold Oper.wp
      simp only [execOp, h2, g0]
      go_simp
      exact h.next (i := 5) ho hall (by decide) (by decide) (by decide) (by decide) (by decide) inj hz hu
    | 6, _ =>
      obtain ⟨h1, h2, h3⟩ := flds (d := some 49) (p := Op.fieldAddr 69 (.tmp 48) 3) (g := none) ho (by kernel_rfl)
      have g0 := (show a'.eval (.tmp 48) = .pointer (some ⟨be, 1, none⟩) from E 5 (by decide) (by decide) (by decide) (dep ho hall 5 (by kernel_rfl)))
      refine og_plain ho h3 trivial ?_
      unfold Oper.wp
      simp only [execOp, h2, g0]
      go_simp
      exact h.next (i := 6) ho hall (by decide) (by decide) (by decide) (by decide) (by decide) inj hz hu
    | 7, _ =>
      obtain ⟨h1, h2, h3⟩ := flds (d := some 50) (p := Op.load 3 (.tmp 49)) (g := none) ho (by kernel_rfl)
      have g0 := (show a'.eval (.tmp 49) = .pointer (some ⟨be, 4, none⟩) from E 6 (by decide) (by decide) (by decide) (dep ho hall 6 (by kernel_rfl)))
      obtain ⟨c0, c1⟩ := h.g hG0 hGP (fun hl => hno (anc_spec h.dc 40 18 7 (by kernel_rfl) hl))
      refine og_plain ho h3 trivial ?_
      unfold Oper.wp
      simp only [execOp, h2, g0]
      go_simp
      exact h.next (i := 7) ho hall (by decide) (by decide) (by decide) (by decide) (by decide) inj hz hu
    | 8, _ =>
      refine og_nil (g := none) ho (.tmp 47) (d := some 51) (by kernel_rfl) trivial (show a'.eval (.tmp 47) = .pointer (some ⟨x, 0, none⟩) from E 4 (by decide) (by decide) (by decide) (dep ho hall 4 (by kernel_rfl))) ?_
      exact h.next ho hall (by decide) (by decide) (by decide) (by decide) (by decide) inj hz hu
    | 9, _ =>
      obtain ⟨h1, h2, h3⟩ := flds (d := some 52) (p := Op.fieldAddr 117 (.tmp 51) 1) (g := none) ho (by kernel_rfl)
      have g0 := (show a'.eval (.tmp 51) = .pointer (some ⟨x, 0, none⟩) from E 8 (by decide) (by decide) (by decide) (dep ho hall 8 (by kernel_rfl)))
      refine og_plain ho h3 trivial ?_
      unfold Oper.wp
      simp only [execOp, h2, g0]
      go_simp
      exact h.next (i := 9) ho hall (by decide) (by decide) (by decide) (by decide) (by decide) inj hz hu
    | 10, _ =>
      obtain ⟨h1, h2, h3⟩ := flds (d := some 53) (p := Op.indexAddr 113 (.tmp 52) (.tmp 50)) (g := none) ho (by kernel_rfl)
      have g0 := (show a'.eval (.tmp 52) = .pointer (some ⟨x, 3, none⟩) from E 9 (by decide) (by decide) (by decide) (dep ho hall 9 (by kernel_rfl)))
      have g1 := (show a'.eval (.tmp 50) = .int .i64 (cN : Int) from E 7 (by decide) (by decide) (by decide) (dep ho hall 7 (by kernel_rfl)))
      refine og_plain ho h3 trivial ?_
      unfold Oper.wp
      simp only [execOp, h2, g0, g1]
      go_simp
      exact h.next (i := 10) ho hall (by decide) (by decide) (by decide) (by decide) (by decide) inj hz hu
    | 11, _ =>
      obtain ⟨h1, h2, h3⟩ := flds (d := some 54) (p := Op.load 26 (.tmp 53)) (g := none) ho (by kernel_rfl)
      have g0 := (show a'.eval (.tmp 53) = .pointer (some ⟨x, 3 + cN, none⟩) from E 10 (by decide) (by decide) (by decide) (dep ho hall 10 (by kernel_rfl)))
      obtain ⟨c0, c1⟩ := h.g hG0 hGP (fun hl => hno (anc_spec h.dc 40 18 11 (by kernel_rfl) hl))
      refine og_plain ho h3 trivial ?_
      unfold Oper.wp
      simp only [execOp, h2, g0]
      go_simp
      exact h.next (i := 11) ho hall (by decide) (by decide) (by decide) (by decide) (by decide) inj hz hu
    | 12, _ =>
      refine og_move (g := none) ho (.tmp 5) (d := some 55) (by kernel_rfl) trivial q5 ?_
      exact h.next ho hall (by decide) (by decide) (by decide) (by decide) (by decide) inj hz hu
    | 13, _ =>
      obtain ⟨h1, h2, h3⟩ := flds (d := some 56) (p := Op.buildSlice 26 1 #[(0, .tmp 55)]) (g := none) ho (by kernel_rfl)
      have g0 := (show a'.eval (.tmp 55) = .int .i64 (k : Int) from E 12 (by decide) (by decide) (by decide) (dep ho hall 12 (by kernel_rfl)))
      have gt : a'.tmps[55]?.getD undef = .int .i64 (k : Int) := by simpa [Act.eval] using g0
      refine og_plain ho h3 trivial ?_
      unfold Oper.wp
      simp only [execOp, h2]
      go_simp
      exact h.build ho hall hno (by decide) (by decide) (by decide) inj hz hu (by kernel_rfl) (by kernel_rfl) (.cells #[.int .i64 (k : Int)] 3) (fun _ => heap_alloc_new _ _)
    | 14, _ =>
      obtain ⟨g, hg1, hg2⟩ := h.b (dep ho hall 13 (by kernel_rfl)) hno
      obtain ⟨v', u', hr, hP⟩ := hA u g (h.n hno) hg2
      refine og_app (g := none) ho (.tmp 54) (.tmp 56) 26 (d := some 57) (by kernel_rfl) trivial (show a'.eval (.tmp 54) = .slice oa on oc from E 11 (by decide) (by decide) (by decide) (dep ho hall 11 (by kernel_rfl))) hg1 hr ?_
      exact h.app ho hall hno (by decide) (by decide) (by decide) inj hz hu (by kernel_rfl) hP
    | 15, _ =>
      refine og_nil (g := none) ho (.tmp 43) (d := some 58) (by kernel_rfl) trivial (show a'.eval (.tmp 43) = .pointer (some ⟨x, 0, none⟩) from E 0 (by decide) (by decide) (by decide) (dep ho hall 0 (by kernel_rfl))) ?_
      exact h.next ho hall (by decide) (by decide) (by decide) (by decide) (by decide) inj hz hu
    | 16, _ =>
      obtain ⟨h1, h2, h3⟩ := flds (d := some 59) (p := Op.fieldAddr 117 (.tmp 58) 1) (g := none) ho (by kernel_rfl)
      have g0 := (show a'.eval (.tmp 58) = .pointer (some ⟨x, 0, none⟩) from E 15 (by decide) (by decide) (by decide) (dep ho hall 15 (by kernel_rfl)))
      refine og_plain ho h3 trivial ?_
      unfold Oper.wp
      simp only [execOp, h2, g0]
      go_simp
      exact h.next (i := 16) ho hall (by decide) (by decide) (by decide) (by decide) (by decide) inj hz hu
    | 17, _ =>
      obtain ⟨h1, h2, h3⟩ := flds (d := some 60) (p := Op.indexAddr 113 (.tmp 59) (.tmp 46)) (g := none) ho (by kernel_rfl)
      have g0 := (show a'.eval (.tmp 59) = .pointer (some ⟨x, 3, none⟩) from E 16 (by decide) (by decide) (by decide) (dep ho hall 16 (by kernel_rfl)))
      have g1 := (show a'.eval (.tmp 46) = .int .i64 (cN : Int) from E 3 (by decide) (by decide) (by decide) (dep ho hall 3 (by kernel_rfl)))
      refine og_plain ho h3 trivial ?_
      unfold Oper.wp
      simp only [execOp, h2, g0, g1]
      go_simp
      exact h.next (i := 17) ho hall (by decide) (by decide) (by decide) (by decide) (by decide) inj hz hu
    | 18, _ =>
      obtain ⟨h1, h2, h3⟩ := flds (d := none) (p := Op.store 26 (.tmp 60) (.tmp 57)) (g := none) ho (by kernel_rfl)
      have lp : L 14 := dep ho hall 14 (by kernel_rfl)
      have hp := h.p lp hno
      obtain ⟨⟨A, n, c, hv⟩, hfz⟩ := hSt _ _ hp
      have hcs := hGP _ _ hp
      have hcell := hcs.2
      have g0 := (show a'.eval (.tmp 60) = .pointer (some ⟨x, 3 + cN, none⟩) from E 17 (by decide) (by decide) (by decide) (dep ho hall 17 (by kernel_rfl)))
      have g1 : a'.eval (.tmp 57) = .slice A n c := hv
      refine og_plain ho h3 trivial ?_
      unfold Oper.wp
      simp only [execOp, h2, g0, g1]
      go_simp
      have hh := h.store ho hall hno (by decide) (by decide) hu lp
      rw [show a'.eval (.tmp (slpushL 14)) = .slice A n c from hv] at hh
      exact hh
    | i + 19, hi => omega
  · rintro L a' u h hall
    rw [opspushL_size] at hall
    obtain ⟨V', v', u1, hp, rfl, rfl⟩ := h.done hz (hall 18 (by omega))
    exact hK V' v' u1 hp
  · intro L hL
    exact JP.start ((Below.refl _ _).drew) hL

noncomputable def opspushS : Array Oper := (Tryz.f45.body.bind (opsAt 6)).getD #[]
theorem opspushS_size : opspushS.size = 17 := by kernel_rfl
theorem opspushS_earlier : Earlier opspushS := by
  have h : (List.range 17).all (fun i => ((opspushS[i]?).map (fun o => o.after.all (fun e => !Region.binds .any e || decide (e.on < i)))).getD true) = true := by kernel_rfl
  intro i o ho e he hb
  have hi : i < 17 := by
    have := (Array.getElem?_eq_some_iff.1 ho).1
    rwa [opspushS_size] at this
  have h1 := List.all_eq_true.1 h i (List.mem_range.2 hi)
  rw [ho] at h1
  simp only [Option.map_some, Option.getD_some, Array.all_eq_true'] at h1
  have h2 := h1 e he
  rw [hb] at h2
  simpa using h2
def slpushS (j : Nat) : Nat := ([48, 49, 50, 51, 52, 53, 54, 55, 56, 57, 58, 59, 60, 61, 62, 63] : List Nat).getD j 0
def VpushS (x be cN on oc : Nat) (oa : Option Addr) (k : Nat) (j : Nat) : Value := [.pointer (some ⟨x, 0, none⟩), .pointer (some ⟨be, 1, none⟩), .int .i64 (cN : Int), .pointer (some ⟨x, 0, none⟩), .pointer (some ⟨be, 1, none⟩), .int .i64 (cN : Int), .pointer (some ⟨x, 0, none⟩), .pointer (some ⟨x, 68, none⟩), .pointer (some ⟨x, 68 + cN, none⟩), .slice oa on oc, .int .i64 (k : Int), .slice oa on oc, .slice oa on oc, .pointer (some ⟨x, 0, none⟩), .pointer (some ⟨x, 68, none⟩), .pointer (some ⟨x, 68 + cN, none⟩)].getD j (.bool false)

set_option maxRecDepth 100000 in
set_option maxHeartbeats 4000000 in
theorem pushS (a0 : Act) (w : World) {Q : Exit → Act → World → Prop} (x be cN on oc : Nat) (oa : Option Addr) (k : Nat) (h0 : a0.eval (.tmp 0) = .pointer (some ⟨x, 0, none⟩)) (h1 : a0.eval (.tmp 1) = .int .i64 (k : Int)) (h5 : a0.eval (.tmp 5) = .pointer (some ⟨be, 0, none⟩)) (hzz : 63 < a0.tmps.size) (c65 : (cN : Int) < 65) (P : Value → World → Prop)
    (hG0 : ∀ u, Below w.heap.size w u → u.cell? ⟨be, 1, none⟩ = some (.int .i64 (cN : Int)) ∧ u.cell? ⟨x, 68 + cN, none⟩ = some (.slice oa on oc)) (hGP : ∀ v u, P v u → u.cell? ⟨be, 1, none⟩ = some (.int .i64 (cN : Int)) ∧ u.cell? ⟨x, 68 + cN, none⟩ = some (.slice oa on oc))
    (hA : ∀ u g, Below w.heap.size w u → u.heap[g]? = some (.cells #[.int .i64 (k : Int)] 3 (0, 0)) → ∃ v' u', (∀ ty, (Builtin.append_ #[26, 26] ty #[.slice oa on oc, .slice (some ⟨g, 0, none⟩) 1 1]).run Tryz.prog u = .ok v' u') ∧ P v' u')
    (hSt : ∀ v u, P v u → (∃ A n c, v = .slice A n c) ∧ u.frozen? ⟨x, 68 + cN, none⟩ = false)
    (hK : ∀ (V' : Nat → Value) v' u1, P v' u1 → Q .normal (puts a0 ((List.range 16).map fun j => (slpushS j, V' j))) (u1.setCell ⟨x, 68 + cN, none⟩ v')) :
    (Code.region 6 opspushS true).wp Tryz.prog Q a0 w := by
  have inj : ∀ i j, i < 16 → j < 16 → slpushS i = slpushS j → i = j := by
    have h : (List.range 16).all (fun i => (List.range 16).all (fun j => decide (slpushS i = slpushS j → i = j))) = true := by kernel_rfl
    intro i j hi hj he
    have h1 := List.all_eq_true.1 h i (List.mem_range.2 hi)
    have h2 := List.all_eq_true.1 h1 j (List.mem_range.2 hj)
    exact (of_decide_eq_true h2) he
  have hz : ∀ j, j < 16 → slpushS j < a0.tmps.size := by
    have h : (List.range 16).all (fun i => decide (slpushS i ≤ 63)) = true := by kernel_rfl
    intro j hj
    have := of_decide_eq_true (List.all_eq_true.1 h j (List.mem_range.2 hj))
    omega
  refine wp_region_inv (by kernel_rfl) opspushS_earlier (fun L a u => JP opspushS slpushS 16 11 12 (VpushS x be cN on oc oa k) a0 w (fun g u => u.heap[g]? = some (.cells #[.int .i64 (k : Int)] 3 (0, 0))) P x (68 + cN) L a u) ?_ ?_ ?_
  · rintro L L' a' u i o h ho hno hall hu
    clear hK
    have q0 := (h.fe.ev (j := 0) (by decide)).trans h0
    have q1 := (h.fe.ev (j := 1) (by decide)).trans h1
    have q5 := (h.fe.ev (j := 5) (by decide)).trans h5
    have E := h.e
    have hi : i < 17 := by
      have := (Array.getElem?_eq_some_iff.1 ho).1
      rwa [opspushS_size] at this
    match i, hi with
    | 0, _ =>
      refine og_move (g := none) ho (.tmp 0) (d := some 48) (by kernel_rfl) trivial q0 ?_
      exact h.next ho hall (by decide) (by decide) (by decide) (by decide) (by decide) inj hz hu
    | 1, _ =>
      obtain ⟨h1, h2, h3⟩ := flds (d := some 49) (p := Op.fieldAddr 76 (.tmp 5) 1) (g := none) ho (by kernel_rfl)
      have g0 := q5
      refine og_plain ho h3 trivial ?_
      unfold Oper.wp
      simp only [execOp, h2, g0]
      go_simp
      exact h.next (i := 1) ho hall (by decide) (by decide) (by decide) (by decide) (by decide) inj hz hu
    | 2, _ =>
      obtain ⟨h1, h2, h3⟩ := flds (d := some 50) (p := Op.load 3 (.tmp 49)) (g := none) ho (by kernel_rfl)
      have g0 := (show a'.eval (.tmp 49) = .pointer (some ⟨be, 1, none⟩) from E 1 (by decide) (by decide) (by decide) (dep ho hall 1 (by kernel_rfl)))
      obtain ⟨c0, c1⟩ := h.g hG0 hGP (fun hl => hno (anc_spec h.dc 40 16 2 (by kernel_rfl) hl))
      refine og_plain ho h3 trivial ?_
      unfold Oper.wp
      simp only [execOp, h2, g0]
      go_simp
      exact h.next (i := 2) ho hall (by decide) (by decide) (by decide) (by decide) (by decide) inj hz hu
    | 3, _ =>
      refine og_move (g := none) ho (.tmp 0) (d := some 51) (by kernel_rfl) trivial q0 ?_
      exact h.next ho hall (by decide) (by decide) (by decide) (by decide) (by decide) inj hz hu
    | 4, _ =>
      obtain ⟨h1, h2, h3⟩ := flds (d := some 52) (p := Op.fieldAddr 76 (.tmp 5) 1) (g := none) ho (by kernel_rfl)
      have g0 := q5
      refine og_plain ho h3 trivial ?_
      unfold Oper.wp
      simp only [execOp, h2, g0]
      go_simp
      exact h.next (i := 4) ho hall (by decide) (by decide) (by decide) (by decide) (by decide) inj hz hu
    | 5, _ =>
      obtain ⟨h1, h2, h3⟩ := flds (d := some 53) (p := Op.load 3 (.tmp 52)) (g := none) ho (by kernel_rfl)
      have g0 := (show a'.eval (.tmp 52) = .pointer (some ⟨be, 1, none⟩) from E 4 (by decide) (by decide) (by decide) (dep ho hall 4 (by kernel_rfl)))
      obtain ⟨c0, c1⟩ := h.g hG0 hGP (fun hl => hno (anc_spec h.dc 40 16 5 (by kernel_rfl) hl))
      refine og_plain ho h3 trivial ?_
      unfold Oper.wp
      simp only [execOp, h2, g0]
      go_simp
      exact h.next (i := 5) ho hall (by decide) (by decide) (by decide) (by decide) (by decide) inj hz hu
    | 6, _ =>
      refine og_nil (g := none) ho (.tmp 51) (d := some 54) (by kernel_rfl) trivial (show a'.eval (.tmp 51) = .pointer (some ⟨x, 0, none⟩) from E 3 (by decide) (by decide) (by decide) (dep ho hall 3 (by kernel_rfl))) ?_
      exact h.next ho hall (by decide) (by decide) (by decide) (by decide) (by decide) inj hz hu
    | 7, _ =>
      obtain ⟨h1, h2, h3⟩ := flds (d := some 55) (p := Op.fieldAddr 117 (.tmp 54) 2) (g := none) ho (by kernel_rfl)
      have g0 := (show a'.eval (.tmp 54) = .pointer (some ⟨x, 0, none⟩) from E 6 (by decide) (by decide) (by decide) (dep ho hall 6 (by kernel_rfl)))
      refine og_plain ho h3 trivial ?_
      unfold Oper.wp
      simp only [execOp, h2, g0]
      go_simp
      exact h.next (i := 7) ho hall (by decide) (by decide) (by decide) (by decide) (by decide) inj hz hu
    | 8, _ =>
      obtain ⟨h1, h2, h3⟩ := flds (d := some 56) (p := Op.indexAddr 113 (.tmp 55) (.tmp 53)) (g := none) ho (by kernel_rfl)
      have g0 := (show a'.eval (.tmp 55) = .pointer (some ⟨x, 68, none⟩) from E 7 (by decide) (by decide) (by decide) (dep ho hall 7 (by kernel_rfl)))
      have g1 := (show a'.eval (.tmp 53) = .int .i64 (cN : Int) from E 5 (by decide) (by decide) (by decide) (dep ho hall 5 (by kernel_rfl)))
      refine og_plain ho h3 trivial ?_
      unfold Oper.wp
      simp only [execOp, h2, g0, g1]
      go_simp
      exact h.next (i := 8) ho hall (by decide) (by decide) (by decide) (by decide) (by decide) inj hz hu
    | 9, _ =>
      obtain ⟨h1, h2, h3⟩ := flds (d := some 57) (p := Op.load 26 (.tmp 56)) (g := none) ho (by kernel_rfl)
      have g0 := (show a'.eval (.tmp 56) = .pointer (some ⟨x, 68 + cN, none⟩) from E 8 (by decide) (by decide) (by decide) (dep ho hall 8 (by kernel_rfl)))
      obtain ⟨c0, c1⟩ := h.g hG0 hGP (fun hl => hno (anc_spec h.dc 40 16 9 (by kernel_rfl) hl))
      refine og_plain ho h3 trivial ?_
      unfold Oper.wp
      simp only [execOp, h2, g0]
      go_simp
      exact h.next (i := 9) ho hall (by decide) (by decide) (by decide) (by decide) (by decide) inj hz hu
    | 10, _ =>
      refine og_move (g := none) ho (.tmp 1) (d := some 58) (by kernel_rfl) trivial q1 ?_
      exact h.next ho hall (by decide) (by decide) (by decide) (by decide) (by decide) inj hz hu
    | 11, _ =>
      obtain ⟨h1, h2, h3⟩ := flds (d := some 59) (p := Op.buildSlice 26 1 #[(0, .tmp 58)]) (g := none) ho (by kernel_rfl)
      have g0 := (show a'.eval (.tmp 58) = .int .i64 (k : Int) from E 10 (by decide) (by decide) (by decide) (dep ho hall 10 (by kernel_rfl)))
      have gt : a'.tmps[58]?.getD undef = .int .i64 (k : Int) := by simpa [Act.eval] using g0
      refine og_plain ho h3 trivial ?_
      unfold Oper.wp
      simp only [execOp, h2]
      go_simp
      exact h.build ho hall hno (by decide) (by decide) (by decide) inj hz hu (by kernel_rfl) (by kernel_rfl) (.cells #[.int .i64 (k : Int)] 3) (fun _ => heap_alloc_new _ _)
    | 12, _ =>
      obtain ⟨g, hg1, hg2⟩ := h.b (dep ho hall 11 (by kernel_rfl)) hno
      obtain ⟨v', u', hr, hP⟩ := hA u g (h.n hno) hg2
      refine og_app (g := none) ho (.tmp 57) (.tmp 59) 26 (d := some 60) (by kernel_rfl) trivial (show a'.eval (.tmp 57) = .slice oa on oc from E 9 (by decide) (by decide) (by decide) (dep ho hall 9 (by kernel_rfl))) hg1 hr ?_
      exact h.app ho hall hno (by decide) (by decide) (by decide) inj hz hu (by kernel_rfl) hP
    | 13, _ =>
      refine og_nil (g := none) ho (.tmp 48) (d := some 61) (by kernel_rfl) trivial (show a'.eval (.tmp 48) = .pointer (some ⟨x, 0, none⟩) from E 0 (by decide) (by decide) (by decide) (dep ho hall 0 (by kernel_rfl))) ?_
      exact h.next ho hall (by decide) (by decide) (by decide) (by decide) (by decide) inj hz hu
    | 14, _ =>
      obtain ⟨h1, h2, h3⟩ := flds (d := some 62) (p := Op.fieldAddr 117 (.tmp 61) 2) (g := none) ho (by kernel_rfl)
      have g0 := (show a'.eval (.tmp 61) = .pointer (some ⟨x, 0, none⟩) from E 13 (by decide) (by decide) (by decide) (dep ho hall 13 (by kernel_rfl)))
      refine og_plain ho h3 trivial ?_
      unfold Oper.wp
      simp only [execOp, h2, g0]
      go_simp
      exact h.next (i := 14) ho hall (by decide) (by decide) (by decide) (by decide) (by decide) inj hz hu
    | 15, _ =>
      obtain ⟨h1, h2, h3⟩ := flds (d := some 63) (p := Op.indexAddr 113 (.tmp 62) (.tmp 50)) (g := none) ho (by kernel_rfl)
      have g0 := (show a'.eval (.tmp 62) = .pointer (some ⟨x, 68, none⟩) from E 14 (by decide) (by decide) (by decide) (dep ho hall 14 (by kernel_rfl)))
      have g1 := (show a'.eval (.tmp 50) = .int .i64 (cN : Int) from E 2 (by decide) (by decide) (by decide) (dep ho hall 2 (by kernel_rfl)))
      refine og_plain ho h3 trivial ?_
      unfold Oper.wp
      simp only [execOp, h2, g0, g1]
      go_simp
      exact h.next (i := 15) ho hall (by decide) (by decide) (by decide) (by decide) (by decide) inj hz hu
    | 16, _ =>
      obtain ⟨h1, h2, h3⟩ := flds (d := none) (p := Op.store 26 (.tmp 63) (.tmp 60)) (g := none) ho (by kernel_rfl)
      have lp : L 12 := dep ho hall 12 (by kernel_rfl)
      have hp := h.p lp hno
      obtain ⟨⟨A, n, c, hv⟩, hfz⟩ := hSt _ _ hp
      have hcs := hGP _ _ hp
      have hcell := hcs.2
      have g0 := (show a'.eval (.tmp 63) = .pointer (some ⟨x, 68 + cN, none⟩) from E 15 (by decide) (by decide) (by decide) (dep ho hall 15 (by kernel_rfl)))
      have g1 : a'.eval (.tmp 60) = .slice A n c := hv
      refine og_plain ho h3 trivial ?_
      unfold Oper.wp
      simp only [execOp, h2, g0, g1]
      go_simp
      have hh := h.store ho hall hno (by decide) (by decide) hu lp
      rw [show a'.eval (.tmp (slpushS 12)) = .slice A n c from hv] at hh
      exact hh
    | i + 17, hi => omega
  · rintro L a' u h hall
    rw [opspushS_size] at hall
    obtain ⟨V', v', u1, hp, rfl, rfl⟩ := h.done hz (hall 16 (by omega))
    exact hK V' v' u1 hp
  · intro L hL
    exact JP.start ((Below.refl _ _).drew) hL

noncomputable def opspushD : Array Oper := (Tryz.f45.body.bind (opsAt 5)).getD #[]
theorem opspushD_size : opspushD.size = 17 := by kernel_rfl
theorem opspushD_earlier : Earlier opspushD := by
  have h : (List.range 17).all (fun i => ((opspushD[i]?).map (fun o => o.after.all (fun e => !Region.binds .any e || decide (e.on < i)))).getD true) = true := by kernel_rfl
  intro i o ho e he hb
  have hi : i < 17 := by
    have := (Array.getElem?_eq_some_iff.1 ho).1
    rwa [opspushD_size] at this
  have h1 := List.all_eq_true.1 h i (List.mem_range.2 hi)
  rw [ho] at h1
  simp only [Option.map_some, Option.getD_some, Array.all_eq_true'] at h1
  have h2 := h1 e he
  rw [hb] at h2
  simpa using h2
def slpushD (j : Nat) : Nat := ([32, 33, 34, 35, 36, 37, 38, 39, 40, 41, 42, 43, 44, 45, 46, 47] : List Nat).getD j 0
def VpushD (x be cN on oc : Nat) (oa : Option Addr) (bd : Nat) (dt dk dp dc dl ds ec el es : Int) (j : Nat) : Value := [.pointer (some ⟨x, 0, none⟩), .pointer (some ⟨be, 1, none⟩), .int .i64 (cN : Int), .pointer (some ⟨x, 0, none⟩), .pointer (some ⟨be, 1, none⟩), .int .i64 (cN : Int), .pointer (some ⟨x, 0, none⟩), .pointer (some ⟨x, 133, none⟩), .pointer (some ⟨x, 133 + cN, none⟩), .slice oa on oc, .agg #[.int .i64 dt, .int .i64 dk, .int .i64 dp, .int .u8 dc, .int .i64 dl, .int .i64 ds, .int .u8 ec, .int .i64 el, .int .i64 es], .slice oa on oc, .slice oa on oc, .pointer (some ⟨x, 0, none⟩), .pointer (some ⟨x, 133, none⟩), .pointer (some ⟨x, 133 + cN, none⟩)].getD j (.bool false)

set_option maxRecDepth 100000 in
set_option maxHeartbeats 4000000 in
theorem pushD (a0 : Act) (w : World) {Q : Exit → Act → World → Prop} (x be cN on oc : Nat) (oa : Option Addr) (bd : Nat) (dt dk dp dc dl ds ec el es : Int) (h0 : a0.eval (.tmp 0) = .pointer (some ⟨x, 0, none⟩)) (h5 : a0.eval (.tmp 5) = .pointer (some ⟨be, 0, none⟩)) (h6 : a0.eval (.tmp 6) = .pointer (some ⟨bd, 0, none⟩)) (hzz : 47 < a0.tmps.size) (c65 : (cN : Int) < 65) (P : Value → World → Prop)
    (hG0 : ∀ u, Below w.heap.size w u → u.cell? ⟨be, 1, none⟩ = some (.int .i64 (cN : Int)) ∧ u.cell? ⟨x, 133 + cN, none⟩ = some (.slice oa on oc) ∧ u.cell? ⟨bd, 0, none⟩ = some (.int .i64 dt) ∧ u.cell? ⟨bd, 1, none⟩ = some (.int .i64 dk) ∧ u.cell? ⟨bd, 2, none⟩ = some (.int .i64 dp) ∧ u.cell? ⟨bd, 3, none⟩ = some (.int .u8 dc) ∧ u.cell? ⟨bd, 4, none⟩ = some (.int .i64 dl) ∧ u.cell? ⟨bd, 5, none⟩ = some (.int .i64 ds) ∧ u.cell? ⟨bd, 6, none⟩ = some (.int .u8 ec) ∧ u.cell? ⟨bd, 7, none⟩ = some (.int .i64 el) ∧ u.cell? ⟨bd, 8, none⟩ = some (.int .i64 es)) (hGP : ∀ v u, P v u → u.cell? ⟨be, 1, none⟩ = some (.int .i64 (cN : Int)) ∧ u.cell? ⟨x, 133 + cN, none⟩ = some (.slice oa on oc) ∧ u.cell? ⟨bd, 0, none⟩ = some (.int .i64 dt) ∧ u.cell? ⟨bd, 1, none⟩ = some (.int .i64 dk) ∧ u.cell? ⟨bd, 2, none⟩ = some (.int .i64 dp) ∧ u.cell? ⟨bd, 3, none⟩ = some (.int .u8 dc) ∧ u.cell? ⟨bd, 4, none⟩ = some (.int .i64 dl) ∧ u.cell? ⟨bd, 5, none⟩ = some (.int .i64 ds) ∧ u.cell? ⟨bd, 6, none⟩ = some (.int .u8 ec) ∧ u.cell? ⟨bd, 7, none⟩ = some (.int .i64 el) ∧ u.cell? ⟨bd, 8, none⟩ = some (.int .i64 es))
    (hA : ∀ u g, Below w.heap.size w u → u.heap[g]? = some (.cells #[.int .i64 dt, .int .i64 dk, .int .i64 dp, .int .u8 dc, .int .i64 dl, .int .i64 ds, .int .u8 ec, .int .i64 el, .int .i64 es] 143 (0, 0)) → ∃ v' u', (∀ ty, (Builtin.append_ #[114, 114] ty #[.slice oa on oc, .slice (some ⟨g, 0, none⟩) 1 1]).run Tryz.prog u = .ok v' u') ∧ P v' u')
    (hSt : ∀ v u, P v u → (∃ A n c, v = .slice A n c) ∧ u.frozen? ⟨x, 133 + cN, none⟩ = false)
    (hK : ∀ (V' : Nat → Value) v' u1, P v' u1 → Q .normal (puts a0 ((List.range 16).map fun j => (slpushD j, V' j))) (u1.setCell ⟨x, 133 + cN, none⟩ v')) :
    (Code.region 5 opspushD true).wp Tryz.prog Q a0 w := by
  have inj : ∀ i j, i < 16 → j < 16 → slpushD i = slpushD j → i = j := by
    have h : (List.range 16).all (fun i => (List.range 16).all (fun j => decide (slpushD i = slpushD j → i = j))) = true := by kernel_rfl
    intro i j hi hj he
    have h1 := List.all_eq_true.1 h i (List.mem_range.2 hi)
    have h2 := List.all_eq_true.1 h1 j (List.mem_range.2 hj)
    exact (of_decide_eq_true h2) he
  have hz : ∀ j, j < 16 → slpushD j < a0.tmps.size := by
    have h : (List.range 16).all (fun i => decide (slpushD i ≤ 47)) = true := by kernel_rfl
    intro j hj
    have := of_decide_eq_true (List.all_eq_true.1 h j (List.mem_range.2 hj))
    omega
  refine wp_region_inv (by kernel_rfl) opspushD_earlier (fun L a u => JP opspushD slpushD 16 11 12 (VpushD x be cN on oc oa bd dt dk dp dc dl ds ec el es) a0 w (fun g u => u.heap[g]? = some (.cells #[.int .i64 dt, .int .i64 dk, .int .i64 dp, .int .u8 dc, .int .i64 dl, .int .i64 ds, .int .u8 ec, .int .i64 el, .int .i64 es] 143 (0, 0))) P x (133 + cN) L a u) ?_ ?_ ?_
  · rintro L L' a' u i o h ho hno hall hu
    clear hK
    have q0 := (h.fe.ev (j := 0) (by decide)).trans h0
    have q5 := (h.fe.ev (j := 5) (by decide)).trans h5
    have q6 := (h.fe.ev (j := 6) (by decide)).trans h6
    have E := h.e
    have hi : i < 17 := by
      have := (Array.getElem?_eq_some_iff.1 ho).1
      rwa [opspushD_size] at this
    match i, hi with
    | 0, _ =>
      refine og_move (g := none) ho (.tmp 0) (d := some 32) (by kernel_rfl) trivial q0 ?_
      exact h.next ho hall (by decide) (by decide) (by decide) (by decide) (by decide) inj hz hu
    | 1, _ =>
      obtain ⟨h1, h2, h3⟩ := flds (d := some 33) (p := Op.fieldAddr 76 (.tmp 5) 1) (g := none) ho (by kernel_rfl)
      have g0 := q5
      refine og_plain ho h3 trivial ?_
      unfold Oper.wp
      simp only [execOp, h2, g0]
      go_simp
      exact h.next (i := 1) ho hall (by decide) (by decide) (by decide) (by decide) (by decide) inj hz hu
    | 2, _ =>
      obtain ⟨h1, h2, h3⟩ := flds (d := some 34) (p := Op.load 3 (.tmp 33)) (g := none) ho (by kernel_rfl)
      have g0 := (show a'.eval (.tmp 33) = .pointer (some ⟨be, 1, none⟩) from E 1 (by decide) (by decide) (by decide) (dep ho hall 1 (by kernel_rfl)))
      obtain ⟨c0, c1, c2, c3, c4, c5, c6, c7, c8, c9, c10⟩ := h.g hG0 hGP (fun hl => hno (anc_spec h.dc 40 16 2 (by kernel_rfl) hl))
      refine og_plain ho h3 trivial ?_
      unfold Oper.wp
      simp only [execOp, h2, g0]
      go_simp
      exact h.next (i := 2) ho hall (by decide) (by decide) (by decide) (by decide) (by decide) inj hz hu
    | 3, _ =>
      refine og_move (g := none) ho (.tmp 0) (d := some 35) (by kernel_rfl) trivial q0 ?_
      exact h.next ho hall (by decide) (by decide) (by decide) (by decide) (by decide) inj hz hu
    | 4, _ =>
      obtain ⟨h1, h2, h3⟩ := flds (d := some 36) (p := Op.fieldAddr 76 (.tmp 5) 1) (g := none) ho (by kernel_rfl)
      have g0 := q5
      refine og_plain ho h3 trivial ?_
      unfold Oper.wp
      simp only [execOp, h2, g0]
      go_simp
      exact h.next (i := 4) ho hall (by decide) (by decide) (by decide) (by decide) (by decide) inj hz hu
    | 5, _ =>
      obtain ⟨h1, h2, h3⟩ := flds (d := some 37) (p := Op.load 3 (.tmp 36)) (g := none) ho (by kernel_rfl)
      have g0 := (show a'.eval (.tmp 36) = .pointer (some ⟨be, 1, none⟩) from E 4 (by decide) (by decide) (by decide) (dep ho hall 4 (by kernel_rfl)))
      obtain ⟨c0, c1, c2, c3, c4, c5, c6, c7, c8, c9, c10⟩ := h.g hG0 hGP (fun hl => hno (anc_spec h.dc 40 16 5 (by kernel_rfl) hl))
      refine og_plain ho h3 trivial ?_
      unfold Oper.wp
      simp only [execOp, h2, g0]
      go_simp
      exact h.next (i := 5) ho hall (by decide) (by decide) (by decide) (by decide) (by decide) inj hz hu
    | 6, _ =>
      refine og_nil (g := none) ho (.tmp 35) (d := some 38) (by kernel_rfl) trivial (show a'.eval (.tmp 35) = .pointer (some ⟨x, 0, none⟩) from E 3 (by decide) (by decide) (by decide) (dep ho hall 3 (by kernel_rfl))) ?_
      exact h.next ho hall (by decide) (by decide) (by decide) (by decide) (by decide) inj hz hu
    | 7, _ =>
      obtain ⟨h1, h2, h3⟩ := flds (d := some 39) (p := Op.fieldAddr 117 (.tmp 38) 3) (g := none) ho (by kernel_rfl)
      have g0 := (show a'.eval (.tmp 38) = .pointer (some ⟨x, 0, none⟩) from E 6 (by decide) (by decide) (by decide) (dep ho hall 6 (by kernel_rfl)))
      refine og_plain ho h3 trivial ?_
      unfold Oper.wp
      simp only [execOp, h2, g0]
      go_simp
      exact h.next (i := 7) ho hall (by decide) (by decide) (by decide) (by decide) (by decide) inj hz hu
    | 8, _ =>
      obtain ⟨h1, h2, h3⟩ := flds (d := some 40) (p := Op.indexAddr 115 (.tmp 39) (.tmp 37)) (g := none) ho (by kernel_rfl)
      have g0 := (show a'.eval (.tmp 39) = .pointer (some ⟨x, 133, none⟩) from E 7 (by decide) (by decide) (by decide) (dep ho hall 7 (by kernel_rfl)))
      have g1 := (show a'.eval (.tmp 37) = .int .i64 (cN : Int) from E 5 (by decide) (by decide) (by decide) (dep ho hall 5 (by kernel_rfl)))
      refine og_plain ho h3 trivial ?_
      unfold Oper.wp
      simp only [execOp, h2, g0, g1]
      go_simp
      exact h.next (i := 8) ho hall (by decide) (by decide) (by decide) (by decide) (by decide) inj hz hu
    | 9, _ =>
      obtain ⟨h1, h2, h3⟩ := flds (d := some 41) (p := Op.load 114 (.tmp 40)) (g := none) ho (by kernel_rfl)
      have g0 := (show a'.eval (.tmp 40) = .pointer (some ⟨x, 133 + cN, none⟩) from E 8 (by decide) (by decide) (by decide) (dep ho hall 8 (by kernel_rfl)))
      obtain ⟨c0, c1, c2, c3, c4, c5, c6, c7, c8, c9, c10⟩ := h.g hG0 hGP (fun hl => hno (anc_spec h.dc 40 16 9 (by kernel_rfl) hl))
      refine og_plain ho h3 trivial ?_
      unfold Oper.wp
      simp only [execOp, h2, g0]
      go_simp
      exact h.next (i := 9) ho hall (by decide) (by decide) (by decide) (by decide) (by decide) inj hz hu
    | 10, _ =>
      obtain ⟨h1, h2, h3⟩ := flds (d := some 42) (p := Op.load 143 (.tmp 6)) (g := none) ho (by kernel_rfl)
      have g0 := q6
      obtain ⟨c0, c1, c2, c3, c4, c5, c6, c7, c8, c9, c10⟩ := h.g hG0 hGP (fun hl => hno (anc_spec h.dc 40 16 10 (by kernel_rfl) hl))
      refine og_plain ho h3 trivial ?_
      unfold Oper.wp
      simp only [execOp, h2, g0]
      go_simp
      exact h.next (i := 10) ho hall (by decide) (by decide) (by decide) (by decide) (by decide) inj hz hu
    | 11, _ =>
      obtain ⟨h1, h2, h3⟩ := flds (d := some 43) (p := Op.buildSlice 114 1 #[(0, .tmp 42)]) (g := none) ho (by kernel_rfl)
      have g0 := (show a'.eval (.tmp 42) = .agg #[.int .i64 dt, .int .i64 dk, .int .i64 dp, .int .u8 dc, .int .i64 dl, .int .i64 ds, .int .u8 ec, .int .i64 el, .int .i64 es] from E 10 (by decide) (by decide) (by decide) (dep ho hall 10 (by kernel_rfl)))
      have gt : a'.tmps[42]?.getD undef = .agg #[.int .i64 dt, .int .i64 dk, .int .i64 dp, .int .u8 dc, .int .i64 dl, .int .i64 ds, .int .u8 ec, .int .i64 el, .int .i64 es] := by simpa [Act.eval] using g0
      refine og_plain ho h3 trivial ?_
      unfold Oper.wp
      simp only [execOp, h2]
      go_simp
      exact h.build ho hall hno (by decide) (by decide) (by decide) inj hz hu (by kernel_rfl) (by kernel_rfl) (.cells #[.int .i64 dt, .int .i64 dk, .int .i64 dp, .int .u8 dc, .int .i64 dl, .int .i64 ds, .int .u8 ec, .int .i64 el, .int .i64 es] 143) (fun _ => heap_alloc_new _ _)
    | 12, _ =>
      obtain ⟨g, hg1, hg2⟩ := h.b (dep ho hall 11 (by kernel_rfl)) hno
      obtain ⟨v', u', hr, hP⟩ := hA u g (h.n hno) hg2
      refine og_app (g := none) ho (.tmp 41) (.tmp 43) 114 (d := some 44) (by kernel_rfl) trivial (show a'.eval (.tmp 41) = .slice oa on oc from E 9 (by decide) (by decide) (by decide) (dep ho hall 9 (by kernel_rfl))) hg1 hr ?_
      exact h.app ho hall hno (by decide) (by decide) (by decide) inj hz hu (by kernel_rfl) hP
    | 13, _ =>
      refine og_nil (g := none) ho (.tmp 32) (d := some 45) (by kernel_rfl) trivial (show a'.eval (.tmp 32) = .pointer (some ⟨x, 0, none⟩) from E 0 (by decide) (by decide) (by decide) (dep ho hall 0 (by kernel_rfl))) ?_
      exact h.next ho hall (by decide) (by decide) (by decide) (by decide) (by decide) inj hz hu
    | 14, _ =>
      obtain ⟨h1, h2, h3⟩ := flds (d := some 46) (p := Op.fieldAddr 117 (.tmp 45) 3) (g := none) ho (by kernel_rfl)
      have g0 := (show a'.eval (.tmp 45) = .pointer (some ⟨x, 0, none⟩) from E 13 (by decide) (by decide) (by decide) (dep ho hall 13 (by kernel_rfl)))
      refine og_plain ho h3 trivial ?_
      unfold Oper.wp
      simp only [execOp, h2, g0]
      go_simp
      exact h.next (i := 14) ho hall (by decide) (by decide) (by decide) (by decide) (by decide) inj hz hu
    | 15, _ =>
      obtain ⟨h1, h2, h3⟩ := flds (d := some 47) (p := Op.indexAddr 115 (.tmp 46) (.tmp 34)) (g := none) ho (by kernel_rfl)
      have g0 := (show a'.eval (.tmp 46) = .pointer (some ⟨x, 133, none⟩) from E 14 (by decide) (by decide) (by decide) (dep ho hall 14 (by kernel_rfl)))
      have g1 := (show a'.eval (.tmp 34) = .int .i64 (cN : Int) from E 2 (by decide) (by decide) (by decide) (dep ho hall 2 (by kernel_rfl)))
      refine og_plain ho h3 trivial ?_
      unfold Oper.wp
      simp only [execOp, h2, g0, g1]
      go_simp
      exact h.next (i := 15) ho hall (by decide) (by decide) (by decide) (by decide) (by decide) inj hz hu
    | 16, _ =>
      obtain ⟨h1, h2, h3⟩ := flds (d := none) (p := Op.store 114 (.tmp 47) (.tmp 44)) (g := none) ho (by kernel_rfl)
      have lp : L 12 := dep ho hall 12 (by kernel_rfl)
      have hp := h.p lp hno
      obtain ⟨⟨A, n, c, hv⟩, hfz⟩ := hSt _ _ hp
      have hcs := hGP _ _ hp
      have hcell := hcs.2.1
      have g0 := (show a'.eval (.tmp 47) = .pointer (some ⟨x, 133 + cN, none⟩) from E 15 (by decide) (by decide) (by decide) (dep ho hall 15 (by kernel_rfl)))
      have g1 : a'.eval (.tmp 44) = .slice A n c := hv
      refine og_plain ho h3 trivial ?_
      unfold Oper.wp
      simp only [execOp, h2, g0, g1]
      go_simp
      have hh := h.store ho hall hno (by decide) (by decide) hu lp
      rw [show a'.eval (.tmp (slpushD 12)) = .slice A n c from hv] at hh
      exact hh
    | i + 17, hi => omega
  · rintro L a' u h hall
    rw [opspushD_size] at hall
    obtain ⟨V', v', u1, hp, rfl, rfl⟩ := h.done hz (hall 16 (by omega))
    exact hK V' v' u1 hp
  · intro L hL
    exact JP.start ((Below.refl _ _).drew) hL

end Go.Proofs.YtfhghijefjhehaaGreatDoor

/-! Hj -/
namespace Go.Proofs.YtfhghijefjhehaaGreatDoor
open Go.RowKit
set_option linter.unusedVariables false

theorem edFields : Tryz.prog.underlying 74 = some (.struct (Tryz.prog.fieldsOf 74)) := by kernel_rfl
theorem edHeld : Tryz.prog.stoodInHeld 74 = false := by kernel_rfl

theorem edEq (t k p c l s t' k' p' c' l' s' : Int) (W : World) : (Op.equalIn 10000 74 (.agg #[.int .i64 t, .int .i64 k, .int .i64 p, .int .u8 c, .int .i64 l, .int .i64 s]) (.agg #[.int .i64 t', .int .i64 k', .int .i64 p', .int .u8 c', .int .i64 l', .int .i64 s'])).run Tryz.prog W =
    .ok (decide (t = t' ∧ k = k' ∧ p = p' ∧ c = c' ∧ l = l' ∧ s = s')) W := by
  rw [show (10000 : Nat) = 9999 + 1 from rfl, run_equalIn_struct W _ _ _ _ edFields edHeld]
  simp only [Program.fieldsOf, Tryz.underlying74]
  by_cases h0 : t = t'
  · simp [Op.eqFields, part, go_sem, h0]
    (repeat' split) <;> simp_all
  · simp [Op.eqFields, part, go_sem, h0]
theorem edNe {k p c l s k' p' c' l' s' t t' : Int} (h : (⟨t, ⟨k, p, c, l, s⟩⟩ : Ed) ≠ ⟨t', ⟨k', p', c', l', s'⟩⟩) (W : World) : (Op.equalIn 10000 74 (.agg #[.int .i64 t, .int .i64 k, .int .i64 p, .int .u8 c, .int .i64 l, .int .i64 s]) (.agg #[.int .i64 t', .int .i64 k', .int .i64 p', .int .u8 c', .int .i64 l', .int .i64 s'])).run Tryz.prog W = .ok false W := by
  rw [edEq]
  congr 1
  simp only [ne_eq, Ed.mk.injEq, OpE.mk.injEq] at h
  simpa using h
theorem edSame (t k p c l s : Int) (W : World) : (Op.equalIn 10000 74 (.agg #[.int .i64 t, .int .i64 k, .int .i64 p, .int .u8 c, .int .i64 l, .int .i64 s]) (.agg #[.int .i64 t, .int .i64 k, .int .i64 p, .int .u8 c, .int .i64 l, .int .i64 s])).run Tryz.prog W = .ok true W := by
  rw [edEq]
  simp
end Go.Proofs.YtfhghijefjhehaaGreatDoor

/-! Ib -/
namespace Go.Proofs.YtfhghijefjhehaaGreatDoor
open Go.RowKit
set_option linter.unusedVariables false

def lastP (l : List Nat) : Int := match l.getLast? with
  | some j => (j : Int)
  | none => -1
def evV (e : Ev) (a : Option Addr) (c : Nat) : Value := .agg #[.int .i64 e.step, .int .i64 e.site, .int .i64 e.hav, .int .i64 e.made, .int .i64 e.o.kind, .int .i64 e.o.pos, .int .u8 e.o.ch, .int .i64 e.o.cl, .int .i64 e.o.sq, .slice a e.len c]
def evO (evs : List Ev) (A : Nat → Option Addr) (K : Nat → Nat) : Option Nat → Value
  | some j => evV (evs.getD j zev) (A j) (K j)
  | none => evV zev none 0
def oI : Option Nat → Int
  | some j => (j : Int)
  | none => -1
theorem lastP_eq (l : List Nat) : lastP l = oI l.getLast? := by
  unfold lastP oI
  cases l.getLast? <;> rfl

section
variable {w : World} {x : Nat} {C : Int} {vL vE : Value} {S : Nat → Ls} {L : Nat → Option Nat}

/-- The list i of places, to be read. -/
theorem TL.ints (h : TL w x C vL vE S L) {i : Nat} (hi : i < 195) {l : List Nat} (hS : S i = .ns l) : ∃ a c, w.cell? ⟨x, 3 + i, none⟩ = some (.slice a l.length c) ∧ (0 < l.length → ∃ g, a = some ⟨g, 0, none⟩ ∧ ∀ k (hk : k < l.length), w.cell? ⟨g, k, none⟩ = some (.int .i64 (l[k] : Int))) ∧ l.length ≤ 9223372036854775807 := by
  obtain ⟨v, hv, hs⟩ := h.slot i hi
  rw [hS] at hs
  cases hb : L i with
  | none =>
    rw [hb] at hs
    obtain ⟨rfl, rfl⟩ := hs
    exact ⟨none, 0, hv, fun h => by simp at h, by simp⟩
  | some g =>
    rw [hb] at hs
    obtain ⟨cap, rfl, hR⟩ := hs
    refine ⟨_, _, hv, fun _ => ⟨g, rfl, fun k hk => ?_⟩, ?_⟩
    · have := RowF.cell hR szN k 0 hk (by omega)
      rw [Nat.mul_one, Nat.add_zero] at this
      rw [this]
      rfl
    · obtain ⟨cur, -, -, -, h1, h2, -⟩ := hR
      omega

set_option maxRecDepth 100000 in
set_option maxHeartbeats 4000000 in
theorem last_any (h : TL w x C vL vE S L) (c : Nat) (hc : c < 65) (l : List Nat) (hS : S (65 + c) = .ns l) :
    Calls Tryz.prog 80 #[.pointer (some ⟨x, 0, none⟩), .int .i64 c] w fun e w' => e = .returned (.int .i64 (lastP l)) ∧ Below w.heap.size w w' := by
  obtain ⟨a, cp, hv, hg, hl⟩ := h.ints (i := 65 + c) (by omega) hS
  rw [show 3 + (65 + c) = 68 + c from by omega] at hv
  have c65 : (c : Int) < 65 := by omega
  have HH := hd h
  clear h
  cases l with
  | nil =>
    simp only [List.length_nil] at hv
    clear hg hl
    go_enter Tryz.func80, Tryz.ntmps80
    go_wp2
    go_ret
    exact ⟨rfl, Below.refl _ _⟩
  | cons y l =>
    obtain ⟨g, rfl, hcell⟩ := hg (by simp)
    have h1 := hcell l.length (by simp)
    have HG : Hid (lastP (y :: l) = (((y :: l)[l.length]'(by simp) : Nat) : Int)) := by
      unfold Hid lastP
      rw [List.getLast?_eq_getElem?]
      simp
    generalize (y :: l)[l.length]'(by simp) = z at h1 HG
    simp only [List.length_cons] at hv hl
    clear hcell hg
    rw [HG.out]
    have k1 : (((l.length + 1 : Nat) : Int) == 0) = false := by simp; omega
    have h1' : w.cell? ⟨g, l.length + 1 - 1, none⟩ = some (.int .i64 (z : Int)) := h1
    clear h1
    have hn1 : 1 ≤ l.length + 1 := by omega
    generalize l.length + 1 = n at *
    go_enter Tryz.func80, Tryz.ntmps80
    go_wp2
    go_ret
    exact ⟨rfl, Below.refl _ _⟩

set_option maxRecDepth 100000 in
set_option maxHeartbeats 4000000 in
theorem event_any {evs : List Ev} {A : Nat → Option Addr} {K : Nat → Nat} {aE : Option Addr} {nE cE : Nat} (h : TL w x C vL (.slice aE nE cE) S L) (hV : IsV w aE nE evs A K) (j : Option Nat) (hj : ∀ k, j = some k → k < evs.length) :
    Calls Tryz.prog 79 #[.pointer (some ⟨x, 0, none⟩), .int .i64 (oI j)] w fun e w' => e = .returned (evO evs A K j) ∧ Below w.heap.size w w' := by
  obtain ⟨-, -, h2⟩ := h.heads
  have lx := h.lt
  clear h
  cases j with
  | none =>
    simp only [oI, evO]
    clear hV hj
    go_enter Tryz.func79, Tryz.ntmps79
    go_wp2
    refine bodyPost_ret (v := evV zev none 0) (by simp [results, Tryz.results79, go_sem, evV, zev, zo]) rfl ?_
    exact ⟨rfl, by repeat (first | exact Below.refl _ _ | refine Below.alloc ?_ (by simp) _ | refine Below.setCell ?_ (by simp) _)⟩
  | some k =>
    have hk := hj k rfl
    clear hj
    obtain ⟨b, off, rfl, s1, q⟩ := hV.2 (by have := hV.1; omega)
    obtain ⟨q0, q1, q2, q3, q4, q5, q6, q7, q8, q9⟩ := q k hk
    have i1 : (k : Int) < (nE : Int) := by have := hV.1; omega
    have hd1 : evs.getD k zev = evs[k] := by simp [List.getD, List.getElem?_eq_getElem hk]
    simp only [oI, evO, hd1]
    clear q hV hd1
    generalize evs[k] = y at *
    obtain ⟨x0, x1, x2, x3, ⟨ok, op, oc, oL, os⟩, xn⟩ := y
    simp only at q0 q1 q2 q3 q4 q5 q6 q7 q8 q9
    have k1 : ((k : Int) == -1) = false := by first | (simp; done) | (simp; omega)
    have ne : ¬ b = w.heap.size := by omega
    go_enter Tryz.func79, Tryz.ntmps79
    go_wp2
    refine bodyPost_ret (v := .agg #[.int .i64 x0, .int .i64 x1, .int .i64 x2, .int .i64 x3, .int .i64 ok, .int .i64 op, .int .u8 oc, .int .i64 oL, .int .i64 os, .slice (A k) xn (K k)]) (by simp [results, Tryz.results79, go_sem]) rfl ?_
    exact ⟨rfl, by repeat (first | exact Below.refl _ _ | refine Below.alloc ?_ (by simp) _ | refine Below.setCell ?_ (by simp) _)⟩
end

end Go.Proofs.YtfhghijefjhehaaGreatDoor
