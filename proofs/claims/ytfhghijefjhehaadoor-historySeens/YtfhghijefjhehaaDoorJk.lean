/-
  The document's before, with the text of the event before.
-/
import Derived.Test.YtfhghijefjhehaaDoorMJ
namespace Go.Proofs.YtfhghijefjhehaaDoor
open Go.RowKit
set_option linter.unusedVariables false

theorem pvD_step (evs : List Ev) (D : Nat → List El) (n : Nat) (c : Int) (h : n < evs.length) : pvD evs D (n + 1) c = if evs[n].site = c then D n else pvD evs D n c := by
  unfold pvD
  rw [shAt_step n h c]
  by_cases hc : evs[n].site = c
  · rw [if_pos hc, if_pos hc]
    simp
  · rw [if_neg hc, if_neg hc]
    simp
theorem pvD_zero (evs : List Ev) (D : Nat → List El) (c : Int) : pvD evs D 0 c = [] := rfl

/-- The event before, its text too. -/
def IsQ (w : World) (p : Ev) (tx : List El) (v : Value) : Prop := ∃ (st si ok op oc ol os : Int) (a : Option Addr) (c : Nat), v = .agg #[.int .i64 st, .int .i64 si, .int .i64 p.hav, .int .i64 p.made, .int .i64 ok, .int .i64 op, .int .u8 oc, .int .i64 ol, .int .i64 os, .slice a p.len c] ∧ IsTx w a tx ∧ tx.length = p.len

theorem and_of_right {p q : Prop} (h : q) (k : q → p) : p ∧ q := ⟨k h, h⟩

set_option maxRecDepth 100000 in
set_option maxHeartbeats 4000000 in
theorem before_txt (C : Int) (aL aE : Option Addr) (nL cL nE cE i : Nat) (evs : List Ev) (A : Nat → Option Addr) (K : Nat → Nat) (D : Nat → List El) (w : World) (hV : IsV w aE nE evs A K) (hX : IsX w evs A D) (hi : i < nE) (hil : i < evs.length) (hn : nE ≤ 9223372036854775800) :
    Calls Tryd.prog 29 #[.agg #[.int .i64 C, .slice aL nL cL, .slice aE nE cE], .int .i64 i] w fun e w' => ∃ v j, e = .returned (.tuple #[v, .int .i64 j]) ∧ IsQ w' (pv evs i evs[i].site) (pvD evs D i evs[i].site) v ∧ Below w.heap.size w w' := by
  have HXX := hd hX
  clear hX
  have g := box_hist w #[.int .i64 C, .slice aL nL cL, .slice aE nE cE] 25
  have g0 : ((w.alloc (.cells #[.int .i64 C, .slice aL nL cL, .slice aE nE cE] 25)).alloc (.cells #[.int .i64 0, .int .i64 0, .int .i64 0, .int .i64 0, .int .i64 0, .int .i64 0, .int .u8 0, .int .i64 0, .int .i64 0, .slice none 0 0] 50)).heap[w.heap.size]? = some (.cells #[.int .i64 C, .slice aL nL cL, .slice aE nE cE] 25 (0, 0)) := (heap_alloc_old _ _ (by simp)).trans g
  have g1 : ((w.alloc (.cells #[.int .i64 C, .slice aL nL cL, .slice aE nE cE] 25)).alloc (.cells #[.int .i64 0, .int .i64 0, .int .i64 0, .int .i64 0, .int .i64 0, .int .i64 0, .int .u8 0, .int .i64 0, .int .i64 0, .slice none 0 0] 50)).heap[w.heap.size + 1]? = some (.cells #[.int .i64 0, .int .i64 0, .int .i64 0, .int .i64 0, .int .i64 0, .int .i64 0, .int .u8 0, .int .i64 0, .int .i64 0, .slice none 0 0] 50 (0, 0)) := by
    have := heap_alloc_new (w.alloc (.cells #[.int .i64 C, .slice aL nL cL, .slice aE nE cE] 25)) (.cells #[.int .i64 0, .int .i64 0, .int .i64 0, .int .i64 0, .int .i64 0, .int .i64 0, .int .u8 0, .int .i64 0, .int .i64 0, .slice none 0 0] 50)
    rwa [World.size_alloc] at this
  have gb : Below w.heap.size w ((w.alloc (.cells #[.int .i64 C, .slice aL nL cL, .slice aE nE cE] 25)).alloc (.cells #[.int .i64 0, .int .i64 0, .int .i64 0, .int .i64 0, .int .i64 0, .int .i64 0, .int .u8 0, .int .i64 0, .int .i64 0, .slice none 0 0] 50)) := ((Below.refl _ _).alloc (Nat.le_refl _) _).alloc (by simp) _
  have H2 := hd (hV.below gb (Nat.le_refl _))
  have HG := hd g0
  have HC := hd g1
  have HB := hd gb
  clear hV g g0 g1 gb
  obtain ⟨b, off, rfl, s1, q⟩ := H2.out.2 (by omega)
  have Q := hd q
  clear q s1
  generalize hc : evs[i].site = c
  have QI := hd (hc ▸ (Q.out i hil).2.1)
  clear hc
  have HN := hd hn
  have HI := hd hi
  have i9 : (i : Int) < (nE : Int) := by omega
  have eI : wrap64 ((i : Int) - 1) = jv i := by
    rw [wrap64_id (by omega) (by omega)]
    cases i with
    | zero => rfl
    | succ n => simp only [jv]; omega
  go_enter Tryd.func29, Tryd.ntmps29
  go_upto_region 1 with fail
  generalize (w.alloc (.cells #[.int .i64 C, .slice aL nL cL, .slice (some ⟨b, off, none⟩) nE cE] 25)).alloc (.cells #[.int .i64 0, .int .i64 0, .int .i64 0, .int .i64 0, .int .i64 0, .int .i64 0, .int .u8 0, .int .i64 0, .int .i64 0, .slice none 0 0] 50) = w0 at *
  clear hn hi
  go_wp2_with fail
  have x2 := cell_row HG.out 2
  simp at x2
  go_loopw [6] (fun v wr => ∃ n m : Nat, n ≤ i ∧ v = .int .i64 (jv n) ∧ wr = w0.drewN m ∧ Hid (pv evs i c = pv evs n c ∧ pvD evs D i c = pvD evs D n c)) (fun v _ => (intOf v + 1).toNat)
  case atStart => exact ⟨i, 0, Nat.le_refl _, by rw [← eI], rfl, rfl, rfl⟩
  case round =>
    obtain ⟨n, m, hi', rfl, rfl, HR⟩ := hrel
    clear eI
    have y1 := QI.out
    have r0 := cell_row HC.out 0; have r1 := cell_row HC.out 1; have r2 := cell_row HC.out 2; have r3 := cell_row HC.out 3; have r4 := cell_row HC.out 4
    have r5 := cell_row HC.out 5; have r6 := cell_row HC.out 6; have r7 := cell_row HC.out 7; have r8 := cell_row HC.out 8; have r9 := cell_row HC.out 9
    have t0 := frozen_row HC.out 0; have t1 := frozen_row HC.out 1; have t2 := frozen_row HC.out 2; have t3 := frozen_row HC.out 3; have t4 := frozen_row HC.out 4
    have t5 := frozen_row HC.out 5; have t6 := frozen_row HC.out 6; have t7 := frozen_row HC.out 7; have t8 := frozen_row HC.out 8; have t9 := frozen_row HC.out 9
    simp at r0 r1 r2 r3 r4 r5 r6 r7 r8 r9
    cases n with
    | zero =>
      simp only [jv]
      go_wp2
      refine bodyPost_ret (v := .tuple #[.agg #[.int .i64 0, .int .i64 c, .int .i64 0, .int .i64 0, .int .i64 0, .int .i64 0, .int .u8 0, .int .i64 0, .int .i64 0, .slice none 0 0], .int .i64 (-1)]) (by simp [results, Tryd.results29, go_sem, r0, r1, r2, r3, r4, r5, r6, r7, r8, r9]) rfl ?_
      refine ⟨_, _, rfl, ?_, ?_⟩
      · rw [HR.out.1, HR.out.2]
        exact ⟨_, _, _, _, _, _, _, _, _, rfl, fun h => by simp [pvD_zero] at h, rfl⟩
      · have hb := below_drewN HB.out m
        iterate 10 refine Below.setCell ?_ (by simp) _
        exact hb
    | succ n =>
      simp only [jv]
      have l1 : n < evs.length := by omega
      obtain ⟨q0, q1, q2, q3, q4, q5, q6, q7, q8, q9⟩ := Q.out n l1
      have i1 : (n : Int) < (nE : Int) := by omega
      have HS := hd (pv_step evs n c l1)
      have HSD := hd (pvD_step evs D n c l1)
      have HXn := hd (HXX.out n l1).1
      generalize evs[n] = x at *
      obtain ⟨x0, x1, x2', x3, ⟨ok, op, oc, oL, os⟩, xn⟩ := x
      simp only at q0 q1 q2 q3 q4 q5 q6 q7 q8 q9 HS HSD HXn
      by_cases hc : x1 = c
      · subst hc
        have Z : Hid (pv evs i x1 = ⟨x0, x1, x2', x3, ⟨ok, op, oc, oL, os⟩, xn⟩ ∧ pvD evs D i x1 = D n) := ⟨by rw [HR.out.1, HS.out, if_pos rfl], by rw [HR.out.2, HSD.out, if_pos rfl]⟩
        clear HR HS HSD
        go_wp2_with fail
        go_quiet (fail)
        go_wp2
        refine bodyPost_ret (v := .tuple #[.agg #[.int .i64 x0, .int .i64 x1, .int .i64 x2', .int .i64 x3, .int .i64 ok, .int .i64 op, .int .u8 oc, .int .i64 oL, .int .i64 os, .slice (A n) xn (K n)], .int .i64 n]) (by simp [results, Tryd.results29, go_sem, r0, r1, r2, r3, r4, r5, r6, r7, r8, r9]) rfl ?_
        refine ⟨_, _, rfl, ?_⟩
        refine and_of_right ?_ ?_
        · have hb := below_drewN HB.out (m + nq)
          iterate 10 refine Below.setCell ?_ (by simp) _
          exact hb
        · intro hbl
          rw [Z.out.1, Z.out.2]
          exact ⟨_, _, _, _, _, _, _, _, _, rfl, ((HXX.out.below hbl (Nat.le_refl _)) n l1).2, HXn.out⟩
      · have hb : (x1 == c) = false := by simpa using hc
        have Z : Hid (pv evs i c = pv evs n c ∧ pvD evs D i c = pvD evs D n c) := ⟨by rw [HR.out.1, HS.out, if_neg hc], by rw [HR.out.2, HSD.out, if_neg hc]⟩
        have e3 : wrap64 ((n : Int) - 1) = jv n := by
          have := HN.out
          have := HI.out
          rw [wrap64_id (by omega) (by omega)]
          cases n with
          | zero => rfl
          | succ n => simp only [jv]; omega
        have E3 := hd e3
        clear HR HS HSD e3
        go_wp2_with fail
        go_quiet (fail)
        go_wp2
        have hj : jv n + 1 = (n : Int) := by
          cases n with
          | zero => rfl
          | succ n => simp only [jv]; omega
        first
          | exact ⟨⟨n, _, by omega, by rw [E3.out]; rfl, rfl, Z⟩, by simp only [intOf, E3.out, hj]; omega⟩
          | (rw [E3.out]; exact ⟨⟨n, _, by omega, rfl, rfl, Z⟩, by simp only [intOf, hj]; omega⟩)

end Go.Proofs.YtfhghijefjhehaaDoor
