/-
  The tale: canLog.
-/
import Derived.Test.YtfhghijefjhehaaGreatDoorMIc
import Derived.Test.YtfhghijefjhehaaGreatDoorMHq
namespace Go.Proofs.YtfhghijefjhehaaGreatDoor
open Go.RowKit
set_option linter.unusedVariables false

section
variable {w : World} {x : Nat} {C : Int} {vE : Value} {S : Nat → Ls} {L : Nat → Option Nat}

set_option maxRecDepth 100000 in
set_option maxHeartbeats 8000000 in
theorem canLog_any {aL : Option Addr} {nL cL : Nat} {log : List Ed} (h : TL w x C (.slice aL nL cL) vE S L) (hL : IsL w aL nL log) (k : Nat) (hk : k ≤ nL) (hn : nL ≤ 4096) (tg ok op oc oL os : Int) (h0 : 0 ≤ oc) (h1 : oc ≤ 255) (hS : ∀ c : Nat, c < 65 → S c = .ns (lgAt log k c)) :
    Calls Tryz.prog 42 #[.pointer (some ⟨x, 0, none⟩), .int .i64 k, .agg #[.int .i64 tg, .int .i64 ok, .int .i64 op, .int .u8 oc, .int .i64 oL, .int .i64 os]] w
      fun e w' => ∃ r : Bool, e = .returned (.bool r) ∧ (r = true ↔ canP chg C log k ⟨tg, ⟨ok, op, oc, oL, os⟩⟩) ∧ Below w.heap.size w w' := by
  have hb : Below w.heap.size w (w.alloc (.cells #[.int .i64 tg, .int .i64 ok, .int .i64 op, .int .u8 oc, .int .i64 oL, .int .i64 os] 74)) := (Below.refl _ _).alloc (Nat.le_refl _) _
  have hE := hd (heap_alloc_new w (.cells #[.int .i64 tg, .int .i64 ok, .int .i64 op, .int .u8 oc, .int .i64 oL, .int .i64 os] 74))
  have HT := hd (h.below hb)
  have HL := hd (hL.below hb (Nat.le_refl _))
  have HB := hd hb
  have HS := hd hS
  have HN := hd hn
  have HK := hd hk
  have CV := hd (fun W => isEdit_any ok op oc oL os W h0 h1)
  clear hb h hL hS hn hk
  go_enter Tryz.func42, Tryz.ntmps42
  go_upto_region 1 with fail
  generalize w.alloc (.cells #[.int .i64 tg, .int .i64 ok, .int .i64 op, .int .u8 oc, .int .i64 oL, .int .i64 os] 74) = w1 at *
  have lE := block_lt hE.out
  have lx := HT.out.lt
  have e0 := cell_row hE.out 0; have e1 := cell_row hE.out 1; have e2 := cell_row hE.out 2; have e3 := cell_row hE.out 3; have e4 := cell_row hE.out 4; have e5 := cell_row hE.out 5
  simp at e0 e1 e2 e3 e4 e5
  obtain ⟨x0, x1, -⟩ := HT.out.heads
  have nW : Nonempty (Wd w1) := ⟨⟨w1, Below.refl _ _⟩⟩
  cases hch : chP ⟨ok, op, oc, oL, os⟩ with
  | false =>
    rw [hch] at CV
    have ze0 := fun y : Wd w1 => y.cell e0 lE; have ze1 := fun y : Wd w1 => y.cell e1 lE; have ze2 := fun y : Wd w1 => y.cell e2 lE; have ze3 := fun y : Wd w1 => y.cell e3 lE; have ze4 := fun y : Wd w1 => y.cell e4 lE; have ze5 := fun y : Wd w1 => y.cell e5 lE; have zx0 := fun y : Wd w1 => y.cell x0 lx; have zx1 := fun y : Wd w1 => y.cell x1 lx
    refine wp_region_calm (by kernel_rfl) (by kernel_rfl) ?_
    (repeat (go_big_quiet_step ((rename_i y; exact calm_call (CV.out y.W)))))
    refine wpQuiet_nil ?_
    intro u hz
    obtain ⟨⟨u', bu⟩, hu⟩ := hz
    have hu' : u = u' := hu
    subst hu'
    have BU := hd bu
    have BZ := hd (HB.out.trans (bu.mono HB.out.size))
    clear hu bu ze0 ze1 ze2 ze3 ze4 ze5 zx0 zx1
    go_wp2
    go_ret
    have nG : ¬ canP chg C log k ⟨tg, ⟨ok, op, oc, oL, os⟩⟩ := fun h => by have h1 := h.1; simp only [chg] at h1; rw [hch] at h1; cases h1
    first
      | exact .inl ⟨rfl, nG, BZ.out⟩
      | exact ⟨false, rfl, iff_of_false (by decide) nG, BZ.out⟩
  | true =>
    rw [hch] at CV
    have HCH := hd hch
    obtain ⟨r1, r2, r3, r4⟩ := chP_range hch
    simp only at r1 r2 r3 r4
    obtain ⟨cN, rfl⟩ : ∃ cN : Nat, oL = (cN : Int) := ⟨oL.toNat, by omega⟩
    have c65 : (cN : Int) < 65 := by omega
    clear hch
    by_cases a1 : C < (cN : Int)
    · have q0 := trivial
      have ze0 := fun y : Wd w1 => y.cell e0 lE; have ze1 := fun y : Wd w1 => y.cell e1 lE; have ze2 := fun y : Wd w1 => y.cell e2 lE; have ze3 := fun y : Wd w1 => y.cell e3 lE; have ze4 := fun y : Wd w1 => y.cell e4 lE; have ze5 := fun y : Wd w1 => y.cell e5 lE; have zx0 := fun y : Wd w1 => y.cell x0 lx; have zx1 := fun y : Wd w1 => y.cell x1 lx
      refine wp_region_calm (by kernel_rfl) (by kernel_rfl) ?_
      (repeat (go_big_quiet_step ((rename_i y; exact calm_call (CV.out y.W)))))
      refine wpQuiet_nil ?_
      intro u hz
      obtain ⟨⟨u', bu⟩, hu⟩ := hz
      have hu' : u = u' := hu
      subst hu'
      have BU := hd bu
      have BZ := hd (HB.out.trans (bu.mono HB.out.size))
      clear hu bu ze0 ze1 ze2 ze3 ze4 ze5 zx0 zx1
      go_wp2
      go_ret
      have nG : ¬ canP chg C log k ⟨tg, ⟨ok, op, oc, (cN : Int), os⟩⟩ := fun h => by have := h.2.1; simp only at this; omega
      first
        | exact .inl ⟨rfl, nG, BZ.out⟩
        | exact ⟨false, rfl, iff_of_false (by decide) nG, BZ.out⟩
    · have q0 := trivial
      have ze0 := fun y : Wd w1 => y.cell e0 lE; have ze1 := fun y : Wd w1 => y.cell e1 lE; have ze2 := fun y : Wd w1 => y.cell e2 lE; have ze3 := fun y : Wd w1 => y.cell e3 lE; have ze4 := fun y : Wd w1 => y.cell e4 lE; have ze5 := fun y : Wd w1 => y.cell e5 lE; have zx0 := fun y : Wd w1 => y.cell x0 lx; have zx1 := fun y : Wd w1 => y.cell x1 lx
      refine wp_region_calm (by kernel_rfl) (by kernel_rfl) ?_
      (repeat (go_big_quiet_step ((rename_i y; exact calm_call (CV.out y.W)))))
      refine wpQuiet_nil ?_
      intro u hz
      obtain ⟨⟨u', bu⟩, hu⟩ := hz
      have hu' : u = u' := hu
      subst hu'
      have BU := hd bu
      have BZ := hd (HB.out.trans (bu.mono HB.out.size))
      clear hu bu ze0 ze1 ze2 ze3 ze4 ze5 zx0 zx1
      have HTu := hd (HT.out.below BU.out)
      have HLu := hd (HL.out.below BU.out (Nat.le_refl _))
      obtain ⟨a, cp, hv, hg, hl⟩ := HTu.out.ints (i := cN) (by omega) (HS.out cN (by omega))
      have hll := lgAt_le log k (cN : Int)
      have HM := hd (fun j (hj : j ∈ lgAt log k (cN : Int)) => lgAt_lt hj)
      have HCP : Hid (∀ least : Int, lstAt log k (cN : Int) = least → (canP chg C log k ⟨tg, ⟨ok, op, oc, (cN : Int), os⟩⟩ ↔ os = ((lgAt log k (cN : Int)).length : Int) + 1 ∧ least ≤ tg ∧ tg ≤ (k : Int))) := by
        rintro least rfl
        unfold canP
        simp only
        exact ⟨fun h => ⟨h.2.2.1, h.2.2.2.1, h.2.2.2.2⟩, fun h => ⟨HCH.out, by omega, h.1, h.2.1, h.2.2⟩⟩
      have ul := BU.out.size
      have j0 := (BU.out.cell (p := ⟨w.heap.size, 0, none⟩) lE).trans e0
      have j1 := (BU.out.cell (p := ⟨w.heap.size, 1, none⟩) lE).trans e1
      have j2 := (BU.out.cell (p := ⟨w.heap.size, 2, none⟩) lE).trans e2
      have j3 := (BU.out.cell (p := ⟨w.heap.size, 3, none⟩) lE).trans e3
      have j4 := (BU.out.cell (p := ⟨w.heap.size, 4, none⟩) lE).trans e4
      have j5 := (BU.out.cell (p := ⟨w.heap.size, 5, none⟩) lE).trans e5
      have jx1 := (BU.out.cell (p := ⟨x, 1, none⟩) lx).trans x1
      clear e0 e1 e2 e3 e4 e5 x0 x1 ul
      cases hlc : lgAt log k (cN : Int) with
      | nil =>
        have hls : lstAt log k (cN : Int) = 0 := by unfold lstAt; rw [hlc]; rfl
        have HCP := hd (HCP.out 0 hls)
        rw [hlc] at hv HCP
        simp only [List.length_nil] at hv HCP
        clear hg hl hls hll HM hlc
        obtain ⟨n, hn0⟩ : ∃ n : Nat, n = 0 := ⟨0, rfl⟩
        have k0 : ¬ (0 : Int) < (n : Int) := by omega
        rw [← hn0] at hv HCP
        have hnb : n ≤ 4096 := by omega
        clear hn0
        by_cases b1 : os = (n : Int) + 1
        · subst b1
          have kw : wrap64 ((n : Int) + 1) = (n : Int) + 1 := wrap64_id (by omega) (by omega)
          by_cases b2 : (0 : Int) ≤ tg
          · have HR : Hid (canP chg C log k ⟨tg, ⟨ok, op, oc, (cN : Int), (n : Int) + 1⟩⟩ ↔ tg ≤ (k : Int)) := ⟨fun h => (HCP.out.1 h).2.2, fun h => HCP.out.2 ⟨rfl, b2, h⟩⟩
            clear HCP
            go_wp2_with fail
            go_quiet (fail)
            go_wp2
            go_ret
            exact ⟨_, rfl, by rw [decide_eq_true_iff]; exact HR.out.symm, below_drewN BZ.out _⟩
          · have nG : Hid (¬ canP chg C log k ⟨tg, ⟨ok, op, oc, (cN : Int), (n : Int) + 1⟩⟩) := fun h => b2 (HCP.out.1 h).2.1
            have kb : decide ((0 : Int) ≤ tg) = false := by simpa using b2
            clear HCP
            go_wp2_with fail
            go_quiet (fail)
            go_wp2
            go_ret
            first
              | exact .inl ⟨rfl, nG.out, below_drewN BZ.out _⟩
              | exact ⟨false, rfl, iff_of_false (by decide) nG.out, below_drewN BZ.out _⟩
        · have nG : Hid (¬ canP chg C log k ⟨tg, ⟨ok, op, oc, (cN : Int), os⟩⟩) := fun h => b1 (HCP.out.1 h).1
          have kw : wrap64 ((n : Int) + 1) = (n : Int) + 1 := wrap64_id (by omega) (by omega)
          have kb : (os == (n : Int) + 1) = false := by simpa using b1
          clear HCP b1
          go_wp2_with fail
          go_quiet (fail)
          go_wp2
          go_ret
          first
            | exact .inl ⟨rfl, nG.out, below_drewN BZ.out _⟩
            | exact ⟨false, rfl, iff_of_false (by decide) nG.out, below_drewN BZ.out _⟩
      | cons y l =>
        rw [hlc] at hv hg hl HCP hll HM
        obtain ⟨g, rfl, hcell⟩ := hg (by simp)
        have h2 := hcell l.length (by simp)
        obtain ⟨hz1, ez, hz2, hz3⟩ := HM.out ((y :: l)[l.length]'(by simp)) (List.getElem_mem _)
        have hls : lstAt log k (cN : Int) = ez.tag := by
          unfold lstAt
          rw [hlc, List.getLast?_eq_getElem?]
          simp only [List.length_cons, Nat.add_sub_cancel]
          rw [List.getElem?_eq_getElem (by simp)]
          simp only
          rw [hz2]
        have HCP := hd (HCP.out ez.tag hls)
        obtain ⟨hzl, hze⟩ := List.getElem?_eq_some_iff.1 hz2
        obtain ⟨b, off, rfl, s1, qq⟩ := HLu.out.2 (by have := HLu.out.1; omega)
        have q0 := (qq _ hzl).1
        rw [hze] at q0
        have k3 : ((((y :: l)[l.length]'(by simp) : Nat)) : Int) < (nL : Int) := by have := HLu.out.1; omega
        generalize (y :: l)[l.length]'(by simp) = z at *
        generalize ez.tag = least at *
        have hnb : l.length + 1 ≤ 4096 := by have := HN.out; have := HK.out; simp only [List.length_cons] at hll; omega
        simp only [List.length_cons] at hv HCP
        clear hcell hg hl hls hll HM hlc hz1 hz2 hz3 hzl hze qq
        generalize l.length = m at *
        have k0 : (0 : Int) < (m : Int) + 1 := by omega
        have kk : (m : Int) < (m : Int) + 1 := by omega
        have km : IntKind.i64.wrap (m : Int) = (m : Int) := by rw [IntKind.wrap_i64]; omega
        go_wp2_with fail
        go_quiet (fail)
        go_wp2_with fail
        go_quiet (fail)
        go_upto_region 7 with fail
        obtain ⟨n, hn⟩ : ∃ n : Nat, n = m + 1 := ⟨_, rfl⟩
        rw [← hn] at hnb ⊢
        have HCP : Hid (canP chg C log k ⟨tg, ⟨ok, op, oc, (cN : Int), os⟩⟩ ↔ os = (n : Int) + 1 ∧ least ≤ tg ∧ tg ≤ (k : Int)) := by rw [hn]; exact HCP.out
        clear hn k0 kk km h2 q0 k3 hv jx1 j1 j2 j3 j4 r1 r2 r3 r4 c65 h0 h1 lE lx s1 nW
        by_cases b1 : os = (n : Int) + 1
        · subst b1
          have kw : wrap64 ((n : Int) + 1) = (n : Int) + 1 := wrap64_id (by omega) (by omega)
          by_cases b2 : least ≤ tg
          · have HR : Hid (canP chg C log k ⟨tg, ⟨ok, op, oc, (cN : Int), (n : Int) + 1⟩⟩ ↔ tg ≤ (k : Int)) := ⟨fun h => (HCP.out.1 h).2.2, fun h => HCP.out.2 ⟨rfl, b2, h⟩⟩
            clear HCP
            go_wp2
            go_ret
            exact ⟨_, rfl, by rw [decide_eq_true_iff]; exact HR.out.symm, (by first | exact below_drewN BZ.out _ | exact below_drewN (below_drewN BZ.out _) _)⟩
          · have nG : Hid (¬ canP chg C log k ⟨tg, ⟨ok, op, oc, (cN : Int), (n : Int) + 1⟩⟩) := fun h => b2 (HCP.out.1 h).2.1
            have kb : decide (least ≤ tg) = false := by simpa using b2
            clear HCP
            go_wp2
            go_ret
            first
              | exact .inl ⟨rfl, nG.out, (by first | exact below_drewN BZ.out _ | exact below_drewN (below_drewN BZ.out _) _)⟩
              | exact ⟨false, rfl, iff_of_false (by decide) nG.out, (by first | exact below_drewN BZ.out _ | exact below_drewN (below_drewN BZ.out _) _)⟩
        · have nG : Hid (¬ canP chg C log k ⟨tg, ⟨ok, op, oc, (cN : Int), os⟩⟩) := fun h => b1 (HCP.out.1 h).1
          have kw : wrap64 ((n : Int) + 1) = (n : Int) + 1 := wrap64_id (by omega) (by omega)
          have kb : (os == (n : Int) + 1) = false := by simpa using b1
          clear HCP b1
          go_wp2
          go_ret
          first
            | exact .inl ⟨rfl, nG.out, (by first | exact below_drewN BZ.out _ | exact below_drewN (below_drewN BZ.out _) _)⟩
            | exact ⟨false, rfl, iff_of_false (by decide) nG.out, (by first | exact below_drewN BZ.out _ | exact below_drewN (below_drewN BZ.out _) _)⟩
end

end Go.Proofs.YtfhghijefjhehaaGreatDoor
