/-
  Texts put together: Id Io.
-/
import Derived.Test.YtfhghijefjhehaaGreatDoorMIc
import Derived.Test.YtfhghijefjhehaaGreatDoorMHq
import Derived.Test.YtfhghijefjhehaaGreatDoorAsWalk
import Derived.Test.YtfhghijefjhehaaGreatDoorMHza
/-! Id -/
namespace Go.Proofs.YtfhghijefjhehaaGreatDoor
open Go.RowKit
set_option linter.unusedVariables false

section
variable {w : World} {x : Nat} {C : Int} {vE : Value} {S : Nat → Ls} {L : Nat → Option Nat}

set_option maxRecDepth 100000 in
set_option maxHeartbeats 8000000 in
theorem canLog_any {aL : Option Addr} {nL cL : Nat} {log : List Ed} (h : TL w x C (.slice aL nL cL) vE S L) (hL : IsL w aL nL log) (k : Nat) (hk : k ≤ nL) (hn : nL ≤ 4096) (tg ok op oc oL os : Int) (h0 : 0 ≤ oc) (h1 : oc ≤ 255) (hS : ∀ c : Nat, c < 65 → S c = .ns (lgAt log k c)) :
    Calls Tryz.prog 42 #[.pointer (some ⟨x, 0, none⟩), .int .i64 k, .agg #[.int .i64 tg, .int .i64 ok, .int .i64 op, .int .u8 oc, .int .i64 oL, .int .i64 os]] w
      fun e w' => ∃ r : Bool, e = .returned (.bool r) ∧ (r = true ↔ canP chg C log k ⟨tg, ⟨ok, op, oc, oL, os⟩⟩) ∧ Below w.heap.size w w' := by
  have hb : Below w.heap.size w (w.alloc (.cells #[.int .i64 tg, .int .i64 ok, .int .i64 op, .int .u8 oc, .int .i64 oL, .int .i64 os] 74)) := (Below.refl _ _).alloc (Nat.le_refl _) _
  have hE := hd (heap_alloc_new w (.cells #[.int .i64 tg, .int .i64 ok, .int .i64 op, .int .u8 oc, .int .i64 oL, .int .i64 os] 74))
  have HT := hd (h.below hb)
  have HL := hd (hL.below hb (Nat.le_refl _))
  have HB := hd hb
  have HS := hd hS
  have HN := hd hn
  have HK := hd hk
  have CV := hd (fun W => isEdit_any ok op oc oL os W h0 h1)
  clear hb h hL hS hn hk
  go_enter Tryz.func42, Tryz.ntmps42
  go_upto_region 1 with fail
  generalize w.alloc (.cells #[.int .i64 tg, .int .i64 ok, .int .i64 op, .int .u8 oc, .int .i64 oL, .int .i64 os] 74) = w1 at *
  have lE := block_lt hE.out
  have lx := HT.out.lt
  have e0 := cell_row hE.out 0; have e1 := cell_row hE.out 1; have e2 := cell_row hE.out 2; have e3 := cell_row hE.out 3; have e4 := cell_row hE.out 4; have e5 := cell_row hE.out 5
  simp at e0 e1 e2 e3 e4 e5
  obtain ⟨x0, x1, -⟩ := HT.out.heads
  have nW : Nonempty (Wd w1) := ⟨⟨w1, Below.refl _ _⟩⟩
  cases hch : chP ⟨ok, op, oc, oL, os⟩ with
  | false =>
    rw [hch] at CV
    have ze0 := fun y : Wd w1 => y.cell e0 lE; have ze1 := fun y : Wd w1 => y.cell e1 lE; have ze2 := fun y : Wd w1 => y.cell e2 lE; have ze3 := fun y : Wd w1 => y.cell e3 lE; have ze4 := fun y : Wd w1 => y.cell e4 lE; have ze5 := fun y : Wd w1 => y.cell e5 lE; have zx0 := fun y : Wd w1 => y.cell x0 lx; have zx1 := fun y : Wd w1 => y.cell x1 lx
    refine wp_region_calm (by kernel_rfl) (by kernel_rfl) ?_
    (repeat (go_big_quiet_step ((rename_i y; exact calm_call (CV.out y.W)))))
    refine wpQuiet_nil ?_
    intro u hz
    obtain ⟨⟨u', bu⟩, hu⟩ := hz
    have hu' : u = u' := hu
    subst hu'
    have BU := hd bu
    have BZ := hd (HB.out.trans (bu.mono HB.out.size))
    clear hu bu ze0 ze1 ze2 ze3 ze4 ze5 zx0 zx1
    go_wp2
    go_ret
    have nG : ¬ canP chg C log k ⟨tg, ⟨ok, op, oc, oL, os⟩⟩ := fun h => by have h1 := h.1; simp only [chg] at h1; rw [hch] at h1; cases h1
    first
      | exact .inl ⟨rfl, nG, BZ.out⟩
      | exact ⟨false, rfl, iff_of_false (by decide) nG, BZ.out⟩
  | true =>
    rw [hch] at CV
    have HCH := hd hch
    obtain ⟨r1, r2, r3, r4⟩ := chP_range hch
    simp only at r1 r2 r3 r4
    obtain ⟨cN, rfl⟩ : ∃ cN : Nat, oL = (cN : Int) := ⟨oL.toNat, by omega⟩
    have c65 : (cN : Int) < 65 := by omega
    clear hch
    by_cases a1 : C < (cN : Int)
    · have q0 := trivial
      have ze0 := fun y : Wd w1 => y.cell e0 lE; have ze1 := fun y : Wd w1 => y.cell e1 lE; have ze2 := fun y : Wd w1 => y.cell e2 lE; have ze3 := fun y : Wd w1 => y.cell e3 lE; have ze4 := fun y : Wd w1 => y.cell e4 lE; have ze5 := fun y : Wd w1 => y.cell e5 lE; have zx0 := fun y : Wd w1 => y.cell x0 lx; have zx1 := fun y : Wd w1 => y.cell x1 lx
      refine wp_region_calm (by kernel_rfl) (by kernel_rfl) ?_
      (repeat (go_big_quiet_step ((rename_i y; exact calm_call (CV.out y.W)))))
      refine wpQuiet_nil ?_
      intro u hz
      obtain ⟨⟨u', bu⟩, hu⟩ := hz
      have hu' : u = u' := hu
      subst hu'
      have BU := hd bu
      have BZ := hd (HB.out.trans (bu.mono HB.out.size))
      clear hu bu ze0 ze1 ze2 ze3 ze4 ze5 zx0 zx1
      go_wp2
      go_ret
      have nG : ¬ canP chg C log k ⟨tg, ⟨ok, op, oc, (cN : Int), os⟩⟩ := fun h => by have := h.2.1; simp only at this; omega
      first
        | exact .inl ⟨rfl, nG, BZ.out⟩
        | exact ⟨false, rfl, iff_of_false (by decide) nG, BZ.out⟩
    · have q0 := trivial
      have ze0 := fun y : Wd w1 => y.cell e0 lE; have ze1 := fun y : Wd w1 => y.cell e1 lE; have ze2 := fun y : Wd w1 => y.cell e2 lE; have ze3 := fun y : Wd w1 => y.cell e3 lE; have ze4 := fun y : Wd w1 => y.cell e4 lE; have ze5 := fun y : Wd w1 => y.cell e5 lE; have zx0 := fun y : Wd w1 => y.cell x0 lx; have zx1 := fun y : Wd w1 => y.cell x1 lx
      refine wp_region_calm (by kernel_rfl) (by kernel_rfl) ?_
      (repeat (go_big_quiet_step ((rename_i y; exact calm_call (CV.out y.W)))))
      refine wpQuiet_nil ?_
      intro u hz
      obtain ⟨⟨u', bu⟩, hu⟩ := hz
      have hu' : u = u' := hu
      subst hu'
      have BU := hd bu
      have BZ := hd (HB.out.trans (bu.mono HB.out.size))
      clear hu bu ze0 ze1 ze2 ze3 ze4 ze5 zx0 zx1
      have HTu := hd (HT.out.below BU.out)
      have HLu := hd (HL.out.below BU.out (Nat.le_refl _))
      obtain ⟨a, cp, hv, hg, hl⟩ := HTu.out.ints (i := cN) (by omega) (HS.out cN (by omega))
      have hll := lgAt_le log k (cN : Int)
      have HM := hd (fun j (hj : j ∈ lgAt log k (cN : Int)) => lgAt_lt hj)
      have HCP : Hid (∀ least : Int, lstAt log k (cN : Int) = least → (canP chg C log k ⟨tg, ⟨ok, op, oc, (cN : Int), os⟩⟩ ↔ os = ((lgAt log k (cN : Int)).length : Int) + 1 ∧ least ≤ tg ∧ tg ≤ (k : Int))) := by
        rintro least rfl
        unfold canP
        simp only
        exact ⟨fun h => ⟨h.2.2.1, h.2.2.2.1, h.2.2.2.2⟩, fun h => ⟨HCH.out, by omega, h.1, h.2.1, h.2.2⟩⟩
      have ul := BU.out.size
      have j0 := (BU.out.cell (p := ⟨w.heap.size, 0, none⟩) lE).trans e0
      have j1 := (BU.out.cell (p := ⟨w.heap.size, 1, none⟩) lE).trans e1
      have j2 := (BU.out.cell (p := ⟨w.heap.size, 2, none⟩) lE).trans e2
      have j3 := (BU.out.cell (p := ⟨w.heap.size, 3, none⟩) lE).trans e3
      have j4 := (BU.out.cell (p := ⟨w.heap.size, 4, none⟩) lE).trans e4
      have j5 := (BU.out.cell (p := ⟨w.heap.size, 5, none⟩) lE).trans e5
      have jx1 := (BU.out.cell (p := ⟨x, 1, none⟩) lx).trans x1
      clear e0 e1 e2 e3 e4 e5 x0 x1 ul
      cases hlc : lgAt log k (cN : Int) with
      | nil =>
        have hls : lstAt log k (cN : Int) = 0 := by unfold lstAt; rw [hlc]; rfl
        have HCP := hd (HCP.out 0 hls)
        rw [hlc] at hv HCP
        simp only [List.length_nil] at hv HCP
        clear hg hl hls hll HM hlc
        obtain ⟨n, hn0⟩ : ∃ n : Nat, n = 0 := ⟨0, rfl⟩
        have k0 : ¬ (0 : Int) < (n : Int) := by omega
        rw [← hn0] at hv HCP
        have hnb : n ≤ 4096 := by omega
        clear hn0
        by_cases b1 : os = (n : Int) + 1
        · subst b1
          have kw : wrap64 ((n : Int) + 1) = (n : Int) + 1 := wrap64_id (by omega) (by omega)
          by_cases b2 : (0 : Int) ≤ tg
          · have HR : Hid (canP chg C log k ⟨tg, ⟨ok, op, oc, (cN : Int), (n : Int) + 1⟩⟩ ↔ tg ≤ (k : Int)) := ⟨fun h => (HCP.out.1 h).2.2, fun h => HCP.out.2 ⟨rfl, b2, h⟩⟩
            clear HCP
            go_wp2_with fail
            go_quiet (fail)
            go_wp2
            go_ret
            exact ⟨_, rfl, by rw [decide_eq_true_iff]; exact HR.out.symm, below_drewN BZ.out _⟩
          · have nG : Hid (¬ canP chg C log k ⟨tg, ⟨ok, op, oc, (cN : Int), (n : Int) + 1⟩⟩) := fun h => b2 (HCP.out.1 h).2.1
            have kb : decide ((0 : Int) ≤ tg) = false := by simpa using b2
            clear HCP
            go_wp2_with fail
            go_quiet (fail)
            go_wp2
            go_ret
            first
              | exact .inl ⟨rfl, nG.out, below_drewN BZ.out _⟩
              | exact ⟨false, rfl, iff_of_false (by decide) nG.out, below_drewN BZ.out _⟩
        · have nG : Hid (¬ canP chg C log k ⟨tg, ⟨ok, op, oc, (cN : Int), os⟩⟩) := fun h => b1 (HCP.out.1 h).1
          have kw : wrap64 ((n : Int) + 1) = (n : Int) + 1 := wrap64_id (by omega) (by omega)
          have kb : (os == (n : Int) + 1) = false := by simpa using b1
          clear HCP b1
          go_wp2_with fail
          go_quiet (fail)
          go_wp2
          go_ret
          first
            | exact .inl ⟨rfl, nG.out, below_drewN BZ.out _⟩
            | exact ⟨false, rfl, iff_of_false (by decide) nG.out, below_drewN BZ.out _⟩
      | cons y l =>
        rw [hlc] at hv hg hl HCP hll HM
        obtain ⟨g, rfl, hcell⟩ := hg (by simp)
        have h2 := hcell l.length (by simp)
        obtain ⟨hz1, ez, hz2, hz3⟩ := HM.out ((y :: l)[l.length]'(by simp)) (List.getElem_mem _)
        have hls : lstAt log k (cN : Int) = ez.tag := by
          unfold lstAt
          rw [hlc, List.getLast?_eq_getElem?]
          simp only [List.length_cons, Nat.add_sub_cancel]
          rw [List.getElem?_eq_getElem (by simp)]
          simp only
          rw [hz2]
        have HCP := hd (HCP.out ez.tag hls)
        obtain ⟨hzl, hze⟩ := List.getElem?_eq_some_iff.1 hz2
        obtain ⟨b, off, rfl, s1, qq⟩ := HLu.out.2 (by have := HLu.out.1; omega)
        have q0 := (qq _ hzl).1
        rw [hze] at q0
        have k3 : ((((y :: l)[l.length]'(by simp) : Nat)) : Int) < (nL : Int) := by have := HLu.out.1; omega
        generalize (y :: l)[l.length]'(by simp) = z at *
        generalize ez.tag = least at *
        have hnb : l.length + 1 ≤ 4096 := by have := HN.out; have := HK.out; simp only [List.length_cons] at hll; omega
        simp only [List.length_cons] at hv HCP
        clear hcell hg hl hls hll HM hlc hz1 hz2 hz3 hzl hze qq
        generalize l.length = m at *
        have k0 : (0 : Int) < (m : Int) + 1 := by omega
        have kk : (m : Int) < (m : Int) + 1 := by omega
        have km : IntKind.i64.wrap (m : Int) = (m : Int) := by rw [IntKind.wrap_i64]; omega
        go_wp2_with fail
        go_quiet (fail)
        go_wp2_with fail
        go_quiet (fail)
        go_upto_region 7 with fail
        obtain ⟨n, hn⟩ : ∃ n : Nat, n = m + 1 := ⟨_, rfl⟩
        rw [← hn] at hnb ⊢
        have HCP : Hid (canP chg C log k ⟨tg, ⟨ok, op, oc, (cN : Int), os⟩⟩ ↔ os = (n : Int) + 1 ∧ least ≤ tg ∧ tg ≤ (k : Int)) := by rw [hn]; exact HCP.out
        clear hn k0 kk km h2 q0 k3 hv jx1 j1 j2 j3 j4 r1 r2 r3 r4 c65 h0 h1 lE lx s1 nW
        by_cases b1 : os = (n : Int) + 1
        · subst b1
          have kw : wrap64 ((n : Int) + 1) = (n : Int) + 1 := wrap64_id (by omega) (by omega)
          by_cases b2 : least ≤ tg
          · have HR : Hid (canP chg C log k ⟨tg, ⟨ok, op, oc, (cN : Int), (n : Int) + 1⟩⟩ ↔ tg ≤ (k : Int)) := ⟨fun h => (HCP.out.1 h).2.2, fun h => HCP.out.2 ⟨rfl, b2, h⟩⟩
            clear HCP
            go_wp2
            go_ret
            exact ⟨_, rfl, by rw [decide_eq_true_iff]; exact HR.out.symm, (by first | exact below_drewN BZ.out _ | exact below_drewN (below_drewN BZ.out _) _)⟩
          · have nG : Hid (¬ canP chg C log k ⟨tg, ⟨ok, op, oc, (cN : Int), (n : Int) + 1⟩⟩) := fun h => b2 (HCP.out.1 h).2.1
            have kb : decide (least ≤ tg) = false := by simpa using b2
            clear HCP
            go_wp2
            go_ret
            first
              | exact .inl ⟨rfl, nG.out, (by first | exact below_drewN BZ.out _ | exact below_drewN (below_drewN BZ.out _) _)⟩
              | exact ⟨false, rfl, iff_of_false (by decide) nG.out, (by first | exact below_drewN BZ.out _ | exact below_drewN (below_drewN BZ.out _) _)⟩
        · have nG : Hid (¬ canP chg C log k ⟨tg, ⟨ok, op, oc, (cN : Int), os⟩⟩) := fun h => b1 (HCP.out.1 h).1
          have kw : wrap64 ((n : Int) + 1) = (n : Int) + 1 := wrap64_id (by omega) (by omega)
          have kb : (os == (n : Int) + 1) = false := by simpa using b1
          clear HCP b1
          go_wp2
          go_ret
          first
            | exact .inl ⟨rfl, nG.out, (by first | exact below_drewN BZ.out _ | exact below_drewN (below_drewN BZ.out _) _)⟩
            | exact ⟨false, rfl, iff_of_false (by decide) nG.out, (by first | exact below_drewN BZ.out _ | exact below_drewN (below_drewN BZ.out _) _)⟩
end

end Go.Proofs.YtfhghijefjhehaaGreatDoor

/-! Io -/
namespace Go.Proofs.YtfhghijefjhehaaGreatDoor
open Go.RowKit Go.Extern.Stop Go.Stop Go.Extern
set_option linter.unusedVariables false

/-- All but one block is as it was. -/
def But (r : Nat) (w w' : World) : Prop := Fr (fun k => k = r) w w'
theorem But.of_below {r : Nat} {w w' : World} (h : Below w.heap.size w w') : But r w w' := Fr.of_below h
theorem But.trans {r : Nat} {a b c : World} (h : But r a b) (k : But r b c) : But r a c := Fr.trans h k
theorem But.setCell (r : Nat) (w : World) (i : Nat) (u : Value) : But r w (w.setCell ⟨r, i, none⟩ u) := Fr.setCell _ _ _ rfl
theorem But.below {r B : Nat} {w w' : World} (h : But r w w') (hB : B ≤ w.heap.size) (hr : B ≤ r) : Below B w w' := Fr.below h hB (fun k hk => hk ▸ hr)

/-- The variable errors.errorType holds the handle of the type error. -/
def Handle (w : World) : Prop := w.cell? ⟨0, 0, none⟩ = some (.iface 232 (.agg #[.pointer (some ⟨2, 29, none⟩)]))

theorem cell_lt {w : World} {a : Addr} {v : Value} (h : w.cell? a = some v) : a.block < w.heap.size := by
  by_cases hb : a.block < w.heap.size
  · exact hb
  · unfold World.cell? at h
    rw [Array.getElem?_eq_none (by omega)] at h
    simp at h

theorem Handle.below {w w' : World} {B : Nat} (h : Handle w) (hb : Below B w w') (hB : 0 < B) : Handle w' := (hb.cell (p := ⟨0, 0, none⟩) hB).trans h
theorem Handle.pos {w : World} (h : Handle w) : 0 < w.heap.size := cell_lt h

theorem but_four {w : World} {tb : Nat} (o1 o2 o3 o4 : Obj) (u : Value) : But tb w (((((w.alloc o1).alloc o2).alloc o3).alloc o4).setCell ⟨tb, 0, none⟩ u) := by
  have h : Below w.heap.size w ((((w.alloc o1).alloc o2).alloc o3).alloc o4) := by
    repeat (first | exact Below.refl _ _ | refine Below.alloc ?_ (by simp <;> omega) _)
  exact (But.of_below h).trans (But.setCell tb _ 0 u)

theorem set_four {w : World} {tb : Nat} {old : Value} (h : w.cell? ⟨tb, 0, none⟩ = some old) (o1 o2 o3 o4 : Obj) (u : Value) : (((((w.alloc o1).alloc o2).alloc o3).alloc o4).setCell ⟨tb, 0, none⟩ u).cell? ⟨tb, 0, none⟩ = some u := by
  have hb : Below w.heap.size w ((((w.alloc o1).alloc o2).alloc o3).alloc o4) := by
    repeat (first | exact Below.refl _ _ | refine Below.alloc ?_ (by simp <;> omega) _)
  have h1 := (hb.cell (p := ⟨tb, 0, none⟩) (cell_lt h)).trans h
  exact World.cell?_setCell_same _ _ _ h1

/-- errors.As at a *Errno, said of what turns. -/
theorem as_code' (b off tb : Nat) (n : Int) (old : Value) (w : World) (hg : Handle w) (ht0 : w.cell? ⟨tb, 0, none⟩ = some old) (hf0 : w.frozen? ⟨tb, 0, none⟩ = false) (he : w.cell? ⟨b, off + 1, none⟩ = some (.iface 60 (.int .i64 n))) :
    Calls Tryz.prog 58 #[.iface 122 (.pointer (some ⟨b, off, none⟩)), .iface 140 (.pointer (some ⟨tb, 0, none⟩))] w fun e w' => e = .returned (.bool true) ∧ w'.cell? ⟨tb, 0, none⟩ = some (.int .i64 n) ∧ But tb w w' := by
  refine (as_code b off n ⟨tb, 0, none⟩ old w hg ht0 hf0 he).mono ?_
  rintro e w' ⟨rfl, rfl⟩
  exact ⟨rfl, set_four ht0 _ _ _ _ _, but_four _ _ _ _ _⟩

theorem as_hit' (e : Addr) (tb : Nat) (old : Value) (w : World) (hg : Handle w) (ht0 : w.cell? ⟨tb, 0, none⟩ = some old) (hf0 : w.frozen? ⟨tb, 0, none⟩ = false) :
    Calls Tryz.prog 58 #[.iface 122 (.pointer (some e)), .iface 141 (.pointer (some ⟨tb, 0, none⟩))] w fun ev w' => ev = .returned (.bool true) ∧ w'.cell? ⟨tb, 0, none⟩ = some (.pointer (some e)) ∧ But tb w w' := by
  refine (as_hit e ⟨tb, 0, none⟩ old w hg ht0 hf0).mono ?_
  rintro ev w' ⟨rfl, rfl⟩
  exact ⟨rfl, set_four ht0 _ _ _ _ _, but_four _ _ _ _ _⟩

theorem below_but {w w' : World} {o : Obj} (h : But w.heap.size (w.alloc o) w') : Below w.heap.size w w' :=
  ((Below.refl _ _).alloc (Nat.le_refl _) o).trans (h.below (by simp) (Nat.le_refl _))

set_option maxHeartbeats 1000000 in
theorem code_any (b off : Nat) (n : Int) (w : World) (hg : Handle w) (he : w.cell? ⟨b, off + 1, none⟩ = some (.iface 60 (.int .i64 n))) :
    Calls Tryz.prog 24 #[.iface 122 (.pointer (some ⟨b, off, none⟩))] w fun e w' => e = .returned (.int .i64 n) ∧ Below w.heap.size w w' := by
  have hbel : Below w.heap.size w (w.alloc (.cells #[.int .i64 0] 60)) := (Below.refl _ _).alloc (Nat.le_refl _) _
  have hg1 := hg.below hbel hg.pos
  have he1 := (hbel.cell (p := ⟨b, off + 1, none⟩) (cell_lt he)).trans he
  have ht : (w.alloc (.cells #[.int .i64 0] 60)).cell? ⟨w.heap.size, 0, none⟩ = some (.int .i64 0) := by simp
  have hf : (w.alloc (.cells #[.int .i64 0] 60)).frozen? ⟨w.heap.size, 0, none⟩ = false := by simp
  have C := hd (as_code' b off w.heap.size n _ _ hg1 ht hf he1)
  clear hg hg1 he he1 ht hf hbel
  go_enter Tryz.func24, Tryz.ntmps24
  go_wp2_with fail
  refine C.out.mono ?_
  rintro e w1 ⟨rfl, hc, hbut⟩
  have R := hd (below_but hbut)
  clear hbut C
  go_wp2
  go_ret
  exact ⟨rfl, R.out⟩

set_option maxHeartbeats 1000000 in
theorem place_any (b off : Nat) (p : Int) (w : World) (hg : Handle w) (he : w.cell? ⟨b, off, none⟩ = some (.int .i64 p)) :
    Calls Tryz.prog 25 #[.iface 122 (.pointer (some ⟨b, off, none⟩))] w fun e w' => e = .returned (.int .i64 p) ∧ Below w.heap.size w w' := by
  have hbel : Below w.heap.size w (w.alloc (.cells #[.pointer none] 122)) := (Below.refl _ _).alloc (Nat.le_refl _) _
  have hg1 := hg.below hbel hg.pos
  have ht : (w.alloc (.cells #[.pointer none] 122)).cell? ⟨w.heap.size, 0, none⟩ = some (.pointer none) := by simp
  have hf : (w.alloc (.cells #[.pointer none] 122)).frozen? ⟨w.heap.size, 0, none⟩ = false := by simp
  have C := hd (as_hit' ⟨b, off, none⟩ w.heap.size _ _ hg1 ht hf)
  have HE := hd he
  clear hg hg1 ht hf hbel he
  go_enter Tryz.func25, Tryz.ntmps25
  go_wp2_with fail
  refine C.out.mono ?_
  rintro e w1 ⟨rfl, hc, hbut⟩
  have R := hd (below_but hbut)
  have hcell := (R.out.cell (p := ⟨b, off, none⟩) (cell_lt HE.out)).trans HE.out
  clear hbut C HE
  go_wp2
  go_ret
  exact ⟨rfl, R.out⟩


/-- A Fault in a block of its own. -/
def IsF (w : World) (v : Value) (at' code : Int) : Prop := ∃ b, v = .iface 122 (.pointer (some ⟨b, 0, none⟩)) ∧ w.heap[b]? = some (.cells #[.int .i64 at', .iface 60 (.int .i64 code)] 124 (0, 0))
theorem IsF.below {w w' : World} {v : Value} {p c : Int} (h : IsF w v p c) (hb : Below w.heap.size w w') : IsF w' v p c := by
  obtain ⟨b, e, hh⟩ := h
  exact ⟨b, e, (hb.block b (block_lt hh)).trans hh⟩

set_option maxHeartbeats 1000000 in
theorem wrap_any (p c : Int) (w : World) :
    Calls Tryz.prog 16 #[.int .i64 p, .int .i64 c] w fun e w' => ∃ v, e = .returned v ∧ IsF w' v p c ∧ Below w.heap.size w w' := by
  have hn := heap_alloc_new w (.cells #[.int .i64 p, .iface 60 (.int .i64 c)] 124)
  have HN := hd hn
  clear hn
  go_enter Tryz.func16, Tryz.ntmps16
  go_wp2
  go_ret
  exact ⟨_, rfl, ⟨_, rfl, HN.out⟩, (Below.refl _ _).alloc (Nat.le_refl _) _⟩

theorem num_any (c : Int) (w : World) : Calls Tryz.prog 23 #[.int .i64 c] w fun e w' => e = .returned (.int .i64 c) ∧ Below w.heap.size w w' := by
  go_enter Tryz.func23, Tryz.ntmps23
  go_wp2
  go_ret
  exact ⟨rfl, Below.refl _ _⟩

theorem IsF.code {w : World} {v : Value} {p c : Int} (h : IsF w v p c) (hg : Handle w) :
    Calls Tryz.prog 24 #[v] w fun e w' => e = .returned (.int .i64 c) ∧ Below w.heap.size w w' := by
  obtain ⟨b, rfl, hh⟩ := h
  exact code_any b 0 c w hg (by rw [cell_row hh]; rfl)
theorem IsF.place {w : World} {v : Value} {p c : Int} (h : IsF w v p c) (hg : Handle w) :
    Calls Tryz.prog 25 #[v] w fun e w' => e = .returned (.int .i64 p) ∧ Below w.heap.size w w' := by
  obtain ⟨b, rfl, hh⟩ := h
  exact place_any b 0 p w hg (by rw [cell_row hh]; rfl)

set_option maxHeartbeats 4000000 in
theorem same_some (v : Value) (p c : Int) (w : World) (hF : IsF w v p c) (hH : Handle w) (hc : c ≠ 0) :
    Calls Tryz.prog 10 #[v, .int .i64 c, .int .i64 p] w fun e w' => e = .returned (.bool true) ∧ Below w.heap.size w w' := by
  have HF := hd hF
  have HH := hd hH
  have C1 := hd (hF.code hH)
  obtain ⟨b, rfl, hh⟩ := hF
  have kc : (c == 0) = false := by simpa using hc
  clear hh hH hc
  go_enter Tryz.func10, Tryz.ntmps10
  go_wp2_with fail
  refine C1.out.mono ?_
  rintro e u1 ⟨rfl, b1⟩
  have B1 := hd b1
  clear b1 C1
  go_wp2_with fail
  refine (num_any c _).mono ?_
  rintro e u2 ⟨rfl, b2⟩
  have B2 := hd (B1.out.trans (b2.mono B1.out.size))
  clear b2
  have C2 := hd ((HF.out.below B2.out).place (HH.out.below B2.out HH.out.pos))
  go_wp2_with fail
  refine C2.out.mono ?_
  rintro e u3 ⟨rfl, b3⟩
  have B3 := hd (B2.out.trans (b3.mono B2.out.size))
  clear b3 C2
  go_wp2
  go_ret
  exact ⟨rfl, B3.out⟩

set_option maxHeartbeats 4000000 in
theorem same_none (w : World) : Calls Tryz.prog 10 #[.nilIface, .int .i64 0, .int .i64 (-1)] w fun e w' => e = .returned (.bool true) ∧ Below w.heap.size w w' := by
  go_enter Tryz.func10, Tryz.ntmps10
  go_wp2
  go_ret
  exact ⟨rfl, by repeat (first | exact Below.refl _ _ | refine Below.alloc ?_ (by simp) _ | refine Below.setCell ?_ (by simp) _)⟩

end Go.Proofs.YtfhghijefjhehaaGreatDoor
