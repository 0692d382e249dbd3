/-
  A walker of the document: make1.
-/
import Derived.Test.YtfhghijefjhehaaGreatDoorMPc
import Derived.Deep.QuietTactic
import Derived.BigQuiet
namespace Go.Proofs.YtfhghijefjhehaaGreatDoor
open Go.RowKit
set_option linter.unusedVariables false

theorem mkV_idle {k : Wk} (h : k.due = false) : mkV apE (k.hav : Int) k.still k = [] := by
  cases hs : k.still with
  | nil => rfl
  | cons x l =>
    unfold mkV
    rw [if_neg]
    intro e
    unfold Wk.due at h
    rw [hs] at h
    simp [e] at h
theorem mkV_due {k : Wk} (h : k.due = true) : mkV apE (k.hav : Int) k.still k = (k.mk1 apE).view :: mkV apE ((k.mk1 apE).hav : Int) (k.mk1 apE).still (k.mk1 apE) := by
  obtain ⟨x, l, hs, ht⟩ := due_cons h
  obtain ⟨m1, m2, -⟩ := mk1_still (ap := apE) hs
  rw [m2, m1, hs]
  show (if x.tag = (k.hav : Int) then _ else _) = _
  rw [if_pos ht]

section
variable {w : World} {g o : Nat} {β φ ν : Option Nat} {es : List Ed} {k : Wk} {way : List PV}
/-- What make1 leaves. -/
def MkP (w : World) (g o : Nat) (β φ ν : Option Nat) (es : List Ed) (k : Wk) (way : List PV) (w' : World) : Prop := ∃ φ' ν' ps, WR w' g o β φ' ν' es (k.all apE) (way ++ ps) ∧ ps.map PV.view = mkV apE (k.hav : Int) k.still k ∧ Fr (fun j => j = g ∨ φ = some j ∨ ν = some j) w w' ∧ Oth g o w w' ∧ (∀ j, φ' = some j → φ = some j ∨ w.heap.size ≤ j) ∧ ∀ j, ν' = some j → ν = some j ∨ w.heap.size ≤ j
structure MI (w : World) (g o : Nat) (β φ ν : Option Nat) (es : List Ed) (k : Wk) (way : List PV) (k' : Wk) (φ' ν' : Option Nat) (ps : List PV) (wz : World) : Prop where
  wr : WR wz g o β φ' ν' es k' (way ++ ps)
  al : k'.all apE = k.all apE
  vw : ps.map PV.view ++ mkV apE (k'.hav : Int) k'.still k' = mkV apE (k.hav : Int) k.still k
  hv : k'.hav = k.hav
  gw : GW k'
  fr : Fr (fun j => j = g ∨ φ = some j ∨ ν = some j) w wz
  ot : Oth g o w wz
  nf : ∀ j, φ' = some j → φ = some j ∨ w.heap.size ≤ j
  nn : ∀ j, ν' = some j → ν = some j ∨ w.heap.size ≤ j
  ln : ps.length + k'.still.length ≤ 64
theorem MI.fin {wr : World} {k' : Wk} {φ' ν' : Option Nat} {ps : List PV} (h : MI w g o β φ ν es k way k' φ' ν' ps wr) (hd' : k'.due = false) : MkP w g o β φ ν es k way wr := by
  have e := h.al
  rw [all_idle hd'] at e
  have v := h.vw
  rw [mkV_idle hd', List.append_nil] at v
  have hw := h.wr
  rw [e] at hw
  exact ⟨φ', ν', ps, hw, v, h.fr, h.ot, h.nf, h.nn⟩
theorem MkP.below {w' w2 : World} (h : MkP w g o β φ ν es k way w') (hb : Below w'.heap.size w' w2) : MkP w g o β φ ν es k way w2 := by
  obtain ⟨φ', ν', ps, h1, h2, h3, h4, h5, h6⟩ := h
  exact ⟨φ', ν', ps, h1.below hb, h2, h3.trans (Fr.of_below hb), h4.trans (Oth.fr (Fr.of_below (S := fun _ => False) hb) (fun h => h)), h5, h6⟩
def madeAt (w : World) (g o : Nat) : Nat := match w.cell? ⟨g, o + 5, none⟩ with
  | some (.int _ n) => n.toNat
  | _ => 0
theorem WR.madeAt (h : WR w g o β φ ν es k way) : Go.Proofs.YtfhghijefjhehaaGreatDoor.madeAt w g o = k.made := by
  obtain ⟨vE, vT, vF, vW, hE, hT, hO, hW, c0, c1, c2, c3, c4, c5⟩ := h.cells
  simp [Go.Proofs.YtfhghijefjhehaaGreatDoor.madeAt, c5]
/-- The next edit, to be read. -/
theorem WR.next (h : WR w g o β φ ν es k way) {x : Ed} {l : List Ed} (hs : k.still = x :: l) : ∃ ge cE, w.cell? ⟨g, o, none⟩ = some (.slice (some ⟨ge, 0, none⟩) es.length cE) ∧ k.made < es.length ∧ es.length ≤ cE ∧ cE ≤ 9223372036854775807 ∧ ge < w.heap.size ∧
    w.cell? ⟨ge, k.made * 6, none⟩ = some (.int .i64 x.tag) ∧ w.cell? ⟨ge, k.made * 6 + 1, none⟩ = some (.int .i64 x.o.kind) ∧ w.cell? ⟨ge, k.made * 6 + 2, none⟩ = some (.int .i64 x.o.pos) ∧ w.cell? ⟨ge, k.made * 6 + 3, none⟩ = some (.int .u8 x.o.ch) ∧ w.cell? ⟨ge, k.made * 6 + 4, none⟩ = some (.int .i64 x.o.cl) ∧ w.cell? ⟨ge, k.made * 6 + 5, none⟩ = some (.int .i64 x.o.sq) ∧ l = es.drop (k.made + 1) := by
  obtain ⟨vE, vT, vF, vW, hE, hT, hO, hW, c0, -⟩ := h.cells
  have hst := h.st
  rw [hs] at hst
  have hm : k.made < es.length := by
    by_cases e : k.made < es.length
    · exact e
    · rw [List.drop_eq_nil_of_le (by omega)] at hst
      cases hst
  rw [List.drop_eq_getElem_cons hm] at hst
  obtain ⟨ex, el⟩ : es[k.made] = x ∧ es.drop (k.made + 1) = l := List.cons.inj hst
  cases hb : β with
  | none =>
    rw [hb] at hE
    obtain ⟨-, e⟩ := hE
    rw [e] at hm
    simp at hm
  | some ge =>
    rw [hb] at hE
    obtain ⟨cE, rfl, hR⟩ := hE
    have hc : ∀ j, j < 6 → w.cell? ⟨ge, k.made * 6 + j, none⟩ = (edc x)[j]? := fun j hj => by
      have := RowF.cell hR szEd k.made j hm hj
      rw [ex] at this
      exact this
    obtain ⟨cur, q1, q2, q3, q4, q5, q6⟩ := hR
    exact ⟨ge, cE, c0, hm, q4, q5, block_lt q1, hc 0 (by omega), hc 1 (by omega), hc 2 (by omega), hc 3 (by omega), hc 4 (by omega), hc 5 (by omega), el.symm⟩
theorem WR.end (h : WR w g o β φ ν es k way) (hs : k.still = []) : ∃ aE cE, w.cell? ⟨g, o, none⟩ = some (.slice aE es.length cE) ∧ es.length ≤ k.made := by
  obtain ⟨vE, vT, vF, vW, hE, hT, hO, hW, c0, -⟩ := h.cells
  obtain ⟨a, c, rfl, -⟩ := hE.form
  refine ⟨a, c, c0, ?_⟩
  have hst := h.st
  rw [hs] at hst
  exact List.drop_eq_nil_iff.1 hst

/-- One round more. -/
theorem MI.next {wr wz : World} {k' : Wk} {φ' ν' φ2 ν2 : Option Nat} {ps : List PV} {bx : Nat} {p : PV} {op : OpE} (h : MI w g o β φ ν es k way k' φ' ν' ps wr) (hd' : k'.due = true) (hM : MS wr wz g o bx β φ' ν' φ2 ν2 es (k'.mk1 apE) ((way ++ ps) ++ [p]) op) (hp : p.view = (k'.mk1 apE).view) : MI w g o β φ ν es k way (k'.mk1 apE) φ2 ν2 (ps ++ [p]) wz := by
  obtain ⟨x, l, hs, -⟩ := due_cons hd'
  obtain ⟨m1, m2, m3, -⟩ := mk1_still (ap := apE) hs
  refine ⟨by rw [← List.append_assoc]; exact hM.wr, (all_due hd').trans h.al, ?_, m2.trans h.hv, h.gw.mk1, h.fr.next hM.fr (fun i hi hs => ?_), h.ot.trans hM.ot, fun j hj => ?_, fun j hj => ?_, ?_⟩
  · rw [← h.vw, mkV_due hd']
    simp [hp]
  · rcases hs with hs | hs | hs
    · exact .inl hs
    · rcases h.nf i hs with h1 | h1
      · exact .inr (.inl h1)
      · omega
    · rcases h.nn i hs with h1 | h1
      · exact .inr (.inr h1)
      · omega
  · rcases hM.nf j hj with h1 | h1
    · exact h.nf j h1
    · exact .inr (Nat.le_trans h.fr.size h1)
  · rcases hM.nn j hj with h1 | h1
    · exact h.nn j h1
    · exact .inr (Nat.le_trans h.fr.size h1)
  · have := h.ln
    rw [m1]
    rw [hs] at this
    simp at this ⊢
    omega

set_option maxRecDepth 100000 in
set_option maxHeartbeats 8000000 in
theorem make1_any (h : WR w g o β φ ν es k way) (hg : GW k) (hn : way.length ≤ 100000) (kN : Nat) (hk : k.hav = kN) :
    Calls Tryz.prog 56 #[.pointer (some ⟨g, o, none⟩), .int .i64 (kN : Int)] w fun e w' => (∃ v, e = .returned v) ∧ MkP w g o β φ ν es k way w' := by
  have I0 : Hid (∃ k' φ' ν' ps, MI w g o β φ ν es k way k' φ' ν' ps w) := ⟨k, φ, ν, [], by rw [List.append_nil]; exact h, rfl, rfl, rfl, hg, Fr.refl _ _, Oth.refl _ _ _, fun j hj => .inl hj, fun j hj => .inl hj, by have := hg.n; simp; omega⟩
  have HN := hd hn
  have HKH := hd hk
  clear h hg hn hk
  go_enter Tryz.func56, Tryz.ntmps56
  go_wp2_with fail
  go_loopw [] (fun wr => Hid (∃ k' φ' ν' ps, MI w g o β φ ν es k way k' φ' ν' ps wr)) (fun wr => es.length - madeAt wr g o)
  case atStart => exact I0
  case round =>
    obtain ⟨k', φ', ν', ps, H1⟩ := hrel.out
    clear I0 hrel
    have c5 : wr.cell? ⟨g, o + 5, none⟩ = some (.int .i64 k'.made) := by
      obtain ⟨vE, vT, vF, vW, hE, hT, hO, hW, c0, c1, c2, c3, c4, c5⟩ := H1.wr.cells
      exact c5
    have HM := hd H1.wr.madeAt
    have hkv := H1.hv.trans HKH.out
    cases hst : k'.still with
    | nil =>
      obtain ⟨aE, cE, c0, hme⟩ := H1.wr.end hst
      have hdue : k'.due = false := by unfold Wk.due; rw [hst]; rfl
      have Z := hd (fun m => (H1.fin hdue).below (below_drewN (Below.refl _ _) m))
      have i1 : ¬ ((k'.made : Int) < (es.length : Int)) := by omega
      have i2 : decide (k'.made < es.length) = false := by simpa using hme
      clear H1 hst hdue HM hkv hme
      go_wp2_with fail
      go_quiet (fail)
      go_wp2
      refine bodyPost_end (results_none rfl _ _ _) rfl ?_
      exact ⟨⟨_, rfl⟩, Z.out _⟩
    | cons x l =>
      obtain ⟨ge, cE, c0, hme, hcE1, hcE2, lge, y0, y1, y2, y3, y4, y5, hl⟩ := H1.wr.next hst
      have i1 : (k'.made : Int) < (es.length : Int) := by omega
      have i2 : decide (k'.made < es.length) = true := by simpa using hme
      by_cases ht : x.tag = (kN : Int)
      · have hdue : k'.due = true := by
          unfold Wk.due
          rw [hst, hkv]
          simp [ht]
        have i3 : (x.tag == (kN : Int)) = true := by simpa using ht
        have HD1 := hd H1
        have HDUE := hd hdue
        have HST := hd (And.intro hst hl)
        have lg : g < wr.heap.size := H1.wr.lt
        clear H1 hdue hl hkv hst
        go_wp2_with fail
        go_quiet (fail)
        go_upto_region 1 with fail
        generalize hv1 : wr.drewN nq = v1
        have bv : Below wr.heap.size wr v1 := by rw [← hv1]; exact below_drewN (Below.refl _ _) _
        have c0 := (bv.cell (p := ⟨g, o, none⟩) lg).trans c0
        have c5 := (bv.cell (p := ⟨g, o + 5, none⟩) lg).trans c5
        have y1 := (bv.cell (p := ⟨ge, k'.made * 6 + 1, none⟩) lge).trans y1
        have y2 := (bv.cell (p := ⟨ge, k'.made * 6 + 2, none⟩) lge).trans y2
        have y3 := (bv.cell (p := ⟨ge, k'.made * 6 + 3, none⟩) lge).trans y3
        have y4 := (bv.cell (p := ⟨ge, k'.made * 6 + 4, none⟩) lge).trans y4
        have y5 := (bv.cell (p := ⟨ge, k'.made * 6 + 5, none⟩) lge).trans y5
        have b2 : Below wr.heap.size wr (v1.drew.alloc (.cells (opc x.o).toArray 69)) := (bv.drew).alloc bv.size _
        have Zop : Hid (MS wr (v1.drew.alloc (.cells (opc x.o).toArray 69)) g o v1.heap.size β φ' ν' φ' ν' es k' (way ++ ps) x.o) := by
          refine ⟨HD1.out.wr.below b2, heap_alloc_new v1.drew _, Fr.of_below b2, Oth.fr (Fr.of_below (S := fun _ => False) b2) (fun h => h), fun e => ?_, bv.size, fun j hj => .inl hj, fun j hj => .inl hj⟩
          obtain ⟨vE, vT, vF, vW, hE, hT, hO, hW, -⟩ := HD1.out.wr.cells
          have := hO.lt _ e
          have := bv.size
          omega
        simp only [opc] at Zop
        obtain ⟨xt, ⟨xk, xp, xc, xl, xs⟩⟩ := x
        simp only at *
        have lgv : g < v1.heap.size := Nat.lt_of_lt_of_le lg bv.size
        have lgev : ge < v1.heap.size := Nat.lt_of_lt_of_le lge bv.size
        clear hv1 bv b2 y0
        conv => arg 4; zeta
        go_cut [4] (fun q wx => ∃ bx, q = .pointer (some ⟨bx, 0, none⟩) ∧ Hid (MS wr wx g o bx β φ' ν' φ' ν' es k' (way ++ ps) ⟨xk, xp, xc, xl, xs⟩))
        case first =>
          go_region_law (fail)
          all_goals go_wp2_with fail
          all_goals go_meet
          all_goals exact ⟨_, rfl, Zop⟩
        case rest =>
        obtain ⟨bx, rfl, hM⟩ := hcut
        clear c0 c5 y1 y2 y3 y4 y5 Zop lgv lgev
        obtain ⟨vE, vT, vF, vW, -, ⟨βt, hT⟩, hO, -, -, d1, d2, -, -, d5⟩ := hM.out.wr.cells
        obtain ⟨aT, cT, rfl, -⟩ := hT.form
        obtain ⟨⟨z0, z1, z2, z3, z4⟩, -⟩ := cellsF (show wc.heap[bx]? = some (.cells #[.int .i64 xk, .int .i64 xp, .int .u8 xc, .int .i64 xl, .int .i64 xs] 69 (0, 0)) from hM.out.ob)
        obtain ⟨er, her⟩ : ∃ er, fitsP k'.text.length ⟨xk, xp, xc, xl, xs⟩ = er := ⟨_, rfl⟩
        have HER := hd her
        have CF : Hid (∀ W, Below wc.heap.size wc W → Calls Tryz.prog 93 #[.int .i64 (k'.text.length : Nat), .agg #[.int .i64 xk, .int .i64 xp, .int .u8 xc, .int .i64 xl, .int .i64 xs]] W fun e w' => e = .returned (.int .i64 er) ∧ Below wc.heap.size wc w') := fun W hW => (rfits_any _ xk xp xc xl xs W).mono (by
          rintro e w' ⟨rfl, hb⟩
          rw [her]
          exact ⟨rfl, hW.trans (hb.mono hW.size)⟩)
        clear her hT hO
        go_upto_region 2 with fail
        conv => arg 4; zeta
        go_cut [48] (fun q wx => q = .bool (er != 0) ∧ Hid (Below wc.heap.size wc wx))
        case first =>
          go_region_law ((go_simp; go_at_call 93; refine (CF.out _ (by first | exact (Below.refl _ _).drew | exact below_drewN (Below.refl _ _) _)).mono ?_; rintro e u1 ⟨rfl, b1⟩; have B1 := hd b1; clear b1))
          all_goals go_wp2_with fail
          all_goals go_meet
          all_goals exact ⟨rfl, B1⟩
        case rest =>
        obtain ⟨rfl, hB⟩ := hcut
        have hM2 := hd (hM.out.below hB.out)
        clear hM hB CF z0 z1 z2 z3 z4 d1 d2 d5 aT cT βt vE vF vW
        go_upto_if 48 with fail
        go_cut [] (fun wx => Hid (MS wr wx g o bx β φ' ν' φ' ν' es k' (way ++ ps) (fitO k'.text.length ⟨xk, xp, xc, xl, xs⟩)))
        case first =>
          obtain ⟨⟨z0, z1, z2, z3, z4⟩, ⟨f0, f1, f2, f3, f4⟩⟩ := cellsF (show wc.heap[bx]? = some (.cells #[.int .i64 xk, .int .i64 xp, .int .u8 xc, .int .i64 xl, .int .i64 xs] 69 (0, 0)) from hM2.out.ob)
          by_cases h0 : er = 0
          · have e1 : fitO k'.text.length ⟨xk, xp, xc, xl, xs⟩ = ⟨xk, xp, xc, xl, xs⟩ := by
              unfold fitO
              rw [if_pos (by rw [HER.out]; exact h0)]
            have i4 : (er != 0) = false := by simpa using h0
            go_wp2_with fail
            go_meet
            rw [e1]
            exact hM2
          · have e1 : fitO k'.text.length ⟨xk, xp, xc, xl, xs⟩ = ⟨0, 0, 0, xl, xs⟩ := by
              unfold fitO
              rw [if_neg (by rw [HER.out]; exact h0)]
              rfl
            have i4 : (er != 0) = true := by simpa using h0
            have Z := hd (hM2.out.setop ⟨0, 0, 0, xl, xs⟩)
            clear hM2
            go_wp2_with fail
            go_meet
            rw [e1]
            exact Z
        case rest =>
        obtain ⟨fo, hfo⟩ : ∃ fo, fitO k'.text.length ⟨xk, xp, xc, xl, xs⟩ = fo := ⟨_, rfl⟩
        have HFO := hd hfo
        rw [hfo] at hcut
        clear hM2 hfo HER
        obtain ⟨fk, fp, fc, fl, fq⟩ := fo
        obtain ⟨vE, vT, vF, vW, -, ⟨βt, hT⟩, -, -, -, d1, d2, -, -, d5⟩ := hcut.out.wr.cells
        obtain ⟨aT, cT, hvT, -⟩ := hT.form
        subst hvT
        obtain ⟨⟨z0, z1, z2, z3, z4⟩, -⟩ := cellsF (show wc.heap[bx]? = some (.cells #[.int .i64 fk, .int .i64 fp, .int .u8 fc, .int .i64 fl, .int .i64 fq] 69 (0, 0)) from hcut.out.ob)
        have lgc : g < wc.heap.size := hcut.out.wr.lt
        have CA : Hid (∀ W, Below wc.heap.size wc W → Calls Tryz.prog 30 #[.slice aT k'.text.length cT, .agg #[.int .i64 fk, .int .i64 fp, .int .u8 fc, .int .i64 fl, .int .i64 fq]] W fun e w' => ∃ a c, e = .returned (.slice a (List.length (α := El) (apE k'.text ⟨fk, fp, fc, fl, fq⟩)) c) ∧ (∃ v, w'.cell? ⟨g, o + 1, none⟩ = some v) ∧ w'.frozen? ⟨g, o + 1, none⟩ = false ∧ Hid (MS wr (w'.setCell ⟨g, o + 1, none⟩ (.slice a (List.length (α := El) (apE k'.text ⟨fk, fp, fc, fl, fq⟩)) c)) g o bx β φ' ν' φ' ν' es ⟨k'.still, apE k'.text ⟨fk, fp, fc, fl, fq⟩, k'.forms, k'.hav, k'.made⟩ (way ++ ps) ⟨fk, fp, fc, fl, fq⟩)) := fun W hW => (applied_any (hT.below hW) ⟨fk, fp, fc, fl, fq⟩).mono (by
          rintro e w' ⟨a, c, βt', rfl, hs, hb⟩
          have h2 := hcut.out.below (hW.trans (hb.mono hW.size))
          obtain ⟨vE, vT, vF, vW, -, -, -, -, -, e1, -⟩ := h2.wr.cells
          exact ⟨a, c, rfl, ⟨_, e1⟩, h2.wr.frozen _, h2.text hs (by rw [ap_len]; exact size_le _ h2.wr.le)⟩)
        clear hcut hT d2 d5
        go_upto_region 4 with fail
        conv => arg 4; zeta
        go_cut [] (fun wx => Hid (MS wr wx g o bx β φ' ν' φ' ν' es ⟨k'.still, apE k'.text ⟨fk, fp, fc, fl, fq⟩, k'.forms, k'.hav, k'.made⟩ (way ++ ps) ⟨fk, fp, fc, fl, fq⟩))
        case first =>
          go_region_law ((go_simp; go_at_call 30; refine (CA.out _ (by first | exact (Below.refl _ _).drew | exact below_drewN (Below.refl _ _) _)).mono ?_; rintro e u1 ⟨a1, k1, rfl, ⟨vv, e1⟩, e2, ZM⟩))
          all_goals go_wp2_with fail
          all_goals go_meet
          all_goals exact ZM
        case rest =>
        clear CA z0 z1 z2 z3 z4 d1
        obtain ⟨uE, uT, uF, uW, -, -, hO, -, -, -, d2, -, -, -⟩ := hcut.out.wr.cells
        obtain ⟨aF, cF, hvF, -⟩ := hO.is
        subst hvF
        obtain ⟨⟨z0, z1, z2, z3, z4⟩, -⟩ := cellsF (show wc.heap[bx]? = some (.cells #[.int .i64 fk, .int .i64 fp, .int .u8 fc, .int .i64 fl, .int .i64 fq] 69 (0, 0)) from hcut.out.ob)
        have lgd : g < wc.heap.size := hcut.out.wr.lt
        have lbd : bx < wc.heap.size := block_lt hcut.out.ob
        have b5 : Below wc.heap.size wc (wc.drew.alloc (.cells (opc ⟨fk, fp, fc, fl, fq⟩).toArray 69)) := ((Below.refl _ _).drew).alloc (Nat.le_refl _) _
        obtain ⟨aN, cN, w6, hap, ⟨vx, hvx⟩, hfz, φ2, hM5⟩ := (hcut.out.below b5).form ((b5.cell (p := ⟨g, o + 2, none⟩) lgd).trans d2) ⟨fk, fp, fc, fl, fq⟩ wc.heap.size (heap_alloc_new wc.drew _) (by have := HD1.out.gw.n; have := HD1.out.gw.f; simp only; omega)
        have Z5 := hd hM5
        simp only [opc] at hap
        clear hcut hO b5 hM5
        go_upto_region 5 with fail
        conv => arg 4; zeta
        go_cut [] (fun wx => Hid (∃ φ2, MS wr wx g o bx β φ' ν' φ2 ν' es ⟨k'.still, apE k'.text ⟨fk, fp, fc, fl, fq⟩, k'.forms ++ [⟨fk, fp, fc, fl, fq⟩], k'.hav, k'.made⟩ (way ++ ps) ⟨fk, fp, fc, fl, fq⟩))
        case first =>
          go_region_law (refine step_append_k rfl (.tmp 67) (.tmp 69) 63 63 rfl _ _ (by simp [Act.eval]) (by simp [Act.eval]) (hap _) ?_)
          all_goals go_wp2_with fail
          all_goals go_meet
          all_goals exact ⟨φ2, Z5.out⟩
        case rest =>
        clear hap Z5 hvx hfz z0 z1 z2 z3 z4 d2 φ2
        obtain ⟨φ2, hM6⟩ := hcut.out
        obtain ⟨tE, tT, tF, tW, -, -, -, -, -, -, -, -, -, d5⟩ := hM6.wr.cells
        have fz5 := hM6.wr.frozen (o + 5)
        have em : (k'.made : Int) + 1 = ((k'.made + 1 : Nat) : Int) := by omega
        have hM7 := hM6.made (k'.made + 1)
        have ek : (⟨es.drop (k'.made + 1), apE k'.text ⟨fk, fp, fc, fl, fq⟩, k'.forms ++ [⟨fk, fp, fc, fl, fq⟩], k'.hav, k'.made + 1⟩ : Wk) = k'.mk1 apE := by
          unfold Wk.mk1
          rw [HST.out.1]
          simp only [← HST.out.2, HFO.out]
        have hM8 := hM7
        simp only at hM8
        rw [ek] at hM8
        have CT := hd (told_any hM8.wr (by have := HN.out; have := HD1.out.ln; simp; omega))
        have ZM := hd hM8
        have EM := hd em
        have hmd : k'.made + 1 ≤ 64 := by
          have h1 := HD1.out.gw.n
          rw [HST.out.1] at h1
          simp at h1
          omega
        clear hcut hM6 hM7 hM8 ek em
        go_upto_region 7 with fail
        rw [EM.out]
        go_wp2_with fail
        refine CT.out.mono ?_
        rintro e w9 ⟨⟨vr, rfl⟩, hTP⟩
        obtain ⟨ν2, p, hp, hM9⟩ := ZM.out.told hTP
        have ZI : Hid (∃ k' φ' ν' ps, MI w g o β φ ν es k way k' φ' ν' ps w9) := ⟨_, _, _, _, HD1.out.next HDUE.out hM9 hp⟩
        have ZL : Hid (es.length - madeAt w9 g o < es.length - madeAt wr g o) := by
          have h1 := hM9.wr.madeAt
          have h2 : (k'.mk1 apE).made = k'.made + 1 := (mk1_still (ap := apE) HST.out.1).2.2.1
          have h3 := HM.out
          show _ < _
          omega
        clear hTP hM9 hp CT ZM HD1 HDUE HM
        go_wp2_with fail
        exact ⟨ZI, ZL.out⟩
      · have hdue : k'.due = false := by
          unfold Wk.due
          rw [hst, hkv]
          simpa using ht
        have Z := hd (fun m => (H1.fin hdue).below (below_drewN (Below.refl _ _) m))
        have i3 : (x.tag == (kN : Int)) = false := by simpa using ht
        clear H1 hst hdue HM hkv hl
        go_wp2_with fail
        go_quiet (fail)
        go_wp2
        refine bodyPost_end (results_none rfl _ _ _) rfl ?_
        exact ⟨⟨_, rfl⟩, Z.out _⟩
end

end Go.Proofs.YtfhghijefjhehaaGreatDoor
