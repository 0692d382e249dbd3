/-
  OtCrosses.
-/
import Derived.Test.YtmkgkgdngjmcmaaDoorQa
import Derived.Test.YtmkgkgdngjmcmaaDoorEf
import Derived.Test.YtmkgkgdngjmcmaaDoorEg
import Derived.Test.YtmkgkgdngjmcmaaDoorWg
import Derived.Deep.DeepCutAuto
namespace Go.Proofs.YtmkgkgdngjmcmaaDoor
open Go.RowKit
set_option linter.unusedVariables false

/-- Ten cells: two operations where they lie. -/
def TenP (b o d e : Nat) (v u : OpE) (W : World) : Prop := W.cell? ⟨b, o, none⟩ = some (.int .i64 v.kind) ∧ W.cell? ⟨b, o + 1, none⟩ = some (.int .i64 v.pos) ∧ W.cell? ⟨b, o + 2, none⟩ = some (.int .u8 v.ch) ∧ W.cell? ⟨b, o + 3, none⟩ = some (.int .i64 v.cl) ∧ W.cell? ⟨b, o + 4, none⟩ = some (.int .i64 v.sq) ∧ W.cell? ⟨d, e, none⟩ = some (.int .i64 u.kind) ∧ W.cell? ⟨d, e + 1, none⟩ = some (.int .i64 u.pos) ∧ W.cell? ⟨d, e + 2, none⟩ = some (.int .u8 u.ch) ∧ W.cell? ⟨d, e + 3, none⟩ = some (.int .i64 u.cl) ∧ W.cell? ⟨d, e + 4, none⟩ = some (.int .i64 u.sq)

theorem TenP.out {b o d e : Nat} {v u : OpE} {W : World} (h : TenP b o d e v u W) : W.cell? ⟨b, o, none⟩ = some (.int .i64 v.kind) ∧ W.cell? ⟨b, o + 1, none⟩ = some (.int .i64 v.pos) ∧ W.cell? ⟨b, o + 2, none⟩ = some (.int .u8 v.ch) ∧ W.cell? ⟨b, o + 3, none⟩ = some (.int .i64 v.cl) ∧ W.cell? ⟨b, o + 4, none⟩ = some (.int .i64 v.sq) ∧ W.cell? ⟨d, e, none⟩ = some (.int .i64 u.kind) ∧ W.cell? ⟨d, e + 1, none⟩ = some (.int .i64 u.pos) ∧ W.cell? ⟨d, e + 2, none⟩ = some (.int .u8 u.ch) ∧ W.cell? ⟨d, e + 3, none⟩ = some (.int .i64 u.cl) ∧ W.cell? ⟨d, e + 4, none⟩ = some (.int .i64 u.sq) := h

theorem TenP.set {b o d e : Nat} {v u : OpE} {W : World} (h : TenP b o d e v u W) {g i : Nat} {z : Value} (h1 : b ≠ g) (h2 : d ≠ g) : TenP b o d e v u (W.setCell ⟨g, i, none⟩ z) := by
  obtain ⟨a0, a1, a2, a3, a4, d0, d1, d2, d3, d4⟩ := h
  exact ⟨keep_cell a0 h1, keep_cell a1 h1, keep_cell a2 h1, keep_cell a3 h1, keep_cell a4 h1, keep_cell d0 h2, keep_cell d1 h2, keep_cell d2 h2, keep_cell d3 h2, keep_cell d4 h2⟩

theorem TenP.alloc {b o d e : Nat} {v u : OpE} {W : World} (h : TenP b o d e v u W) (x : Obj) : TenP b o d e v u (W.alloc x) := by
  obtain ⟨a0, a1, a2, a3, a4, d0, d1, d2, d3, d4⟩ := h
  have k : ∀ a u, W.cell? a = some u → (W.alloc x).cell? a = some u := fun a u h => (World.cell?_alloc_some W a x (by rw [h]; rfl)).trans h
  exact ⟨k _ _ a0, k _ _ a1, k _ _ a2, k _ _ a3, k _ _ a4, k _ _ d0, k _ _ d1, k _ _ d2, k _ _ d3, k _ _ d4⟩

theorem second_new (w : World) (a b : Obj) : ((w.alloc a).alloc b).heap[w.heap.size + 1]? = some b := by
  have := heap_alloc_new (w.alloc a) b
  rw [World.size_alloc] at this
  exact this
theorem first_new (w : World) (a b : Obj) : ((w.alloc a).alloc b).heap[w.heap.size]? = some a :=
  (((Below.refl (w.alloc a).heap.size (w.alloc a)).alloc (Nat.le_refl _) b).block _ (by simp)).trans (heap_alloc_new w a)

theorem below_undrew {W w1 : World} (h : Below W.heap.size (W.drewN 1) w1) : Below W.heap.size W w1 := (below_drewN (Below.refl W.heap.size W) 1).trans h

/-- The two operations at their blocks; all else as it was. -/
def CR (w4 wx : World) (g h : Nat) (A B : OpE) : Prop := wx.heap[g]? = some (.cells (opc A).toArray 23 (0, 0)) ∧ wx.heap[h]? = some (.cells (opc B).toArray 23 (0, 0)) ∧ Below w4.heap.size w4 wx

theorem CR.aa {w4 w1 : World} (A B : OpE) (h : Below w4.heap.size w4 w1) : CR w4 ((w1.alloc (.cells (opc A).toArray 23)).alloc (.cells (opc B).toArray 23)) w1.heap.size (w1.heap.size + 1) A B :=
  ⟨first_new w1 _ _, second_new w1 _ _, (h.alloc h.size _).alloc (by simp; have := h.size; omega) _⟩
theorem CR.ba {w4 w1 : World} (A B : OpE) (h : Below w4.heap.size w4 w1) : CR w4 ((w1.alloc (.cells (opc B).toArray 23)).alloc (.cells (opc A).toArray 23)) (w1.heap.size + 1) w1.heap.size A B :=
  ⟨second_new w1 _ _, first_new w1 _ _, (h.alloc h.size _).alloc (by simp; have := h.size; omega) _⟩
theorem CR.sa {w4 w1 : World} (A B Y : OpE) (z : Nat) (h : Below w4.heap.size w4 w1) (hz : w4.heap.size ≤ z) (h8 : w1.heap[z]? = some (.cells (opc Y).toArray 23 (0, 0))) : CR w4 ((set5 w1 z 0 A.kind A.pos A.ch A.cl A.sq).alloc (.cells (opc B).toArray 23)) z w1.heap.size A B := by
  have F := Fr.set5 w1 z 0 A.kind A.pos A.ch A.cl A.sq
  have h5 := set5_op h8 A.kind A.pos A.ch A.cl A.sq
  have hn := heap_alloc_new (set5 w1 z 0 A.kind A.pos A.ch A.cl A.sq) (.cells (opc B).toArray 23)
  rw [show (set5 w1 z 0 A.kind A.pos A.ch A.cl A.sq).heap.size = w1.heap.size by simp [set5]] at hn
  have hb := h.trans (F.below h.size (fun k h => by omega))
  exact ⟨(((Below.refl _ _).alloc (Nat.le_refl _) _).block _ (block_lt h5)).trans h5, hn, hb.alloc hb.size _⟩
theorem CR.sb {w4 w1 : World} (A B Y : OpE) (z : Nat) (h : Below w4.heap.size w4 w1) (hz : w4.heap.size ≤ z) (h8 : w1.heap[z]? = some (.cells (opc Y).toArray 23 (0, 0))) : CR w4 ((set5 w1 z 0 B.kind B.pos B.ch B.cl B.sq).alloc (.cells (opc A).toArray 23)) w1.heap.size z A B := by
  obtain ⟨h1, h2, h3⟩ := CR.sa B A Y z h hz h8
  exact ⟨h2, h1, h3⟩
theorem CR.ss {w4 w1 : World} (A B Y Z : OpE) (z y : Nat) (h : Below w4.heap.size w4 w1) (hz : w4.heap.size ≤ z) (hy : w4.heap.size ≤ y) (hzy : z ≠ y) (h8 : w1.heap[z]? = some (.cells (opc Y).toArray 23 (0, 0))) (h9 : w1.heap[y]? = some (.cells (opc Z).toArray 23 (0, 0))) :
    CR w4 (set5 (set5 w1 z 0 A.kind A.pos A.ch A.cl A.sq) y 0 B.kind B.pos B.ch B.cl B.sq) z y A B := by
  have F := Fr.set5 w1 z 0 A.kind A.pos A.ch A.cl A.sq
  have G := Fr.set5 (set5 w1 z 0 A.kind A.pos A.ch A.cl A.sq) y 0 B.kind B.pos B.ch B.cl B.sq
  have hb := h.trans (F.below h.size (fun k h => by omega))
  exact ⟨G.keeps (set5_op h8 A.kind A.pos A.ch A.cl A.sq) hzy, set5_op (F.keeps h9 (fun h => hzy h.symm)) _ _ _ _ _, hb.trans (G.below hb.size (fun k h => by omega))⟩

theorem isO_two {W : World} {b : Nat} {x y : OpE} (h : W.heap[b]? = some (.cells (opc x ++ opc y).toArray 23 (0, 0))) : IsO W (some ⟨b, 0, none⟩) 2 2 [x, y] := by
  refine ⟨rfl, Nat.le_refl _, by omega, fun _ => ⟨b, 0, rfl, block_lt h, fun j v hj => ?_⟩⟩
  rw [Nat.zero_add, cell_row h]
  rw [cO_cons, cO_one] at hj
  simpa using hj

set_option maxRecDepth 100000 in
set_option maxHeartbeats 8000000 in
theorem otCrosses_any (x : Int) (w : World) (hT : Table w) :
    Calls Tryd.prog 8 #[.int .i64 x] w fun e w' => e = .returned (.bool true) ∧ Below w.heap.size w w' := by
  have HT := hd hT
  clear hT
  go_enter Tryd.func8, Tryd.ntmps8
  go_wp2_with fail
  refine (rest_any x 41 _ (by omega) (by omega)).mono ?_
  rintro e w1 ⟨N, rfl, hN, rfl⟩
  go_wp2_with fail
  refine (text_any N _ (by omega)).mono ?_
  rintro e w2 ⟨vd, rfl, hD, b2⟩
  have D2 := hd hD
  have B2 := hd b2
  clear hD b2
  go_wp2_with fail
  refine (all_any N 2 _ (by omega)).mono ?_
  rintro e w3 ⟨va, rfl, LA, hFA, hPA, hlA⟩
  obtain ⟨aA, cA, rfl, hIA, b3⟩ := hFA.form hlA
  have IA := hd hIA
  have PA := hd hPA
  have D3 := hd (D2.out.below b3)
  have B3 := hd (B2.out.trans (b3.mono B2.out.size))
  clear hFA hPA hIA b3 D2 B2
  go_wp2_with fail
  refine (all_any N 3 _ (by omega)).mono ?_
  rintro e w4 ⟨vb, rfl, LB, hFB, hPB, hlB⟩
  obtain ⟨aB, cB, rfl, hIB, b4⟩ := hFB.form hlB
  have IB := hd hIB
  have PB := hd hPB
  have IA4 := hd (IA.out.below b4)
  have D4 := hd (D3.out.below b4)
  have B4 := hd (B3.out.trans (b4.mono B3.out.size))
  have HLA := hd hlA
  have HLB := hd hlB
  clear hFB hPB hIB b4 D3 B3 IA hlA hlB
  obtain ⟨bd, od, cd, rfl, hID⟩ := D4.out
  rw [textP_len] at hID ⊢
  have ID := hd hID
  have hcA := IA4.out.2.2.1
  have hcA' := IA4.out.2.1
  have hcB := IB.out.2.2.1
  have hcB' := IB.out.2.1
  obtain ⟨M, hM⟩ : ∃ M, M = N + 1 + N + 1 := ⟨_, rfl⟩
  rw [← hM] at IA4 IB HLA HLB hcA' hcB' ⊢
  have HM := hd hM
  clear hID D4 hM
  go_wp2
  go_loopw [6] (fun i wr => ∃ u : Nat, u ≤ M ∧ i = .int .i64 u ∧ Hid (Below w4.heap.size w4 wr)) (fun i _ => M - (intOf i).toNat)
  case atStart => exact ⟨0, Nat.zero_le _, rfl, Below.refl _ _⟩
  case round =>
    obtain ⟨u, hu, rfl, hr⟩ := hrel
    by_cases hlt : u < M
    · have i3 : (u : Int) < (M : Int) := by omega
      obtain ⟨wO, hwO⟩ : ∃ wO, wO = wr := ⟨_, rfl⟩
      subst hwO
      have BO := hr
      clear hr
      go_wp2
      go_loopw [7] (fun i wr => ∃ t : Nat, t ≤ M ∧ i = .int .i64 t ∧ Hid (Below w4.heap.size w4 wr)) (fun i _ => M - (intOf i).toNat)
      case atStart => exact ⟨0, Nat.zero_le _, rfl, BO⟩
      case round =>
        obtain ⟨t, ht, rfl, hr⟩ := hrel
        by_cases hlt2 : t < M
        · have i4 : (t : Int) < (M : Int) := by omega
          have ua : u < LA.length := by have := HLA.out; omega
          have tb : t < LB.length := by have := HLB.out; omega
          have ia := IA4.out.below hr.out
          have ib := IB.out.below hr.out
          obtain ⟨ba, oa, rfl, hba⟩ := ia.addr (by omega)
          obtain ⟨bb, ob, rfl, hbb⟩ := ib.addr (by omega)
          obtain ⟨x0, x1, x2, x3, x4⟩ := ia.at u hlt ua
          obtain ⟨y0, y1, y2, y3, y4⟩ := ib.at t hlt2 tb
          have fa := PA.out _ (List.getElem_mem ua)
          have fb := PB.out _ (List.getElem_mem tb)
          have XT : Hid (∀ W, Below w4.heap.size w4 W → TenP ba (oa + u * 5) bb (ob + t * 5) LA[u] LB[t] W) := fun W hW => by
            obtain ⟨x0, x1, x2, x3, x4⟩ := (IA4.out.below hW).at u hlt ua
            obtain ⟨y0, y1, y2, y3, y4⟩ := (IB.out.below hW).at t hlt2 tb
            exact ⟨x0, x1, x2, x3, x4, y0, y1, y2, y3, y4⟩
          generalize LA[u] = A at *
          generalize LB[t] = B at *
          have FA := hd fa
          have FB := hd fb
          have BR := hr
          clear ia ib fa fb hr
          obtain ⟨ak, ap, ac, al, aq⟩ := A
          obtain ⟨bk, bp, bc, bl, bq⟩ := B
          simp only [] at x0 x1 x2 x3 x4 y0 y1 y2 y3 y4
          obtain ⟨⟨xk, xp, xc, xl, xq⟩, hX⟩ : ∃ X, shiftP ⟨ak, ap, ac, al, aq⟩ ⟨bk, bp, bc, bl, bq⟩ true = X := ⟨_, rfl⟩
          obtain ⟨⟨yk, yp, yc, yl, yq⟩, hY⟩ : ∃ X, shiftP ⟨bk, bp, bc, bl, bq⟩ ⟨ak, ap, ac, al, aq⟩ false = X := ⟨_, rfl⟩
          have HX := hd hX
          have HY := hd hY
          clear hX hY
          have TW : Hid (∀ W, Below wr.heap.size wr W → Table W) := fun W h => HT.out.below (B4.out.trans ((BR.out.trans (h.mono BR.out.size)).mono B4.out.size)) HT.out.1
          go_wp2_with fail
          go_cut [8, 9] (fun x y wx => ∃ g h, x = .pointer (some ⟨g, 0, none⟩) ∧ y = .pointer (some ⟨h, 0, none⟩) ∧ Hid (CR w4 wx g h ⟨xk, xp, xc, xl, xq⟩ ⟨yk, yp, yc, yl, yq⟩))
          case first =>
            go_region_held3 (fun W => W.cell? ⟨ba, oa + u * 5, none⟩ = some (.int .i64 ak) ∧ W.cell? ⟨ba, oa + u * 5 + 1, none⟩ = some (.int .i64 ap) ∧ W.cell? ⟨ba, oa + u * 5 + 2, none⟩ = some (.int .u8 ac) ∧ W.cell? ⟨ba, oa + u * 5 + 3, none⟩ = some (.int .i64 al) ∧ W.cell? ⟨ba, oa + u * 5 + 4, none⟩ = some (.int .i64 aq) ∧ W.cell? ⟨bb, ob + t * 5, none⟩ = some (.int .i64 bk) ∧ W.cell? ⟨bb, ob + t * 5 + 1, none⟩ = some (.int .i64 bp) ∧ W.cell? ⟨bb, ob + t * 5 + 2, none⟩ = some (.int .u8 bc) ∧ W.cell? ⟨bb, ob + t * 5 + 3, none⟩ = some (.int .i64 bl) ∧ W.cell? ⟨bb, ob + t * 5 + 4, none⟩ = some (.int .i64 bq)) (first | (with_reducible exact ⟨by assumption, by assumption, by assumption, by assumption, by assumption, by assumption, by assumption, by assumption, by assumption, by assumption⟩) | (go_keep; done) | (with_reducible refine TenP.out (b := ba) (o := oa + u * 5) (d := bb) (e := ob + t * 5) (v := ⟨ak, ap, ac, al, aq⟩) (u := ⟨bk, bp, bc, bl, bq⟩) ?_; (repeat' (first | (with_reducible exact K0) | (with_reducible refine TenP.set ?_ (by omega) (by omega)) | (with_reducible refine TenP.alloc ?_ _))))) (first | (go_at_call 11; refine (cross_of ⟨ak, ap, ac, al, aq⟩ ⟨bk, bp, bc, bl, bq⟩ _ _ _ ?_ HX.out HY.out).mono ?_; (first | exact TW.out _ (below_drewN (Below.refl _ _) 1) | exact TW.out _ (below_drewN ((Below.refl _ _).alloc (Nat.le_refl _) _) 1) | exact TW.out _ (below_drewN (((Below.refl _ _).alloc (Nat.le_refl _) _).alloc (by simp) _) 1)); rintro e w1 ⟨rfl, b1⟩; simp only [OpE.val]; have bb1 : Below wr.heap.size wr w1 := (by first | exact (below_drewN (Below.refl wr.heap.size wr) 1).trans b1 | exact (below_drewN ((Below.refl wr.heap.size wr).alloc (Nat.le_refl _) _) 1).trans (b1.mono (by simp)) | exact (below_drewN (((Below.refl wr.heap.size wr).alloc (Nat.le_refl _) _).alloc (by simp) _) 1).trans (b1.mono (by simp; omega))); have x0 := (bb1.cell (p := ⟨ba, oa + u * 5, none⟩) hba).trans x0; have y0 := (bb1.cell (p := ⟨bb, ob + t * 5, none⟩) hbb).trans y0; have x1 := (bb1.cell (p := ⟨ba, oa + u * 5 + 1, none⟩) hba).trans x1; have y1 := (bb1.cell (p := ⟨bb, ob + t * 5 + 1, none⟩) hbb).trans y1; have x2 := (bb1.cell (p := ⟨ba, oa + u * 5 + 2, none⟩) hba).trans x2; have y2 := (bb1.cell (p := ⟨bb, ob + t * 5 + 2, none⟩) hbb).trans y2; have x3 := (bb1.cell (p := ⟨ba, oa + u * 5 + 3, none⟩) hba).trans x3; have y3 := (bb1.cell (p := ⟨bb, ob + t * 5 + 3, none⟩) hbb).trans y3; have x4 := (bb1.cell (p := ⟨ba, oa + u * 5 + 4, none⟩) hba).trans x4; have y4 := (bb1.cell (p := ⟨bb, ob + t * 5 + 4, none⟩) hbb).trans y4; have K0 : TenP ba (oa + u * 5) bb (ob + t * 5) ⟨ak, ap, ac, al, aq⟩ ⟨bk, bp, bc, bl, bq⟩ w1 := ⟨x0, x1, x2, x3, x4, y0, y1, y2, y3, y4⟩; (first | (have p9 : w1.heap[wr.heap.size + 1]? = some (.cells #[.int .i64 0, .int .i64 0, .int .u8 0, .int .i64 0, .int .i64 0] 23 (0, 0)) := (b1.block _ (by simp)).trans (second_new wr _ _); have p8 : w1.heap[wr.heap.size]? = some (.cells #[.int .i64 0, .int .i64 0, .int .u8 0, .int .i64 0, .int .i64 0] 23 (0, 0)) := (b1.block _ (by simp; omega)).trans (first_new wr _ _); obtain ⟨⟨h0, h1, h2, h3, h4⟩, ⟨f0, f1, f2, f3, f4⟩⟩ := cellsF p8; obtain ⟨⟨g0, g1, g2, g3, g4⟩, ⟨e0, e1, e2, e3, e4⟩⟩ := cellsF p9; have P8 := hd p8; have P9 := hd p9; have l8 := block_lt p8; have l9 := block_lt p9; clear p8 p9) | (have p8 : w1.heap[wr.heap.size]? = some (.cells #[.int .i64 0, .int .i64 0, .int .u8 0, .int .i64 0, .int .i64 0] 23 (0, 0)) := (b1.block _ (by simp)).trans (heap_alloc_new wr _); obtain ⟨⟨h0, h1, h2, h3, h4⟩, ⟨f0, f1, f2, f3, f4⟩⟩ := cellsF p8; have P8 := hd p8; have l8 := block_lt p8; have l8n : ¬ (w1.heap.size = wr.heap.size) := (by omega); have l8m : ¬ (wr.heap.size = w1.heap.size) := (by omega); clear p8) | skip); have sz1 := bb1.size; have BB1 := hd bb1; clear b1 bb1))
            · have Z := hd (CR.aa ⟨xk, xp, xc, xl, xq⟩ ⟨yk, yp, yc, yl, yq⟩ (BR.out.trans (BB1.out.mono BR.out.size)))
              go_wp2_with fail
              go_meet
              exact ⟨w1.heap.size, w1.heap.size + 1, rfl, rfl, Z⟩
            · have Z := hd (CR.ba ⟨xk, xp, xc, xl, xq⟩ ⟨yk, yp, yc, yl, yq⟩ (BR.out.trans (BB1.out.mono BR.out.size)))
              go_wp2_with fail
              go_meet
              exact ⟨w1.heap.size + 1, w1.heap.size, rfl, rfl, Z⟩
            · have Z := hd (CR.sa ⟨xk, xp, xc, xl, xq⟩ ⟨yk, yp, yc, yl, yq⟩ zop wr.heap.size (BR.out.trans (BB1.out.mono BR.out.size)) BR.out.size P8.out)
              go_wp2_with fail
              go_meet
              exact ⟨wr.heap.size, w1.heap.size, rfl, rfl, Z⟩
            · have Z := hd (CR.ss ⟨xk, xp, xc, xl, xq⟩ ⟨yk, yp, yc, yl, yq⟩ zop zop wr.heap.size (wr.heap.size + 1) (BR.out.trans (BB1.out.mono BR.out.size)) BR.out.size (Nat.le_succ_of_le BR.out.size) (by omega) P8.out P9.out)
              go_wp2_with fail
              go_meet
              exact ⟨wr.heap.size, wr.heap.size + 1, rfl, rfl, Z⟩
            · have Z := hd (CR.sb ⟨xk, xp, xc, xl, xq⟩ ⟨yk, yp, yc, yl, yq⟩ zop wr.heap.size (BR.out.trans (BB1.out.mono BR.out.size)) BR.out.size P8.out)
              go_wp2_with fail
              go_meet
              exact ⟨w1.heap.size, wr.heap.size, rfl, rfl, Z⟩
            · have Z := hd (CR.ss ⟨xk, xp, xc, xl, xq⟩ ⟨yk, yp, yc, yl, yq⟩ zop zop (wr.heap.size + 1) wr.heap.size (BR.out.trans (BB1.out.mono BR.out.size)) (Nat.le_succ_of_le BR.out.size) BR.out.size (by omega) P9.out P8.out)
              go_wp2_with fail
              go_meet
              exact ⟨wr.heap.size + 1, wr.heap.size, rfl, rfl, Z⟩
          case rest =>
          obtain ⟨g, h, rfl, rfl, hC⟩ := hcut
          clear x0 x1 x2 x3 x4 y0 y1 y2 y3 y4
          obtain ⟨x0, x1, x2, x3, x4, y0, y1, y2, y3, y4⟩ := XT.out wc hC.out.2.2
          obtain ⟨⟨p0, p1, p2, p3, p4⟩, -⟩ := cellsF hC.out.1
          obtain ⟨⟨q0, q1, q2, q3, q4⟩, -⟩ := cellsF hC.out.2.1
          have sq := square (textP N) ⟨ak, ap, ac, al, aq⟩ ⟨bk, bp, bc, bl, bq⟩ (by rw [textP_len]; omega) (by rw [textP_len]; exact FA.out.1) (by rw [textP_len]; exact FB.out.1)
          rw [HX.out, HY.out] at sq
          have SQ := hd sq
          clear sq
          have DT : Hid (∀ W, Below w4.heap.size w4 W → AtE W (.slice (some ⟨bd, od, none⟩) N cd) (textP N)) := fun W hW => ⟨bd, od, cd, by rw [textP_len], by rw [textP_len]; exact ID.out.below hW⟩
          have BN : Hid (((textP N).length + 2 + 1) * 24 ≤ 281474976710656) := Nat.le_trans (Nat.mul_le_mul_right 24 (show (textP N).length + 2 + 1 ≤ 44 by rw [textP_len]; omega)) (by decide)
          have hlh := block_lt hC.out.2.1
          have hlg := block_lt hC.out.1
          have hba4 : ba < wc.heap.size := by
            obtain ⟨b', o', e', hl', -⟩ := IA4.out.2.2.2 (by omega)
            simp at e'
            have := hC.out.2.2.size
            omega
          have hbb4 : bb < wc.heap.size := by
            obtain ⟨b', o', e', hl', -⟩ := IB.out.2.2.2 (by omega)
            simp at e'
            have := hC.out.2.2.size
            omega
          go_wp2_with fail
          go_region_held3 (fun W => W.cell? ⟨ba, oa + u * 5, none⟩ = some (.int .i64 ak) ∧ W.cell? ⟨ba, oa + u * 5 + 1, none⟩ = some (.int .i64 ap) ∧ W.cell? ⟨ba, oa + u * 5 + 2, none⟩ = some (.int .u8 ac) ∧ W.cell? ⟨ba, oa + u * 5 + 3, none⟩ = some (.int .i64 al) ∧ W.cell? ⟨ba, oa + u * 5 + 4, none⟩ = some (.int .i64 aq) ∧ W.cell? ⟨h, 0, none⟩ = some (.int .i64 yk) ∧ W.cell? ⟨h, 1, none⟩ = some (.int .i64 yp) ∧ W.cell? ⟨h, 2, none⟩ = some (.int .u8 yc) ∧ W.cell? ⟨h, 3, none⟩ = some (.int .i64 yl) ∧ W.cell? ⟨h, 4, none⟩ = some (.int .i64 yq)) (first | (with_reducible exact ⟨by assumption, by assumption, by assumption, by assumption, by assumption, by assumption, by assumption, by assumption, by assumption, by assumption⟩) | (go_keep; done)) (first | (go_at_call 22; refine (run_fit _ _ 2 2 (textP N) [⟨ak, ap, ac, al, aq⟩, ⟨yk, yp, yc, yl, yq⟩] _ (DT.out _ (by first | exact hC.out.2.2.alloc hC.out.2.2.size _ | exact below_drewN (hC.out.2.2.alloc hC.out.2.2.size _) 1 | exact (below_drewN hC.out.2.2 1).alloc hC.out.2.2.size _)) (isO_two (by first | exact heap_alloc_new wc _ | exact heap_alloc_new wc.drew _)) ⟨by rw [textP_len]; exact FA.out.1, SQ.out.fb, trivial⟩ BN.out).mono ?_; rintro e w5 ⟨vx, rfl, hAt, b5'⟩; have b5 : Below wc.heap.size wc w5 := (by first | exact ((Below.refl wc.heap.size wc).alloc (Nat.le_refl _) _).trans (b5'.mono (by simp)) | exact (below_drewN ((Below.refl wc.heap.size wc).alloc (Nat.le_refl _) _) 1).trans (b5'.mono (by simp)) | exact ((below_drewN (Below.refl wc.heap.size wc) 1).alloc (Nat.le_refl _) _).trans (b5'.mono (by simp))); have x0 := (b5.cell (p := ⟨ba, oa + u * 5, none⟩) hba4).trans x0; have q0 := (b5.cell (p := ⟨h, 0, none⟩) hlh).trans q0; have x1 := (b5.cell (p := ⟨ba, oa + u * 5 + 1, none⟩) hba4).trans x1; have q1 := (b5.cell (p := ⟨h, 1, none⟩) hlh).trans q1; have x2 := (b5.cell (p := ⟨ba, oa + u * 5 + 2, none⟩) hba4).trans x2; have q2 := (b5.cell (p := ⟨h, 2, none⟩) hlh).trans q2; have x3 := (b5.cell (p := ⟨ba, oa + u * 5 + 3, none⟩) hba4).trans x3; have q3 := (b5.cell (p := ⟨h, 3, none⟩) hlh).trans q3; have x4 := (b5.cell (p := ⟨ba, oa + u * 5 + 4, none⟩) hba4).trans x4; have q4 := (b5.cell (p := ⟨h, 4, none⟩) hlh).trans q4; have Aw5 := hd hAt; have Bw5 := hd b5; clear hAt b5 b5'))
          have C5 := hd (hC.out.2.2.trans (Bw5.out.mono hC.out.2.2.size))
          have hbb5 := Nat.lt_of_lt_of_le hbb4 Bw5.out.size
          have hlg5 := Nat.lt_of_lt_of_le hlg Bw5.out.size
          have y0 := (Bw5.out.cell (p := ⟨bb, ob + t * 5, none⟩) hbb4).trans y0
          have p0 := (Bw5.out.cell (p := ⟨g, 0, none⟩) hlg).trans p0
          have y1 := (Bw5.out.cell (p := ⟨bb, ob + t * 5 + 1, none⟩) hbb4).trans y1
          have p1 := (Bw5.out.cell (p := ⟨g, 1, none⟩) hlg).trans p1
          have y2 := (Bw5.out.cell (p := ⟨bb, ob + t * 5 + 2, none⟩) hbb4).trans y2
          have p2 := (Bw5.out.cell (p := ⟨g, 2, none⟩) hlg).trans p2
          have y3 := (Bw5.out.cell (p := ⟨bb, ob + t * 5 + 3, none⟩) hbb4).trans y3
          have p3 := (Bw5.out.cell (p := ⟨g, 3, none⟩) hlg).trans p3
          have y4 := (Bw5.out.cell (p := ⟨bb, ob + t * 5 + 4, none⟩) hbb4).trans y4
          have p4 := (Bw5.out.cell (p := ⟨g, 4, none⟩) hlg).trans p4
          clear x0 x1 x2 x3 x4 q0 q1 q2 q3 q4
          go_wp2_with fail
          go_region_held3 (fun W => W.cell? ⟨bb, ob + t * 5, none⟩ = some (.int .i64 bk) ∧ W.cell? ⟨bb, ob + t * 5 + 1, none⟩ = some (.int .i64 bp) ∧ W.cell? ⟨bb, ob + t * 5 + 2, none⟩ = some (.int .u8 bc) ∧ W.cell? ⟨bb, ob + t * 5 + 3, none⟩ = some (.int .i64 bl) ∧ W.cell? ⟨bb, ob + t * 5 + 4, none⟩ = some (.int .i64 bq) ∧ W.cell? ⟨g, 0, none⟩ = some (.int .i64 xk) ∧ W.cell? ⟨g, 1, none⟩ = some (.int .i64 xp) ∧ W.cell? ⟨g, 2, none⟩ = some (.int .u8 xc) ∧ W.cell? ⟨g, 3, none⟩ = some (.int .i64 xl) ∧ W.cell? ⟨g, 4, none⟩ = some (.int .i64 xq)) (first | (with_reducible exact ⟨by assumption, by assumption, by assumption, by assumption, by assumption, by assumption, by assumption, by assumption, by assumption, by assumption⟩) | (go_keep; done)) (first | (go_at_call 22; refine (run_fit _ _ 2 2 (textP N) [⟨bk, bp, bc, bl, bq⟩, ⟨xk, xp, xc, xl, xq⟩] _ (DT.out _ (by first | exact C5.out.alloc C5.out.size _ | exact below_drewN (C5.out.alloc C5.out.size _) 1 | exact (below_drewN C5.out 1).alloc C5.out.size _)) (isO_two (by first | exact heap_alloc_new w5 _ | exact heap_alloc_new w5.drew _)) ⟨by rw [textP_len]; exact FB.out.1, SQ.out.fa, trivial⟩ BN.out).mono ?_; rintro e w6 ⟨vy, rfl, hAt, b5'⟩; have b5 : Below w5.heap.size w5 w6 := (by first | exact ((Below.refl w5.heap.size w5).alloc (Nat.le_refl _) _).trans (b5'.mono (by simp)) | exact (below_drewN ((Below.refl w5.heap.size w5).alloc (Nat.le_refl _) _) 1).trans (b5'.mono (by simp)) | exact ((below_drewN (Below.refl w5.heap.size w5) 1).alloc (Nat.le_refl _) _).trans (b5'.mono (by simp))); have y0 := (b5.cell (p := ⟨bb, ob + t * 5, none⟩) hbb5).trans y0; have p0 := (b5.cell (p := ⟨g, 0, none⟩) hlg5).trans p0; have y1 := (b5.cell (p := ⟨bb, ob + t * 5 + 1, none⟩) hbb5).trans y1; have p1 := (b5.cell (p := ⟨g, 1, none⟩) hlg5).trans p1; have y2 := (b5.cell (p := ⟨bb, ob + t * 5 + 2, none⟩) hbb5).trans y2; have p2 := (b5.cell (p := ⟨g, 2, none⟩) hlg5).trans p2; have y3 := (b5.cell (p := ⟨bb, ob + t * 5 + 3, none⟩) hbb5).trans y3; have p3 := (b5.cell (p := ⟨g, 3, none⟩) hlg5).trans p3; have y4 := (b5.cell (p := ⟨bb, ob + t * 5 + 4, none⟩) hbb5).trans y4; have p4 := (b5.cell (p := ⟨g, 4, none⟩) hlg5).trans p4; have Aw6 := hd hAt; have Bw6 := hd b5; clear hAt b5 b5'))
          have C6 := hd (C5.out.trans (Bw6.out.mono C5.out.size))
          have e5 : runP (textP N) [⟨ak, ap, ac, al, aq⟩, ⟨yk, yp, yc, yl, yq⟩] = putP (putP (textP N) ⟨ak, ap, ac, al, aq⟩) ⟨yk, yp, yc, yl, yq⟩ := rfl
          have e6 : runP (textP N) [⟨bk, bp, bc, bl, bq⟩, ⟨xk, xp, xc, xl, xq⟩] = putP (putP (textP N) ⟨ak, ap, ac, al, aq⟩) ⟨yk, yp, yc, yl, yq⟩ := SQ.out.eq.symm
          have T5 := Aw5.out.below Bw6.out
          have T6 := Aw6.out
          rw [e5] at T5
          rw [e6] at T6
          have V5 := hd T5
          have V6 := hd T6
          clear e5 e6 T5 T6 Aw5 Aw6 y0 y1 y2 y3 y4 p0 p1 p2 p3 p4 Bw5 Bw6
          obtain ⟨x0, x1, x2, x3, x4, y0, y1, y2, y3, y4⟩ := XT.out w6 C6.out
          go_wp2_with fail
          refine (sameText_true vx vy _ w6 V5.out V6.out).mono ?_
          rintro e w7 ⟨rfl, m7, rfl⟩
          go_wp2_with fail
          have C8 := hd (below_drewN C6.out m7)
          have V8 := hd (V5.out.drewN m7)
          clear x0 x1 x2 x3 x4 y0 y1 y2 y3 y4 V5 V6 C6 C5
          generalize w6.drewN m7 = w8 at *
          obtain ⟨x0, x1, x2, x3, x4, y0, y1, y2, y3, y4⟩ := XT.out w8 C8.out
          simp only [] at x0 x1 x2 x3 x4 y0 y1 y2 y3 y4
          by_cases k1 : ak = 1
          · by_cases k2 : bk = 1
            · by_cases k3 : ap = bp
              · subst k1 k2 k3
                obtain ⟨p, hp, hpN⟩ : ∃ p : Nat, ap = (p : Int) ∧ p ≤ N := by
                  rcases FA.out.1 with ⟨h, _⟩ | ⟨_, p, h1, h2⟩ | ⟨h, _⟩
                  · simp at h
                  · exact ⟨p, h1, h2⟩
                  · simp at h
                subst hp
                have hal : al = 2 := FA.out.2
                have hbl : bl = 3 := FB.out.2
                subst hal hbl
                have hY2 : (⟨yk, yp, yc, yl, yq⟩ : OpE) = ⟨1, (p : Int) + 1, bc, 3, bq⟩ := by
                  rw [← HY.out]
                  simp [shiftP, wrap_up (show p < 1000000000 by omega)]
                have eT : putP (putP (textP N) ⟨1, p, ac, 2, aq⟩) ⟨yk, yp, yc, yl, yq⟩ = ((textP N).insertIdx p (ac, 2, aq)).insertIdx (p + 1) (bc, 3, bq) := by
                  rw [hY2, putP_ins, putP_ins1]
                have hT := V8.out
                rw [eT] at hT
                obtain ⟨bx, ox, cx, rfl, hI⟩ := hT
                have hlen : (((textP N).insertIdx p (ac, 2, aq)).insertIdx (p + 1) (bc, 3, bq)).length = N + 2 := by
                  rw [insert_len _ _ _ (by rw [insert_len _ _ _ (by rw [textP_len]; exact hpN), textP_len]; omega), insert_len _ _ _ (by rw [textP_len]; exact hpN), textP_len]
                have a1 : (((textP N).insertIdx p (ac, 2, aq)).insertIdx (p + 1) (bc, 3, bq))[p]? = some (ac, 2, aq) := by
                  rw [List.getElem?_insertIdx, if_pos (by omega), List.getElem?_insertIdx, if_neg (by omega), if_pos rfl, if_pos (by rw [textP_len]; exact hpN)]
                have a2 : (((textP N).insertIdx p (ac, 2, aq)).insertIdx (p + 1) (bc, 3, bq))[p + 1]? = some (bc, 3, bq) := by
                  rw [List.getElem?_insertIdx, if_neg (by omega), if_pos rfl, if_pos (by rw [insert_len _ _ _ (by rw [textP_len]; exact hpN), textP_len]; omega)]
                rw [hlen] at hI ⊢
                generalize ((textP N).insertIdx p (ac, 2, aq)).insertIdx (p + 1) (bc, 3, bq) = TT at *
                have l1 : p < TT.length := by omega
                have l2 : p + 1 < TT.length := by omega
                have z1 := (hI.at p (by omega) l1).2.1
                have z2 := (hI.at (p + 1) (by omega) l2).2.1
                rw [List.getElem?_eq_getElem l1] at a1
                rw [List.getElem?_eq_getElem l2] at a2
                rw [Option.some.inj a1] at z1
                rw [Option.some.inj a2] at z2
                simp only [] at z1 z2
                have i5 : (p : Int) < ((N + 2 : Nat) : Int) := by omega
                have i6 : (p : Int) + 1 < ((N + 2 : Nat) : Int) := by omega
                have i7 : (p : Int) < (N : Int) + 2 := by omega
                have i8 : (p : Int) + 1 < (N : Int) + 2 := by omega
                have i9 : (0 : Int) ≤ (p : Int) + 1 := by omega
                have i10 : ((p : Int) + 1).toNat = p + 1 := by omega
                have hw : IntKind.i64.wrap ((p : Int) + 1) = (p : Int) + 1 := by rw [IntKind.wrap_i64]; omega
                clear hI hlen a1 a2 l1 l2 hY2 eT V8
                go_quiet (fail)
                go_wp2
                exact ⟨⟨t + 1, by omega, by go_num, below_drewN C8.out _⟩, by simp [intOf]; omega⟩
              · have k3' : (ap == bp) = false := by simpa using k3
                subst k1 k2
                clear k3
                go_quiet (fail)
                go_wp2
                exact ⟨⟨t + 1, by omega, by go_num, below_drewN C8.out _⟩, by simp [intOf]; omega⟩
            · have k2' : (bk == 1) = false := by simpa using k2
              subst k1
              clear k2
              go_quiet (fail)
              go_wp2
              exact ⟨⟨t + 1, by omega, by go_num, below_drewN C8.out _⟩, by simp [intOf]; omega⟩
          · have k1' : (ak == 1) = false := by simpa using k1
            clear k1
            go_quiet (fail)
            go_wp2
            exact ⟨⟨t + 1, by omega, by go_num, below_drewN C8.out _⟩, by simp [intOf]; omega⟩
        · obtain rfl : t = M := by omega
          go_wp2
          exact ⟨⟨u + 1, by omega, by go_num, hr⟩, by simp [intOf]; omega⟩
    · obtain rfl : u = M := by omega
      have BF := hd (B4.out.trans (hr.out.mono B4.out.size))
      clear hr
      go_wp2
      go_ret
      exact ⟨rfl, BF.out⟩

end Go.Proofs.YtmkgkgdngjmcmaaDoor
