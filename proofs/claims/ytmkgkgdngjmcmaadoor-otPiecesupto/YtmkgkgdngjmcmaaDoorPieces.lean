/-
  OtPieces.
-/
import Derived.Test.YtmkgkgdngjmcmaaDoorPa
import Derived.Test.YtmkgkgdngjmcmaaDoorNp
import Derived.Deep.DeepCutAuto
namespace Go.Proofs.YtmkgkgdngjmcmaaDoor
open Go.RowKit
set_option linter.unusedVariables false

theorem keep_cell {w : World} {p a : Addr} {u v : Value} (h : w.cell? a = some v) (hb : a.block ≠ p.block) : (w.setCell p u).cell? a = some v := by
  rw [← h]
  exact World.cell?_of_block (Below.heap_setCell w p u a.block hb)
def FivP (b : Nat) (v : OpE) (W : World) : Prop := W.cell? ⟨b, 0, none⟩ = some (.int .i64 v.kind) ∧ W.cell? ⟨b, 1, none⟩ = some (.int .i64 v.pos) ∧ W.cell? ⟨b, 2, none⟩ = some (.int .u8 v.ch) ∧ W.cell? ⟨b, 3, none⟩ = some (.int .i64 v.cl) ∧ W.cell? ⟨b, 4, none⟩ = some (.int .i64 v.sq)
theorem FivP.out {b : Nat} {v : OpE} {W : World} (h : FivP b v W) : W.cell? ⟨b, 0, none⟩ = some (.int .i64 v.kind) ∧ W.cell? ⟨b, 1, none⟩ = some (.int .i64 v.pos) ∧ W.cell? ⟨b, 2, none⟩ = some (.int .u8 v.ch) ∧ W.cell? ⟨b, 3, none⟩ = some (.int .i64 v.cl) ∧ W.cell? ⟨b, 4, none⟩ = some (.int .i64 v.sq) := h
theorem FivP.set {b : Nat} {v : OpE} {W : World} (h : FivP b v W) {g i : Nat} {z : Value} (h1 : b ≠ g) : FivP b v (W.setCell ⟨g, i, none⟩ z) := by
  obtain ⟨a0, a1, a2, a3, a4⟩ := h
  exact ⟨keep_cell a0 h1, keep_cell a1 h1, keep_cell a2 h1, keep_cell a3 h1, keep_cell a4 h1⟩
theorem FivP.set5 {b : Nat} {v : OpE} {W : World} (h : FivP b v W) (g : Nat) (z : OpE) (h1 : b ≠ g) :
    FivP b v (((((W.setCell ⟨g, 0, none⟩ (.int .i64 z.kind)).setCell ⟨g, 1, none⟩ (.int .i64 z.pos)).setCell ⟨g, 2, none⟩ (.int .u8 z.ch)).setCell ⟨g, 3, none⟩ (.int .i64 z.cl)).setCell ⟨g, 4, none⟩ (.int .i64 z.sq)) :=
  ((((h.set h1).set h1).set h1).set h1).set h1

/-- Behind Through: the operation at its block, the line in its row, the rest as it was. -/
def PR (w wx : World) (bx : Nat) (R : OpE) (g n c : Nat) (l : List OpE) : Prop :=
  wx.heap[bx]? = some (.cells (opc R).toArray 23 (0, 0)) ∧ RowO wx g n c l ∧ Below w.heap.size w wx ∧ w.heap.size ≤ bx

theorem PR.set {w w2 : World} {Y : OpE} {bx g n c : Nat} {l : List OpE} (h : PR w w2 bx Y g n c l) (R : OpE) (hne : g ≠ bx) : PR w (set5 w2 bx 0 R.kind R.pos R.ch R.cl R.sq) bx R g n c l := by
  obtain ⟨h1, h2, h3, h5⟩ := h
  have F := Fr.set5 w2 bx 0 R.kind R.pos R.ch R.cl R.sq
  exact ⟨set5_op h1 _ _ _ _ _, h2.fr F hne, h3.trans (F.below h3.size (fun k h => by omega)), h5⟩
theorem PR.new {w w2 : World} {g n c : Nat} {l : List OpE} (h : Below w.heap.size w w2) (hR : RowO w2 g n c l) (R : OpE) : PR w (w2.alloc (.cells (opc R).toArray 23)) w2.heap.size R g n c l :=
  ⟨heap_alloc_new w2 _, hR.fr (S := fun _ => False) (Fr.alloc _ _ _) (fun h => h), h.alloc h.size _, h.size⟩

theorem thr_row (o : OpE) (n : Nat) (L : List OpE) (f : Bool) (hn : n ≤ 4096) : ∀ (b : Option Addr) (d : Nat) (W : World), Table W → IsO W b n d L → Calls Tryd.prog 13 #[.agg #[.int .i64 o.kind, .int .i64 o.pos, .int .u8 o.ch, .int .i64 o.cl, .int .i64 o.sq], .slice b n d, .bool f] W fun e w' => ∃ rk rp rc rq rs g' c', (throughP o L f).1 = ⟨rk, rp, rc, rq, rs⟩ ∧ e = .returned (.tuple #[.agg #[.int .i64 rk, .int .i64 rp, .int .u8 rc, .int .i64 rq, .int .i64 rs], .slice (some ⟨g', 0, none⟩) n c', .int .i64 0]) ∧ RowO w' g' n c' (throughP o L f).2 ∧ W.heap.size ≤ g' ∧ Below W.heap.size W w' := by
  intro b d W h1 h2
  refine (through_any o b n d L f W h1 h2 hn).mono ?_
  rintro e w' ⟨v', rfl, ⟨gg, cg, hg, rfl, hR⟩, hb⟩
  rw [throughP_len, h2.1] at hR ⊢
  exact ⟨_, _, _, _, _, _, _, rfl, rfl, hR, hg, hb⟩

set_option maxRecDepth 100000 in
set_option maxHeartbeats 8000000 in
theorem otPieces_any (a1 a2 b1 b2 : Option Addr) (n1 n2 m1 m2 c1 c2 d1 d2 : Nat) (A1 A2 B1 B2 : List OpE) (k p ch cl sq : Int) (f : Bool) (W : World) (hT : Table W) (hA1 : IsO W a1 n1 c1 A1) (hA2 : IsO W a2 n2 c2 A2) (hB1 : IsO W b1 m1 d1 B1) (hB2 : IsO W b2 m2 d2 B2)
    (hn1 : n1 ≤ 1048576) (hn2 : n2 ≤ 1048576) (hm1 : m1 ≤ 1048576) (hm2 : m2 ≤ 1048576) :
    Calls Tryd.prog 6 #[.agg #[.slice a1 n1 c1, .slice a2 n2 c2, .slice b1 m1 d1, .slice b2 m2 d2], .agg #[.int .i64 k, .int .i64 p, .int .u8 ch, .int .i64 cl, .int .i64 sq], .bool f] W fun e w' => e = .returned (.bool true) ∧ Below W.heap.size W w' := by
  have HT := hd hT
  have X1 := hd hA1
  have X2 := hd hA2
  have Y1 := hd hB1
  have Y2 := hd hB2
  clear hT hA1 hA2 hB1 hB2
  go_enter Tryd.func6, Tryd.ntmps6
  go_wp2_with fail
  have bz : Below W.heap.size W ((W.alloc (.cells #[.slice a1 n1 c1, .slice a2 n2 c2, .slice b1 m1 d1, .slice b2 m2 d2] 41)).alloc (.cells #[.int .i64 k, .int .i64 p, .int .u8 ch, .int .i64 cl, .int .i64 sq] 23)) := ((Below.refl _ _).alloc (Nat.le_refl _) _).alloc (by rw [World.size_alloc]; omega) _
  have f0 : ((W.alloc (.cells #[.slice a1 n1 c1, .slice a2 n2 c2, .slice b1 m1 d1, .slice b2 m2 d2] 41)).alloc (.cells #[.int .i64 k, .int .i64 p, .int .u8 ch, .int .i64 cl, .int .i64 sq] 23)).heap[W.heap.size]? = some (.cells #[.slice a1 n1 c1, .slice a2 n2 c2, .slice b1 m1 d1, .slice b2 m2 d2] 41 (0, 0)) := (heap_alloc_old _ _ (by rw [World.size_alloc]; omega)).trans (heap_alloc_new W _)
  have f1 : ((W.alloc (.cells #[.slice a1 n1 c1, .slice a2 n2 c2, .slice b1 m1 d1, .slice b2 m2 d2] 41)).alloc (.cells #[.int .i64 k, .int .i64 p, .int .u8 ch, .int .i64 cl, .int .i64 sq] 23)).heap[W.heap.size + 1]? = some (.cells (opc ⟨k, p, ch, cl, sq⟩).toArray 23 (0, 0)) := by
    have := heap_alloc_new (W.alloc (.cells #[.slice a1 n1 c1, .slice a2 n2 c2, .slice b1 m1 d1, .slice b2 m2 d2] 41)) (.cells (opc ⟨k, p, ch, cl, sq⟩).toArray 23)
    rw [World.size_alloc] at this
    exact this
  generalize (W.alloc (.cells #[.slice a1 n1 c1, .slice a2 n2 c2, .slice b1 m1 d1, .slice b2 m2 d2] 41)).alloc (.cells #[.int .i64 k, .int .i64 p, .int .u8 ch, .int .i64 cl, .int .i64 sq] 23) = w0 at *
  have q0 : w0.cell? ⟨W.heap.size, 0, none⟩ = some (.slice a1 n1 c1) := by simp only [World.cell?, f0]; rfl
  have q1 : w0.cell? ⟨W.heap.size, 1, none⟩ = some (.slice a2 n2 c2) := by simp only [World.cell?, f0]; rfl
  have q2 : w0.cell? ⟨W.heap.size, 2, none⟩ = some (.slice b1 m1 d1) := by simp only [World.cell?, f0]; rfl
  have q3 : w0.cell? ⟨W.heap.size, 3, none⟩ = some (.slice b2 m2 d2) := by simp only [World.cell?, f0]; rfl
  have BZ := hd bz
  have F1 := hd f1
  clear bz f0 f1
  go_quiet (fail)
  have BQ : Below W.heap.size W (w0.drewN nq) := below_drewN BZ.out nq
  replace X1 := hd (X1.out.below BQ)
  replace X2 := hd (X2.out.below BQ)
  replace Y1 := hd (Y1.out.below BQ)
  replace Y2 := hd (Y2.out.below BQ)
  replace HT := hd (HT.out.below BQ HT.out.1)
  replace BZ := hd BQ
  replace F1 : Hid ((w0.drewN nq).heap[W.heap.size + 1]? = some (.cells (opc ⟨k, p, ch, cl, sq⟩).toArray 23 (0, 0))) := F1.out
  clear q0 q1 q2 q3 BQ
  generalize w0.drewN nq = w1 at *
  go_wp2_with fail
  refine (lcopied_any _ _ _ A1 _ X1.out (by omega)).mono ?_
  rintro r w2 ⟨v, rfl, hO, b⟩
  obtain ⟨gXS, cXS, w3, hap, hR, hg, b2⟩ := appO b hO (X2.out.below b) X1.out.1 (by omega)
  obtain ⟨ga, ca, -, rfl, -⟩ := hO
  rw [X1.out.1] at hap ⊢
  obtain ⟨N, hN⟩ : ∃ N, n1 + n2 = N := ⟨_, rfl⟩
  rw [hN] at hap hR
  have XS := hd hR.isO
  replace X1 := hd (X1.out.below b2)
  replace X2 := hd (X2.out.below b2)
  replace Y1 := hd (Y1.out.below b2)
  replace Y2 := hd (Y2.out.below b2)
  replace HT := hd (HT.out.below b2 HT.out.1)
  replace F1 := hd ((b2.block _ (block_lt F1.out)).trans F1.out)
  replace BZ := hd (BZ.out.trans (b2.mono BZ.out.size))
  clear hR hg b b2
  go_wp2_with (at_builtin; refine wpList_append_k _ rfl _ _ 32 32 rfl _ _ rfl rfl (hap _) ?_)
  clear hap
  go_wp2_with fail
  refine (lcopied_any _ _ _ B1 _ Y1.out (by omega)).mono ?_
  rintro r w4 ⟨v, rfl, hO, b⟩
  obtain ⟨gYS, cYS, w5, hap, hR, hg, b2⟩ := appO b hO (Y2.out.below b) Y1.out.1 (by omega)
  obtain ⟨ga, ca, -, rfl, -⟩ := hO
  rw [Y1.out.1] at hap ⊢
  obtain ⟨M, hM⟩ : ∃ M, m1 + m2 = M := ⟨_, rfl⟩
  rw [hM] at hap hR
  have YS := hd hR.isO
  replace X1 := hd (X1.out.below b2)
  replace X2 := hd (X2.out.below b2)
  replace Y1 := hd (Y1.out.below b2)
  replace Y2 := hd (Y2.out.below b2)
  replace XS := hd (XS.out.below b2)
  replace HT := hd (HT.out.below b2 HT.out.1)
  replace F1 := hd ((b2.block _ (block_lt F1.out)).trans F1.out)
  replace BZ := hd (BZ.out.trans (b2.mono BZ.out.size))
  clear hR hg b b2
  by_cases hbig : 4096 < N ∨ 4096 < M
  · by_cases h1 : 4096 < N
    · have i1 : (N : Int) > 4096 := by omega
      go_wp2_with (at_builtin; refine wpList_append_k _ rfl _ _ 32 32 rfl _ _ rfl rfl (hap _) ?_)
      go_ret
      exact ⟨rfl, BZ.out⟩
    · have i1 : ¬ (N : Int) > 4096 := by omega
      have i2 : (M : Int) > 4096 := by omega
      go_wp2_with (at_builtin; refine wpList_append_k _ rfl _ _ 32 32 rfl _ _ rfl rfl (hap _) ?_)
      go_ret
      exact ⟨rfl, BZ.out⟩
  have i1 : ¬ (N : Int) > 4096 := by omega
  have i2 : ¬ (M : Int) > 4096 := by omega
  have hN4 : N ≤ 4096 := by omega
  have hM4 : M ≤ 4096 := by omega
  clear hbig
  go_wp2_with (at_builtin; refine wpList_append_k _ rfl _ _ 32 32 rfl _ _ rfl rfl (hap _) ?_)
  clear hap
  clear i1 i2
  have THx := hd (thr_row ⟨k, p, ch, cl, sq⟩ N (A1 ++ A2) f (by omega))
  have hbl := block_lt F1.out
  obtain ⟨⟨o0, o1, o2, o3, o4⟩, -⟩ := cellsF F1.out
  simp only [] at o0 o1 o2 o3 o4
  go_upto_region 6 with fail
  go_cut [13, 14, 15] (fun x l e wx => ∃ bx rk rp rc rq rs g' c', x = .pointer (some ⟨bx, 0, none⟩) ∧ l = .slice (some ⟨g', 0, none⟩) N c' ∧ e = .int .i64 0 ∧ Hid ((throughP ⟨k, p, ch, cl, sq⟩ (A1 ++ A2) f).1 = ⟨rk, rp, rc, rq, rs⟩) ∧ Hid (PR w5 wx bx ⟨rk, rp, rc, rq, rs⟩ g' N c' (throughP ⟨k, p, ch, cl, sq⟩ (A1 ++ A2) f).2))
  case first =>
    as_aux_lemma =>
      go_region_held3 (fun V => V.cell? ⟨W.heap.size + 1, 0, none⟩ = some (.int .i64 k) ∧ V.cell? ⟨W.heap.size + 1, 1, none⟩ = some (.int .i64 p) ∧ V.cell? ⟨W.heap.size + 1, 2, none⟩ = some (.int .u8 ch) ∧ V.cell? ⟨W.heap.size + 1, 3, none⟩ = some (.int .i64 cl) ∧ V.cell? ⟨W.heap.size + 1, 4, none⟩ = some (.int .i64 sq)) (first | (with_reducible exact FivP.out K6) | (with_reducible exact ⟨by assumption, by assumption, by assumption, by assumption, by assumption⟩) | (go_keep; done)) (first | (go_at_call 14; refine (lcopied_any _ N _ (A1 ++ A2) _ (XS.out.below ?_) (by omega)).mono ?_; (first | exact below_drewN (Below.refl _ _) 1 | exact below_drewN ((Below.refl _ _).alloc (Nat.le_refl _) _) 1 | exact Below.refl _ _ | exact (Below.refl _ _).alloc (Nat.le_refl _) _); rintro e u1 ⟨v1, rfl, hOw, b1⟩; obtain ⟨gg, cg, hg, rfl, hR⟩ := hOw; rw [XS.out.1] at hR ⊢; have bb1 : Below w5.heap.size w5 u1 := (by first | exact (below_drewN (Below.refl w5.heap.size w5) 1).trans b1 | exact (below_drewN ((Below.refl w5.heap.size w5).alloc (Nat.le_refl _) _) 1).trans (b1.mono (by simp)) | exact b1 | exact ((Below.refl w5.heap.size w5).alloc (Nat.le_refl _) _).trans (b1.mono (by simp))); have o0 := (bb1.cell (p := ⟨W.heap.size + 1, 0, none⟩) hbl).trans o0; have o1 := (bb1.cell (p := ⟨W.heap.size + 1, 1, none⟩) hbl).trans o1; have o2 := (bb1.cell (p := ⟨W.heap.size + 1, 2, none⟩) hbl).trans o2; have o3 := (bb1.cell (p := ⟨W.heap.size + 1, 3, none⟩) hbl).trans o3; have o4 := (bb1.cell (p := ⟨W.heap.size + 1, 4, none⟩) hbl).trans o4; (first | (have hx : u1.heap[w5.heap.size]? = some (.cells #[.int .i64 0, .int .i64 0, .int .u8 0, .int .i64 0, .int .i64 0] 23 (0, 0)) := (b1.block _ (by simp)).trans (heap_alloc_new w5 _); have HX1 := hd hx; clear hx) | skip); have TW : Hid (∀ W, Below u1.heap.size u1 W → Table W) := (fun W h => HT.out.below (bb1.trans (h.mono bb1.size)) HT.out.1); have IW : Hid (∀ W, Below u1.heap.size u1 W → IsO W (some ⟨gg, 0, none⟩) N cg (A1 ++ A2)) := (fun W h => hR.isO.below h); have BB1 := hd bb1; have sz1 := bb1.size; clear b1 bb1 hR hg) | (go_at_call 13; refine (THx.out _ _ _ (TW.out _ ?_) (IW.out _ ?_)).mono ?_; (first | exact Below.refl _ _ | exact (Below.refl _ _).alloc (Nat.le_refl _) _); (first | exact Below.refl _ _ | exact (Below.refl _ _).alloc (Nat.le_refl _) _); rintro e u2 ⟨rk, rp, rc, rq, rs, g', c', hR2, rfl, hRow, hg2, b2⟩; have HR2 := hd hR2; clear hR2; have HRow := hd hRow; clear hRow; have bb2 : Below u1.heap.size u1 u2 := (by first | exact b2 | exact ((Below.refl u1.heap.size u1).alloc (Nat.le_refl _) _).trans (b2.mono (by simp))); have o0 := ((bb2.mono sz1).cell (p := ⟨W.heap.size + 1, 0, none⟩) hbl).trans o0; have o1 := ((bb2.mono sz1).cell (p := ⟨W.heap.size + 1, 1, none⟩) hbl).trans o1; have o2 := ((bb2.mono sz1).cell (p := ⟨W.heap.size + 1, 2, none⟩) hbl).trans o2; have o3 := ((bb2.mono sz1).cell (p := ⟨W.heap.size + 1, 3, none⟩) hbl).trans o3; have o4 := ((bb2.mono sz1).cell (p := ⟨W.heap.size + 1, 4, none⟩) hbl).trans o4; (first | (have hx : u2.heap[w5.heap.size]? = some (.cells #[.int .i64 0, .int .i64 0, .int .u8 0, .int .i64 0, .int .i64 0] 23 (0, 0)) := (bb2.block _ (block_lt HX1.out)).trans HX1.out; obtain ⟨⟨h0, h1, h2, h3, h4⟩, ⟨f0, f1, f2, f3, f4⟩⟩ := cellsF hx; have GX : Hid (PR w5 u2 w5.heap.size zop g' N c' (throughP ⟨k, p, ch, cl, sq⟩ (A1 ++ A2) f).2) := ⟨hx, HRow.out, BB1.out.trans (bb2.mono sz1), Nat.le_refl _⟩; have NE : g' ≠ w5.heap.size := (by have := block_lt HX1.out; omega); have K6 := (show FivP (W.heap.size + 1) ⟨k, p, ch, cl, sq⟩ u2 from ⟨o0, o1, o2, o3, o4⟩).set5 (w5.heap.size) ⟨rk, rp, rc, rq, rs⟩ (by omega); clear hx) | (have hx : u2.heap[u1.heap.size]? = some (.cells #[.int .i64 0, .int .i64 0, .int .u8 0, .int .i64 0, .int .i64 0] 23 (0, 0)) := (b2.block _ (by simp)).trans (heap_alloc_new u1 _); obtain ⟨⟨h0, h1, h2, h3, h4⟩, ⟨f0, f1, f2, f3, f4⟩⟩ := cellsF hx; have GX : Hid (PR w5 u2 u1.heap.size zop g' N c' (throughP ⟨k, p, ch, cl, sq⟩ (A1 ++ A2) f).2) := ⟨hx, HRow.out, BB1.out.trans (bb2.mono sz1), sz1⟩; have NE : g' ≠ u1.heap.size := (by rw [World.size_alloc] at hg2; omega); have K6 := (show FivP (W.heap.size + 1) ⟨k, p, ch, cl, sq⟩ u2 from ⟨o0, o1, o2, o3, o4⟩).set5 (u1.heap.size) ⟨rk, rp, rc, rq, rs⟩ (by omega); clear hx) | skip); have GB : Hid (Below w5.heap.size w5 u2) := BB1.out.trans (bb2.mono sz1); clear b2 bb2 hg2))
      · have Z := hd (PR.new GB.out HRow.out ⟨rk, rp, rc, rq, rs⟩)
        go_wp2_with fail
        go_meet
        exact ⟨u2.heap.size, rk, rp, rc, rq, rs, g', c', rfl, rfl, rfl, HR2, Z⟩
      · have Z := hd (GX.out.set ⟨rk, rp, rc, rq, rs⟩ NE)
        go_wp2_with fail
        go_meet
        exact ⟨u1.heap.size, rk, rp, rc, rq, rs, g', c', rfl, rfl, rfl, HR2, Z⟩
      · have Z := hd (GX.out.set ⟨rk, rp, rc, rq, rs⟩ NE)
        go_wp2_with fail
        go_meet
        exact ⟨w5.heap.size, rk, rp, rc, rq, rs, g', c', rfl, rfl, rfl, HR2, Z⟩
  case rest =>
  obtain ⟨bxx, rkx, rpx, rcx, rqx, rsx, gx, cx, rfl, rfl, rfl, HRx, MRx⟩ := hcut
  obtain ⟨hX, hRow, b, -⟩ := MRx.out
  have LX := hd hRow.isO
  have PX := hd hX
  clear MRx hX hRow THx hbl o0 o1 o2 o3 o4
  replace X1 := hd (X1.out.below b)
  replace X2 := hd (X2.out.below b)
  replace Y1 := hd (Y1.out.below b)
  replace Y2 := hd (Y2.out.below b)
  replace XS := hd (XS.out.below b)
  replace YS := hd (YS.out.below b)
  replace HT := hd (HT.out.below b HT.out.1)
  replace F1 := hd ((b.block _ (block_lt F1.out)).trans F1.out)
  replace BZ := hd (BZ.out.trans (b.mono BZ.out.size))
  clear b
  generalize wc = w6 at *
  have THy := hd (thr_row ⟨k, p, ch, cl, sq⟩ n1 A1 f (by omega))
  have hbl := block_lt F1.out
  obtain ⟨⟨o0, o1, o2, o3, o4⟩, -⟩ := cellsF F1.out
  simp only [] at o0 o1 o2 o3 o4
  go_upto_region 7 with fail
  go_cut [16, 17, 18] (fun x l e wx => ∃ bx rk rp rc rq rs g' c', x = .pointer (some ⟨bx, 0, none⟩) ∧ l = .slice (some ⟨g', 0, none⟩) n1 c' ∧ e = .int .i64 0 ∧ Hid ((throughP ⟨k, p, ch, cl, sq⟩ A1 f).1 = ⟨rk, rp, rc, rq, rs⟩) ∧ Hid (PR w6 wx bx ⟨rk, rp, rc, rq, rs⟩ g' n1 c' (throughP ⟨k, p, ch, cl, sq⟩ A1 f).2))
  case first =>
    as_aux_lemma =>
      go_region_held3 (fun V => V.cell? ⟨W.heap.size + 1, 0, none⟩ = some (.int .i64 k) ∧ V.cell? ⟨W.heap.size + 1, 1, none⟩ = some (.int .i64 p) ∧ V.cell? ⟨W.heap.size + 1, 2, none⟩ = some (.int .u8 ch) ∧ V.cell? ⟨W.heap.size + 1, 3, none⟩ = some (.int .i64 cl) ∧ V.cell? ⟨W.heap.size + 1, 4, none⟩ = some (.int .i64 sq)) (first | (with_reducible exact FivP.out K6) | (with_reducible exact ⟨by assumption, by assumption, by assumption, by assumption, by assumption⟩) | (go_keep; done)) (first | (go_at_call 14; refine (lcopied_any _ n1 _ A1 _ (X1.out.below ?_) (by omega)).mono ?_; (first | exact below_drewN (Below.refl _ _) 1 | exact below_drewN ((Below.refl _ _).alloc (Nat.le_refl _) _) 1 | exact Below.refl _ _ | exact (Below.refl _ _).alloc (Nat.le_refl _) _); rintro e u1 ⟨v1, rfl, hOw, b1⟩; obtain ⟨gg, cg, hg, rfl, hR⟩ := hOw; rw [X1.out.1] at hR ⊢; have bb1 : Below w6.heap.size w6 u1 := (by first | exact (below_drewN (Below.refl w6.heap.size w6) 1).trans b1 | exact (below_drewN ((Below.refl w6.heap.size w6).alloc (Nat.le_refl _) _) 1).trans (b1.mono (by simp)) | exact b1 | exact ((Below.refl w6.heap.size w6).alloc (Nat.le_refl _) _).trans (b1.mono (by simp))); have o0 := (bb1.cell (p := ⟨W.heap.size + 1, 0, none⟩) hbl).trans o0; have o1 := (bb1.cell (p := ⟨W.heap.size + 1, 1, none⟩) hbl).trans o1; have o2 := (bb1.cell (p := ⟨W.heap.size + 1, 2, none⟩) hbl).trans o2; have o3 := (bb1.cell (p := ⟨W.heap.size + 1, 3, none⟩) hbl).trans o3; have o4 := (bb1.cell (p := ⟨W.heap.size + 1, 4, none⟩) hbl).trans o4; (first | (have hx : u1.heap[w6.heap.size]? = some (.cells #[.int .i64 0, .int .i64 0, .int .u8 0, .int .i64 0, .int .i64 0] 23 (0, 0)) := (b1.block _ (by simp)).trans (heap_alloc_new w6 _); have HX1 := hd hx; clear hx) | skip); have TW : Hid (∀ W, Below u1.heap.size u1 W → Table W) := (fun W h => HT.out.below (bb1.trans (h.mono bb1.size)) HT.out.1); have IW : Hid (∀ W, Below u1.heap.size u1 W → IsO W (some ⟨gg, 0, none⟩) n1 cg A1) := (fun W h => hR.isO.below h); have BB1 := hd bb1; have sz1 := bb1.size; clear b1 bb1 hR hg) | (go_at_call 13; refine (THy.out _ _ _ (TW.out _ ?_) (IW.out _ ?_)).mono ?_; (first | exact Below.refl _ _ | exact (Below.refl _ _).alloc (Nat.le_refl _) _); (first | exact Below.refl _ _ | exact (Below.refl _ _).alloc (Nat.le_refl _) _); rintro e u2 ⟨rk, rp, rc, rq, rs, g', c', hR2, rfl, hRow, hg2, b2⟩; have HR2 := hd hR2; clear hR2; have HRow := hd hRow; clear hRow; have bb2 : Below u1.heap.size u1 u2 := (by first | exact b2 | exact ((Below.refl u1.heap.size u1).alloc (Nat.le_refl _) _).trans (b2.mono (by simp))); have o0 := ((bb2.mono sz1).cell (p := ⟨W.heap.size + 1, 0, none⟩) hbl).trans o0; have o1 := ((bb2.mono sz1).cell (p := ⟨W.heap.size + 1, 1, none⟩) hbl).trans o1; have o2 := ((bb2.mono sz1).cell (p := ⟨W.heap.size + 1, 2, none⟩) hbl).trans o2; have o3 := ((bb2.mono sz1).cell (p := ⟨W.heap.size + 1, 3, none⟩) hbl).trans o3; have o4 := ((bb2.mono sz1).cell (p := ⟨W.heap.size + 1, 4, none⟩) hbl).trans o4; (first | (have hx : u2.heap[w6.heap.size]? = some (.cells #[.int .i64 0, .int .i64 0, .int .u8 0, .int .i64 0, .int .i64 0] 23 (0, 0)) := (bb2.block _ (block_lt HX1.out)).trans HX1.out; obtain ⟨⟨h0, h1, h2, h3, h4⟩, ⟨f0, f1, f2, f3, f4⟩⟩ := cellsF hx; have GX : Hid (PR w6 u2 w6.heap.size zop g' n1 c' (throughP ⟨k, p, ch, cl, sq⟩ A1 f).2) := ⟨hx, HRow.out, BB1.out.trans (bb2.mono sz1), Nat.le_refl _⟩; have NE : g' ≠ w6.heap.size := (by have := block_lt HX1.out; omega); have K6 := (show FivP (W.heap.size + 1) ⟨k, p, ch, cl, sq⟩ u2 from ⟨o0, o1, o2, o3, o4⟩).set5 (w6.heap.size) ⟨rk, rp, rc, rq, rs⟩ (by omega); clear hx) | (have hx : u2.heap[u1.heap.size]? = some (.cells #[.int .i64 0, .int .i64 0, .int .u8 0, .int .i64 0, .int .i64 0] 23 (0, 0)) := (b2.block _ (by simp)).trans (heap_alloc_new u1 _); obtain ⟨⟨h0, h1, h2, h3, h4⟩, ⟨f0, f1, f2, f3, f4⟩⟩ := cellsF hx; have GX : Hid (PR w6 u2 u1.heap.size zop g' n1 c' (throughP ⟨k, p, ch, cl, sq⟩ A1 f).2) := ⟨hx, HRow.out, BB1.out.trans (bb2.mono sz1), sz1⟩; have NE : g' ≠ u1.heap.size := (by rw [World.size_alloc] at hg2; omega); have K6 := (show FivP (W.heap.size + 1) ⟨k, p, ch, cl, sq⟩ u2 from ⟨o0, o1, o2, o3, o4⟩).set5 (u1.heap.size) ⟨rk, rp, rc, rq, rs⟩ (by omega); clear hx) | skip); have GB : Hid (Below w6.heap.size w6 u2) := BB1.out.trans (bb2.mono sz1); clear b2 bb2 hg2))
      · have Z := hd (PR.new GB.out HRow.out ⟨rk, rp, rc, rq, rs⟩)
        go_wp2_with fail
        go_meet
        exact ⟨u2.heap.size, rk, rp, rc, rq, rs, g', c', rfl, rfl, rfl, HR2, Z⟩
      · have Z := hd (GX.out.set ⟨rk, rp, rc, rq, rs⟩ NE)
        go_wp2_with fail
        go_meet
        exact ⟨u1.heap.size, rk, rp, rc, rq, rs, g', c', rfl, rfl, rfl, HR2, Z⟩
      · have Z := hd (GX.out.set ⟨rk, rp, rc, rq, rs⟩ NE)
        go_wp2_with fail
        go_meet
        exact ⟨w6.heap.size, rk, rp, rc, rq, rs, g', c', rfl, rfl, rfl, HR2, Z⟩
  case rest =>
  obtain ⟨bxy, rky, rpy, rcy, rqy, rsy, gy, cy, rfl, rfl, rfl, HRy, MRy⟩ := hcut
  obtain ⟨hX, hRow, b, -⟩ := MRy.out
  have LY := hd hRow.isO
  have PY := hd hX
  clear MRy hX hRow THy hbl o0 o1 o2 o3 o4
  replace X1 := hd (X1.out.below b)
  replace X2 := hd (X2.out.below b)
  replace Y1 := hd (Y1.out.below b)
  replace Y2 := hd (Y2.out.below b)
  replace XS := hd (XS.out.below b)
  replace YS := hd (YS.out.below b)
  replace LX := hd (LX.out.below b)
  replace HT := hd (HT.out.below b HT.out.1)
  replace F1 := hd ((b.block _ (block_lt F1.out)).trans F1.out)
  replace PX := hd ((b.block _ (block_lt PX.out)).trans PX.out)
  replace BZ := hd (BZ.out.trans (b.mono BZ.out.size))
  clear b
  generalize wc = w7 at *
  clear F1
  have THz := hd (thr_row ⟨rky, rpy, rcy, rqy, rsy⟩ n2 A2 f (by omega))
  have hbl := block_lt PY.out
  obtain ⟨⟨o0, o1, o2, o3, o4⟩, -⟩ := cellsF PY.out
  simp only [] at o0 o1 o2 o3 o4
  go_upto_region 8 with fail
  go_cut [19, 20, 21] (fun x l e wx => ∃ bx rk rp rc rq rs g' c', x = .pointer (some ⟨bx, 0, none⟩) ∧ l = .slice (some ⟨g', 0, none⟩) n2 c' ∧ e = .int .i64 0 ∧ Hid ((throughP ⟨rky, rpy, rcy, rqy, rsy⟩ A2 f).1 = ⟨rk, rp, rc, rq, rs⟩) ∧ Hid (PR w7 wx bx ⟨rk, rp, rc, rq, rs⟩ g' n2 c' (throughP ⟨rky, rpy, rcy, rqy, rsy⟩ A2 f).2))
  case first =>
    as_aux_lemma =>
      go_region_held3 (fun V => V.cell? ⟨bxy, 0, none⟩ = some (.int .i64 rky) ∧ V.cell? ⟨bxy, 1, none⟩ = some (.int .i64 rpy) ∧ V.cell? ⟨bxy, 2, none⟩ = some (.int .u8 rcy) ∧ V.cell? ⟨bxy, 3, none⟩ = some (.int .i64 rqy) ∧ V.cell? ⟨bxy, 4, none⟩ = some (.int .i64 rsy)) (first | (with_reducible exact FivP.out K6) | (with_reducible exact ⟨by assumption, by assumption, by assumption, by assumption, by assumption⟩) | (go_keep; done)) (first | (go_at_call 14; refine (lcopied_any _ n2 _ A2 _ (X2.out.below ?_) (by omega)).mono ?_; (first | exact below_drewN (Below.refl _ _) 1 | exact below_drewN ((Below.refl _ _).alloc (Nat.le_refl _) _) 1 | exact Below.refl _ _ | exact (Below.refl _ _).alloc (Nat.le_refl _) _); rintro e u1 ⟨v1, rfl, hOw, b1⟩; obtain ⟨gg, cg, hg, rfl, hR⟩ := hOw; rw [X2.out.1] at hR ⊢; have bb1 : Below w7.heap.size w7 u1 := (by first | exact (below_drewN (Below.refl w7.heap.size w7) 1).trans b1 | exact (below_drewN ((Below.refl w7.heap.size w7).alloc (Nat.le_refl _) _) 1).trans (b1.mono (by simp)) | exact b1 | exact ((Below.refl w7.heap.size w7).alloc (Nat.le_refl _) _).trans (b1.mono (by simp))); have o0 := (bb1.cell (p := ⟨bxy, 0, none⟩) hbl).trans o0; have o1 := (bb1.cell (p := ⟨bxy, 1, none⟩) hbl).trans o1; have o2 := (bb1.cell (p := ⟨bxy, 2, none⟩) hbl).trans o2; have o3 := (bb1.cell (p := ⟨bxy, 3, none⟩) hbl).trans o3; have o4 := (bb1.cell (p := ⟨bxy, 4, none⟩) hbl).trans o4; (first | (have hx : u1.heap[w7.heap.size]? = some (.cells #[.int .i64 0, .int .i64 0, .int .u8 0, .int .i64 0, .int .i64 0] 23 (0, 0)) := (b1.block _ (by simp)).trans (heap_alloc_new w7 _); have HX1 := hd hx; clear hx) | skip); have TW : Hid (∀ W, Below u1.heap.size u1 W → Table W) := (fun W h => HT.out.below (bb1.trans (h.mono bb1.size)) HT.out.1); have IW : Hid (∀ W, Below u1.heap.size u1 W → IsO W (some ⟨gg, 0, none⟩) n2 cg A2) := (fun W h => hR.isO.below h); have BB1 := hd bb1; have sz1 := bb1.size; clear b1 bb1 hR hg) | (go_at_call 13; refine (THz.out _ _ _ (TW.out _ ?_) (IW.out _ ?_)).mono ?_; (first | exact Below.refl _ _ | exact (Below.refl _ _).alloc (Nat.le_refl _) _); (first | exact Below.refl _ _ | exact (Below.refl _ _).alloc (Nat.le_refl _) _); rintro e u2 ⟨rk, rp, rc, rq, rs, g', c', hR2, rfl, hRow, hg2, b2⟩; have HR2 := hd hR2; clear hR2; have HRow := hd hRow; clear hRow; have bb2 : Below u1.heap.size u1 u2 := (by first | exact b2 | exact ((Below.refl u1.heap.size u1).alloc (Nat.le_refl _) _).trans (b2.mono (by simp))); have o0 := ((bb2.mono sz1).cell (p := ⟨bxy, 0, none⟩) hbl).trans o0; have o1 := ((bb2.mono sz1).cell (p := ⟨bxy, 1, none⟩) hbl).trans o1; have o2 := ((bb2.mono sz1).cell (p := ⟨bxy, 2, none⟩) hbl).trans o2; have o3 := ((bb2.mono sz1).cell (p := ⟨bxy, 3, none⟩) hbl).trans o3; have o4 := ((bb2.mono sz1).cell (p := ⟨bxy, 4, none⟩) hbl).trans o4; (first | (have hx : u2.heap[w7.heap.size]? = some (.cells #[.int .i64 0, .int .i64 0, .int .u8 0, .int .i64 0, .int .i64 0] 23 (0, 0)) := (bb2.block _ (block_lt HX1.out)).trans HX1.out; obtain ⟨⟨h0, h1, h2, h3, h4⟩, ⟨f0, f1, f2, f3, f4⟩⟩ := cellsF hx; have GX : Hid (PR w7 u2 w7.heap.size zop g' n2 c' (throughP ⟨rky, rpy, rcy, rqy, rsy⟩ A2 f).2) := ⟨hx, HRow.out, BB1.out.trans (bb2.mono sz1), Nat.le_refl _⟩; have NE : g' ≠ w7.heap.size := (by have := block_lt HX1.out; omega); have K6 := (show FivP (bxy) ⟨rky, rpy, rcy, rqy, rsy⟩ u2 from ⟨o0, o1, o2, o3, o4⟩).set5 (w7.heap.size) ⟨rk, rp, rc, rq, rs⟩ (by omega); clear hx) | (have hx : u2.heap[u1.heap.size]? = some (.cells #[.int .i64 0, .int .i64 0, .int .u8 0, .int .i64 0, .int .i64 0] 23 (0, 0)) := (b2.block _ (by simp)).trans (heap_alloc_new u1 _); obtain ⟨⟨h0, h1, h2, h3, h4⟩, ⟨f0, f1, f2, f3, f4⟩⟩ := cellsF hx; have GX : Hid (PR w7 u2 u1.heap.size zop g' n2 c' (throughP ⟨rky, rpy, rcy, rqy, rsy⟩ A2 f).2) := ⟨hx, HRow.out, BB1.out.trans (bb2.mono sz1), sz1⟩; have NE : g' ≠ u1.heap.size := (by rw [World.size_alloc] at hg2; omega); have K6 := (show FivP (bxy) ⟨rky, rpy, rcy, rqy, rsy⟩ u2 from ⟨o0, o1, o2, o3, o4⟩).set5 (u1.heap.size) ⟨rk, rp, rc, rq, rs⟩ (by omega); clear hx) | skip); have GB : Hid (Below w7.heap.size w7 u2) := BB1.out.trans (bb2.mono sz1); clear b2 bb2 hg2))
      · have Z := hd (PR.new GB.out HRow.out ⟨rk, rp, rc, rq, rs⟩)
        go_wp2_with fail
        go_meet
        exact ⟨u2.heap.size, rk, rp, rc, rq, rs, g', c', rfl, rfl, rfl, HR2, Z⟩
      · have Z := hd (GX.out.set ⟨rk, rp, rc, rq, rs⟩ NE)
        go_wp2_with fail
        go_meet
        exact ⟨u1.heap.size, rk, rp, rc, rq, rs, g', c', rfl, rfl, rfl, HR2, Z⟩
      · have Z := hd (GX.out.set ⟨rk, rp, rc, rq, rs⟩ NE)
        go_wp2_with fail
        go_meet
        exact ⟨w7.heap.size, rk, rp, rc, rq, rs, g', c', rfl, rfl, rfl, HR2, Z⟩
  case rest =>
  obtain ⟨bxz, rkz, rpz, rcz, rqz, rsz, gz, cz, rfl, rfl, rfl, HRz, MRz⟩ := hcut
  obtain ⟨hX, hRow, b, -⟩ := MRz.out
  have LZ := hd hRow.isO
  have PZ := hd hX
  clear MRz hX hRow THz hbl o0 o1 o2 o3 o4
  replace X1 := hd (X1.out.below b)
  replace X2 := hd (X2.out.below b)
  replace Y1 := hd (Y1.out.below b)
  replace Y2 := hd (Y2.out.below b)
  replace XS := hd (XS.out.below b)
  replace YS := hd (YS.out.below b)
  replace LX := hd (LX.out.below b)
  replace LY := hd (LY.out.below b)
  replace HT := hd (HT.out.below b HT.out.1)
  replace PX := hd ((b.block _ (block_lt PX.out)).trans PX.out)
  replace PY := hd ((b.block _ (block_lt PY.out)).trans PY.out)
  replace BZ := hd (BZ.out.trans (b.mono BZ.out.size))
  clear b
  generalize wc = w8 at *
  clear PY
  have EQ := throughP_app A1 ⟨k, p, ch, cl, sq⟩ A2 f
  rw [HRy.out] at EQ
  have E1 : (⟨rkx, rpx, rcx, rqx, rsx⟩ : OpE) = ⟨rkz, rpz, rcz, rqz, rsz⟩ := by rw [← HRx.out, ← HRz.out, EQ]
  have E2 : (throughP ⟨k, p, ch, cl, sq⟩ (A1 ++ A2) f).2 = (throughP ⟨k, p, ch, cl, sq⟩ A1 f).2 ++ (throughP ⟨rky, rpy, rcy, rqy, rsy⟩ A2 f).2 := by rw [EQ]
  injection E1 with j0 j1 j2 j3 j4
  subst j0 j1 j2 j3 j4
  have EE := hd E2
  clear EQ E2 HRx HRy HRz
  obtain ⟨⟨x0, x1, x2, x3, x4⟩, -⟩ := cellsF PX.out
  obtain ⟨⟨z0, z1, z2, z3, z4⟩, -⟩ := cellsF PZ.out
  simp only [] at x0 x1 x2 x3 x4 z0 z1 z2 z3 z4
  go_wp2_with fail
  refine (num_any _ _).mono ?_
  rintro r w9 ⟨rfl, rfl⟩
  go_wp2_with fail
  refine (num_any _ _).mono ?_
  rintro r w10 ⟨rfl, rfl⟩
  go_wp2_with fail
  refine (num_any _ _).mono ?_
  rintro r w11 ⟨rfl, rfl⟩
  go_wp2_with fail
  refine (lcopied_any _ _ _ (throughP ⟨k, p, ch, cl, sq⟩ A1 f).2 _ LY.out (by omega)).mono ?_
  rintro r w12 ⟨v, rfl, hO, b⟩
  obtain ⟨gLS, cLS, w13, hap, hR, hg, b2⟩ := appO b hO (LZ.out.below b) LY.out.1 (by omega)
  obtain ⟨ga, ca, -, rfl, -⟩ := hO
  rw [LY.out.1] at hap ⊢
  rw [hN] at hap hR
  have LS := hd hR.isO
  replace X1 := hd (X1.out.below b2)
  replace X2 := hd (X2.out.below b2)
  replace Y1 := hd (Y1.out.below b2)
  replace Y2 := hd (Y2.out.below b2)
  replace XS := hd (XS.out.below b2)
  replace YS := hd (YS.out.below b2)
  replace LX := hd (LX.out.below b2)
  replace LY := hd (LY.out.below b2)
  replace LZ := hd (LZ.out.below b2)
  replace HT := hd (HT.out.below b2 HT.out.1)
  replace PX := hd ((b2.block _ (block_lt PX.out)).trans PX.out)
  replace PZ := hd ((b2.block _ (block_lt PZ.out)).trans PZ.out)
  replace BZ := hd (BZ.out.trans (b2.mono BZ.out.size))
  clear hR hg b b2
  go_wp2_with (at_builtin; refine wpList_append_g _ (by simp [go_sem]) _ _ 32 32 rfl _ _ rfl rfl (hap _) ?_)
  clear hap
  clear x0 x1 x2 x3 x4 z0 z1 z2 z3 z4 PX PZ
  refine (same_true _ _ _ _ _ _ _ _ _ LX.out LS.out EE.out).mono ?_
  rintro r w14 ⟨rfl, mm, rfl⟩
  have b : Below w13.heap.size w13 (w13.drewN mm) := below_drewN (Below.refl _ _) mm
  replace X1 := hd (X1.out.below b)
  replace X2 := hd (X2.out.below b)
  replace Y1 := hd (Y1.out.below b)
  replace Y2 := hd (Y2.out.below b)
  replace XS := hd (XS.out.below b)
  replace YS := hd (YS.out.below b)
  replace LX := hd (LX.out.below b)
  replace LY := hd (LY.out.below b)
  replace LZ := hd (LZ.out.below b)
  replace LS := hd (LS.out.below b)
  replace HT := hd (HT.out.below b HT.out.1)
  replace BZ := hd (BZ.out.trans (b.mono BZ.out.size))
  clear b
  generalize w13.drewN mm = w15 at *
  clear LX LY LZ LS
  clear EE
  go_wp2_with fail
  refine (lcopied_any _ _ _ (A1 ++ A2) _ XS.out (by omega)).mono ?_
  rintro r w16 ⟨v, rfl, ⟨gCA, cCA, hg, rfl, hR⟩, b⟩
  rw [XS.out.1] at hR ⊢
  have CA := hd hR.isO
  replace X1 := hd (X1.out.below b)
  replace X2 := hd (X2.out.below b)
  replace Y1 := hd (Y1.out.below b)
  replace Y2 := hd (Y2.out.below b)
  replace XS := hd (XS.out.below b)
  replace YS := hd (YS.out.below b)
  replace HT := hd (HT.out.below b HT.out.1)
  replace BZ := hd (BZ.out.trans (b.mono BZ.out.size))
  clear hR hg b
  go_wp2_with fail
  refine (lcopied_any _ _ _ (B1 ++ B2) _ YS.out (by omega)).mono ?_
  rintro r w17 ⟨v, rfl, ⟨gCB, cCB, hg, rfl, hR⟩, b⟩
  rw [YS.out.1] at hR ⊢
  have CB := hd hR.isO
  replace X1 := hd (X1.out.below b)
  replace X2 := hd (X2.out.below b)
  replace Y1 := hd (Y1.out.below b)
  replace Y2 := hd (Y2.out.below b)
  replace XS := hd (XS.out.below b)
  replace YS := hd (YS.out.below b)
  replace CA := hd (CA.out.below b)
  replace HT := hd (HT.out.below b HT.out.1)
  replace BZ := hd (BZ.out.trans (b.mono BZ.out.size))
  clear hR hg b
  go_wp2_with fail
  refine (weave_any _ _ N _ M _ (A1 ++ A2) (B1 ++ B2) _ HT.out CA.out CB.out (by omega) (by omega)).mono ?_
  rintro r w18 ⟨gP, gQ, cP, cQ, rfl, -, -, hR, hS, b⟩
  have P := hd hR.isO
  have Q := hd hS.isO
  replace X1 := hd (X1.out.below b)
  replace X2 := hd (X2.out.below b)
  replace Y1 := hd (Y1.out.below b)
  replace Y2 := hd (Y2.out.below b)
  replace XS := hd (XS.out.below b)
  replace YS := hd (YS.out.below b)
  replace CA := hd (CA.out.below b)
  replace CB := hd (CB.out.below b)
  replace HT := hd (HT.out.below b HT.out.1)
  replace BZ := hd (BZ.out.trans (b.mono BZ.out.size))
  clear hR hS b
  clear CA CB
  go_wp2_with fail
  refine (num_any _ _).mono ?_
  rintro r w19 ⟨rfl, rfl⟩
  go_wp2_with fail
  refine (lcopied_any _ _ _ (A1 ++ A2) _ XS.out (by omega)).mono ?_
  rintro r w20 ⟨v, rfl, ⟨gCA, cCA, hg, rfl, hR⟩, b⟩
  rw [XS.out.1] at hR ⊢
  have CA := hd hR.isO
  replace X1 := hd (X1.out.below b)
  replace X2 := hd (X2.out.below b)
  replace Y1 := hd (Y1.out.below b)
  replace Y2 := hd (Y2.out.below b)
  replace XS := hd (XS.out.below b)
  replace YS := hd (YS.out.below b)
  replace P := hd (P.out.below b)
  replace Q := hd (Q.out.below b)
  replace HT := hd (HT.out.below b HT.out.1)
  replace BZ := hd (BZ.out.trans (b.mono BZ.out.size))
  clear hR hg b
  go_wp2_with fail
  refine (lcopied_any _ _ _ B1 _ Y1.out (by omega)).mono ?_
  rintro r w21 ⟨v, rfl, ⟨gCB, cCB, hg, rfl, hR⟩, b⟩
  rw [Y1.out.1] at hR ⊢
  have CB := hd hR.isO
  replace X1 := hd (X1.out.below b)
  replace X2 := hd (X2.out.below b)
  replace Y1 := hd (Y1.out.below b)
  replace Y2 := hd (Y2.out.below b)
  replace XS := hd (XS.out.below b)
  replace YS := hd (YS.out.below b)
  replace P := hd (P.out.below b)
  replace Q := hd (Q.out.below b)
  replace CA := hd (CA.out.below b)
  replace HT := hd (HT.out.below b HT.out.1)
  replace BZ := hd (BZ.out.trans (b.mono BZ.out.size))
  clear hR hg b
  go_wp2_with fail
  refine (weave_any _ _ N _ m1 _ (A1 ++ A2) B1 _ HT.out CA.out CB.out (by omega) (by omega)).mono ?_
  rintro r w22 ⟨gP1, gQ1, cP1, cQ1, rfl, -, -, hR, hS, b⟩
  have P1 := hd hR.isO
  have Q1 := hd hS.isO
  replace X1 := hd (X1.out.below b)
  replace X2 := hd (X2.out.below b)
  replace Y1 := hd (Y1.out.below b)
  replace Y2 := hd (Y2.out.below b)
  replace XS := hd (XS.out.below b)
  replace YS := hd (YS.out.below b)
  replace P := hd (P.out.below b)
  replace Q := hd (Q.out.below b)
  replace CA := hd (CA.out.below b)
  replace CB := hd (CB.out.below b)
  replace HT := hd (HT.out.below b HT.out.1)
  replace BZ := hd (BZ.out.trans (b.mono BZ.out.size))
  clear hR hS b
  clear CA CB
  go_wp2_with fail
  refine (lcopied_any _ _ _ (weaveP (A1 ++ A2) B1).1 _ P1.out (by omega)).mono ?_
  rintro r w23 ⟨v, rfl, ⟨gCA, cCA, hg, rfl, hR⟩, b⟩
  rw [P1.out.1] at hR ⊢
  have CA := hd hR.isO
  replace X1 := hd (X1.out.below b)
  replace X2 := hd (X2.out.below b)
  replace Y1 := hd (Y1.out.below b)
  replace Y2 := hd (Y2.out.below b)
  replace XS := hd (XS.out.below b)
  replace YS := hd (YS.out.below b)
  replace P := hd (P.out.below b)
  replace Q := hd (Q.out.below b)
  replace P1 := hd (P1.out.below b)
  replace Q1 := hd (Q1.out.below b)
  replace HT := hd (HT.out.below b HT.out.1)
  replace BZ := hd (BZ.out.trans (b.mono BZ.out.size))
  clear hR hg b
  go_wp2_with fail
  refine (lcopied_any _ _ _ B2 _ Y2.out (by omega)).mono ?_
  rintro r w24 ⟨v, rfl, ⟨gCB, cCB, hg, rfl, hR⟩, b⟩
  rw [Y2.out.1] at hR ⊢
  have CB := hd hR.isO
  replace X1 := hd (X1.out.below b)
  replace X2 := hd (X2.out.below b)
  replace Y1 := hd (Y1.out.below b)
  replace Y2 := hd (Y2.out.below b)
  replace XS := hd (XS.out.below b)
  replace YS := hd (YS.out.below b)
  replace P := hd (P.out.below b)
  replace Q := hd (Q.out.below b)
  replace P1 := hd (P1.out.below b)
  replace Q1 := hd (Q1.out.below b)
  replace CA := hd (CA.out.below b)
  replace HT := hd (HT.out.below b HT.out.1)
  replace BZ := hd (BZ.out.trans (b.mono BZ.out.size))
  clear hR hg b
  go_wp2_with fail
  refine (weave_any _ _ N _ m2 _ (weaveP (A1 ++ A2) B1).1 B2 _ HT.out CA.out CB.out (by omega) (by omega)).mono ?_
  rintro r w25 ⟨gP2, gQ2, cP2, cQ2, rfl, -, -, hR, hS, b⟩
  have P2 := hd hR.isO
  have Q2 := hd hS.isO
  replace X1 := hd (X1.out.below b)
  replace X2 := hd (X2.out.below b)
  replace Y1 := hd (Y1.out.below b)
  replace Y2 := hd (Y2.out.below b)
  replace XS := hd (XS.out.below b)
  replace YS := hd (YS.out.below b)
  replace P := hd (P.out.below b)
  replace Q := hd (Q.out.below b)
  replace P1 := hd (P1.out.below b)
  replace Q1 := hd (Q1.out.below b)
  replace CA := hd (CA.out.below b)
  replace CB := hd (CB.out.below b)
  replace HT := hd (HT.out.below b HT.out.1)
  replace BZ := hd (BZ.out.trans (b.mono BZ.out.size))
  clear hR hS b
  clear CA CB P1 Y1 Y2 XS
  go_wp2_with fail
  refine (num_any _ _).mono ?_
  rintro r w26 ⟨rfl, rfl⟩
  go_wp2_with fail
  refine (num_any _ _).mono ?_
  rintro r w27 ⟨rfl, rfl⟩
  go_wp2_with fail
  refine (same_true _ _ _ _ _ _ _ _ _ P.out P2.out (by rw [weaveP_app])).mono ?_
  rintro r w28 ⟨rfl, mm, rfl⟩
  have b : Below w27.heap.size w27 (w27.drewN mm) := below_drewN (Below.refl _ _) mm
  replace X1 := hd (X1.out.below b)
  replace X2 := hd (X2.out.below b)
  replace YS := hd (YS.out.below b)
  replace P := hd (P.out.below b)
  replace Q := hd (Q.out.below b)
  replace Q1 := hd (Q1.out.below b)
  replace P2 := hd (P2.out.below b)
  replace Q2 := hd (Q2.out.below b)
  replace HT := hd (HT.out.below b HT.out.1)
  replace BZ := hd (BZ.out.trans (b.mono BZ.out.size))
  clear b
  generalize w27.drewN mm = w29 at *
  clear P2
  go_wp2_with fail
  refine (lcopied_any _ _ _ (weaveP (A1 ++ A2) B1).2 _ Q1.out (by omega)).mono ?_
  rintro r w30 ⟨v, rfl, hO, b⟩
  obtain ⟨gQS, cQS, w31, hap, hR, hg, b2⟩ := appO b hO (Q2.out.below b) Q1.out.1 (by omega)
  obtain ⟨ga, ca, -, rfl, -⟩ := hO
  rw [Q1.out.1] at hap ⊢
  rw [hM] at hap hR
  have QS := hd hR.isO
  replace X1 := hd (X1.out.below b2)
  replace X2 := hd (X2.out.below b2)
  replace YS := hd (YS.out.below b2)
  replace P := hd (P.out.below b2)
  replace Q := hd (Q.out.below b2)
  replace Q1 := hd (Q1.out.below b2)
  replace Q2 := hd (Q2.out.below b2)
  replace HT := hd (HT.out.below b2 HT.out.1)
  replace BZ := hd (BZ.out.trans (b2.mono BZ.out.size))
  clear hR hg b b2
  go_wp2_with (at_builtin; refine wpList_append_g _ (by simp [go_sem]) _ _ 32 32 rfl _ _ rfl rfl (hap _) ?_)
  clear hap
  refine (same_true _ _ _ _ _ _ _ _ _ Q.out QS.out (by rw [weaveP_app])).mono ?_
  rintro r w32 ⟨rfl, mm, rfl⟩
  have b : Below w31.heap.size w31 (w31.drewN mm) := below_drewN (Below.refl _ _) mm
  replace X1 := hd (X1.out.below b)
  replace X2 := hd (X2.out.below b)
  replace YS := hd (YS.out.below b)
  replace P := hd (P.out.below b)
  replace Q := hd (Q.out.below b)
  replace Q1 := hd (Q1.out.below b)
  replace Q2 := hd (Q2.out.below b)
  replace QS := hd (QS.out.below b)
  replace HT := hd (HT.out.below b HT.out.1)
  replace BZ := hd (BZ.out.trans (b.mono BZ.out.size))
  clear b
  generalize w31.drewN mm = w33 at *
  clear Q1 Q2 QS
  go_wp2_with fail
  refine (lcopied_any _ _ _ A1 _ X1.out (by omega)).mono ?_
  rintro r w34 ⟨v, rfl, ⟨gCA, cCA, hg, rfl, hR⟩, b⟩
  rw [X1.out.1] at hR ⊢
  have CA := hd hR.isO
  replace X1 := hd (X1.out.below b)
  replace X2 := hd (X2.out.below b)
  replace YS := hd (YS.out.below b)
  replace P := hd (P.out.below b)
  replace Q := hd (Q.out.below b)
  replace HT := hd (HT.out.below b HT.out.1)
  replace BZ := hd (BZ.out.trans (b.mono BZ.out.size))
  clear hR hg b
  go_wp2_with fail
  refine (lcopied_any _ _ _ (B1 ++ B2) _ YS.out (by omega)).mono ?_
  rintro r w35 ⟨v, rfl, ⟨gCB, cCB, hg, rfl, hR⟩, b⟩
  rw [YS.out.1] at hR ⊢
  have CB := hd hR.isO
  replace X1 := hd (X1.out.below b)
  replace X2 := hd (X2.out.below b)
  replace YS := hd (YS.out.below b)
  replace P := hd (P.out.below b)
  replace Q := hd (Q.out.below b)
  replace CA := hd (CA.out.below b)
  replace HT := hd (HT.out.below b HT.out.1)
  replace BZ := hd (BZ.out.trans (b.mono BZ.out.size))
  clear hR hg b
  go_wp2_with fail
  refine (weave_any _ _ n1 _ M _ A1 (B1 ++ B2) _ HT.out CA.out CB.out (by omega) (by omega)).mono ?_
  rintro r w36 ⟨gR1, gS1, cR1, cS1, rfl, -, -, hR, hS, b⟩
  have R1 := hd hR.isO
  have S1 := hd hS.isO
  replace X1 := hd (X1.out.below b)
  replace X2 := hd (X2.out.below b)
  replace YS := hd (YS.out.below b)
  replace P := hd (P.out.below b)
  replace Q := hd (Q.out.below b)
  replace CA := hd (CA.out.below b)
  replace CB := hd (CB.out.below b)
  replace HT := hd (HT.out.below b HT.out.1)
  replace BZ := hd (BZ.out.trans (b.mono BZ.out.size))
  clear hR hS b
  clear CA CB
  go_wp2_with fail
  refine (lcopied_any _ _ _ A2 _ X2.out (by omega)).mono ?_
  rintro r w37 ⟨v, rfl, ⟨gCA, cCA, hg, rfl, hR⟩, b⟩
  rw [X2.out.1] at hR ⊢
  have CA := hd hR.isO
  replace X1 := hd (X1.out.below b)
  replace X2 := hd (X2.out.below b)
  replace YS := hd (YS.out.below b)
  replace P := hd (P.out.below b)
  replace Q := hd (Q.out.below b)
  replace R1 := hd (R1.out.below b)
  replace S1 := hd (S1.out.below b)
  replace HT := hd (HT.out.below b HT.out.1)
  replace BZ := hd (BZ.out.trans (b.mono BZ.out.size))
  clear hR hg b
  go_wp2_with fail
  refine (lcopied_any _ _ _ (weaveP A1 (B1 ++ B2)).2 _ S1.out (by omega)).mono ?_
  rintro r w38 ⟨v, rfl, ⟨gCB, cCB, hg, rfl, hR⟩, b⟩
  rw [S1.out.1] at hR ⊢
  have CB := hd hR.isO
  replace X1 := hd (X1.out.below b)
  replace X2 := hd (X2.out.below b)
  replace YS := hd (YS.out.below b)
  replace P := hd (P.out.below b)
  replace Q := hd (Q.out.below b)
  replace R1 := hd (R1.out.below b)
  replace S1 := hd (S1.out.below b)
  replace CA := hd (CA.out.below b)
  replace HT := hd (HT.out.below b HT.out.1)
  replace BZ := hd (BZ.out.trans (b.mono BZ.out.size))
  clear hR hg b
  go_wp2_with fail
  refine (weave_any _ _ n2 _ M _ A2 (weaveP A1 (B1 ++ B2)).2 _ HT.out CA.out CB.out (by omega) (by omega)).mono ?_
  rintro r w39 ⟨gR2, gS2, cR2, cS2, rfl, -, -, hR, hS, b⟩
  have R2 := hd hR.isO
  have S2 := hd hS.isO
  replace X1 := hd (X1.out.below b)
  replace X2 := hd (X2.out.below b)
  replace YS := hd (YS.out.below b)
  replace P := hd (P.out.below b)
  replace Q := hd (Q.out.below b)
  replace R1 := hd (R1.out.below b)
  replace S1 := hd (S1.out.below b)
  replace CA := hd (CA.out.below b)
  replace CB := hd (CB.out.below b)
  replace HT := hd (HT.out.below b HT.out.1)
  replace BZ := hd (BZ.out.trans (b.mono BZ.out.size))
  clear hR hS b
  clear CA CB S1 X1 X2 YS
  go_wp2_with fail
  refine (num_any _ _).mono ?_
  rintro r w40 ⟨rfl, rfl⟩
  go_wp2_with fail
  refine (num_any _ _).mono ?_
  rintro r w41 ⟨rfl, rfl⟩
  go_wp2_with fail
  refine (same_true _ _ _ _ _ _ _ _ _ Q.out S2.out (by rw [weaveP_app2])).mono ?_
  rintro r w42 ⟨rfl, mm, rfl⟩
  have b : Below w41.heap.size w41 (w41.drewN mm) := below_drewN (Below.refl _ _) mm
  replace P := hd (P.out.below b)
  replace Q := hd (Q.out.below b)
  replace R1 := hd (R1.out.below b)
  replace R2 := hd (R2.out.below b)
  replace S2 := hd (S2.out.below b)
  replace HT := hd (HT.out.below b HT.out.1)
  replace BZ := hd (BZ.out.trans (b.mono BZ.out.size))
  clear b
  generalize w41.drewN mm = w43 at *
  go_wp2_with fail
  refine (lcopied_any _ _ _ (weaveP A1 (B1 ++ B2)).1 _ R1.out (by omega)).mono ?_
  rintro r w44 ⟨v, rfl, hO, b⟩
  obtain ⟨gRS, cRS, w45, hap, hR, hg, b2⟩ := appO b hO (R2.out.below b) R1.out.1 (by omega)
  obtain ⟨ga, ca, -, rfl, -⟩ := hO
  rw [R1.out.1] at hap ⊢
  rw [hN] at hap hR
  have RS := hd hR.isO
  replace P := hd (P.out.below b2)
  replace Q := hd (Q.out.below b2)
  replace R1 := hd (R1.out.below b2)
  replace R2 := hd (R2.out.below b2)
  replace S2 := hd (S2.out.below b2)
  replace HT := hd (HT.out.below b2 HT.out.1)
  replace BZ := hd (BZ.out.trans (b2.mono BZ.out.size))
  clear hR hg b b2
  go_wp2_with (at_builtin; refine wpList_append_g _ (by simp [go_sem]) _ _ 32 32 rfl _ _ rfl rfl (hap _) ?_)
  clear hap
  refine (same_true _ _ _ _ _ _ _ _ _ P.out RS.out (by rw [weaveP_app2])).mono ?_
  rintro r w46 ⟨rfl, mm, rfl⟩
  have b : Below w45.heap.size w45 (w45.drewN mm) := below_drewN (Below.refl _ _) mm
  replace P := hd (P.out.below b)
  replace Q := hd (Q.out.below b)
  replace R1 := hd (R1.out.below b)
  replace R2 := hd (R2.out.below b)
  replace S2 := hd (S2.out.below b)
  replace RS := hd (RS.out.below b)
  replace HT := hd (HT.out.below b HT.out.1)
  replace BZ := hd (BZ.out.trans (b.mono BZ.out.size))
  clear b
  generalize w45.drewN mm = w47 at *
  go_wp2_with fail
  go_ret
  exact ⟨rfl, BZ.out⟩

end Go.Proofs.YtmkgkgdngjmcmaaDoor
