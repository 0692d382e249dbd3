/-
  OtThroughs.
-/
import Derived.Test.YtmkgkgdngjmcmabDoorNe
import Derived.Deep.DeepCutAuto
namespace Go.Proofs.YtmkgkgdngjmcmabDoor
open Go.RowKit
set_option linter.unusedVariables false

theorem IsO.none (w : World) : IsO w none 0 0 [] := ⟨rfl, Nat.le_refl _, by omega, fun h => by omega⟩

def FivP (b : Nat) (v : OpE) (W : World) : Prop := W.cell? ⟨b, 0, none⟩ = some (.int .i64 v.kind) ∧ W.cell? ⟨b, 1, none⟩ = some (.int .i64 v.pos) ∧ W.cell? ⟨b, 2, none⟩ = some (.int .u8 v.ch) ∧ W.cell? ⟨b, 3, none⟩ = some (.int .i64 v.cl) ∧ W.cell? ⟨b, 4, none⟩ = some (.int .i64 v.sq)
theorem FivP.out {b : Nat} {v : OpE} {W : World} (h : FivP b v W) : W.cell? ⟨b, 0, none⟩ = some (.int .i64 v.kind) ∧ W.cell? ⟨b, 1, none⟩ = some (.int .i64 v.pos) ∧ W.cell? ⟨b, 2, none⟩ = some (.int .u8 v.ch) ∧ W.cell? ⟨b, 3, none⟩ = some (.int .i64 v.cl) ∧ W.cell? ⟨b, 4, none⟩ = some (.int .i64 v.sq) := h
theorem FivP.set {b : Nat} {v : OpE} {W : World} (h : FivP b v W) {g i : Nat} {z : Value} (h1 : b ≠ g) : FivP b v (W.setCell ⟨g, i, none⟩ z) := by
  obtain ⟨a0, a1, a2, a3, a4⟩ := h
  exact ⟨keep_cell a0 h1, keep_cell a1 h1, keep_cell a2 h1, keep_cell a3 h1, keep_cell a4 h1⟩
theorem FivP.set5 {b : Nat} {v : OpE} {W : World} (h : FivP b v W) (g : Nat) (z : OpE) (h1 : b ≠ g) :
    FivP b v (((((W.setCell ⟨g, 0, none⟩ (.int .i64 z.kind)).setCell ⟨g, 1, none⟩ (.int .i64 z.pos)).setCell ⟨g, 2, none⟩ (.int .u8 z.ch)).setCell ⟨g, 3, none⟩ (.int .i64 z.cl)).setCell ⟨g, 4, none⟩ (.int .i64 z.sq)) :=
  ((((h.set h1).set h1).set h1).set h1).set h1
theorem FivP.of {b : Nat} {v : OpE} {W : World} (h : W.heap[b]? = some (.cells (opc v).toArray 23 (0, 0))) : FivP b v W := (cellsF h).1
theorem FivP.alloc {b : Nat} {v : OpE} {W : World} (h : FivP b v W) (o : Obj) : FivP b v (W.alloc o) := by
  obtain ⟨a0, a1, a2, a3, a4⟩ := h
  have k : ∀ i u, W.cell? ⟨b, i, none⟩ = some u → (W.alloc o).cell? ⟨b, i, none⟩ = some u := fun i u h => (World.cell?_alloc_some W _ o (by rw [h]; rfl)).trans h
  exact ⟨k _ _ a0, k _ _ a1, k _ _ a2, k _ _ a3, k _ _ a4⟩

/-- What stands behind the program's answer: an operation at its block, a line, the rest as it was. -/
def GRel (w wx : World) (O : OpE) (bx : Nat) (R : OpE) (a' : Option Addr) (m c' : Nat) (L : List OpE) : Prop :=
  wx.heap[bx]? = some (.cells (opc R).toArray 23 (0, 0)) ∧ IsO wx a' m c' L ∧ Below w.heap.size w wx ∧ wx.heap[w.heap.size]? = some (.cells (opc O).toArray 23 (0, 0)) ∧ w.heap.size < bx

theorem GRel.set {w w2 : World} {O R Y : OpE} {bx : Nat} {a' : Option Addr} {m c' : Nat} {L : List OpE} (h : GRel w w2 O bx Y a' m c' L) (ha : 0 < m → ∀ b off, a' = some ⟨b, off, none⟩ → b ≠ bx) : GRel w (set5 w2 bx 0 R.kind R.pos R.ch R.cl R.sq) O bx R a' m c' L := by
  obtain ⟨h1, h2, h3, h4, h5⟩ := h
  have F := Fr.set5 w2 bx 0 R.kind R.pos R.ch R.cl R.sq
  exact ⟨set5_op h1 _ _ _ _ _, h2.fr F ha, h3.trans (F.below h3.size (fun k h => by omega)), F.keeps h4 (by omega), h5⟩

set_option maxRecDepth 100000 in
set_option maxHeartbeats 8000000 in
theorem throughs_of (op : OpE) (a : Option Addr) (n c : Nat) (xs : List OpE) (f : Bool) (w : World) (hT : Table w) (hE : IsO w a n c xs) (hn : n * 40 ≤ 281474976710656)
    (R : OpE) (L : List OpE) (m : Nat) (E : Int) (hm : L.length = m)
    (hP : ∀ (b : Option Addr) (d : Nat) (W : World), Table W → IsO W b n d xs → Calls Tryd.prog 9 #[op.val, .slice b n d, .bool f] W fun e w' => ∃ a' c', e = .returned (.tuple #[R.val, .slice a' m c', .int .i64 E]) ∧ IsO w' a' m c' L ∧ Below W.heap.size W w' ∧ (0 < m → ∀ b off, a' = some ⟨b, off, none⟩ → W.heap.size ≤ b))
    (hQ : ∀ (W : World), IsO W a n c xs → Calls Tryd.prog 14 #[op.val, .slice a n c, .bool f] W fun e w' => ∃ a' c', e = .returned (.tuple #[R.val, .slice a' m c', .int .i64 E]) ∧ IsO w' a' m c' L ∧ Below W.heap.size W w' ∧ (0 < m → ∀ b off, a' = some ⟨b, off, none⟩ → W.heap.size ≤ b)) :
    Calls Tryd.prog 4 #[op.val, .slice a n c, .bool f] w fun e w' => e = .returned (.bool true) ∧ Below w.heap.size w w' := by
  obtain ⟨k, p, c', q, s⟩ := op
  obtain ⟨rk, rp, rc, rq, rs⟩ := R
  have HT := hd hT
  have HE := hd hE
  have HP := hd hP
  have HQ := hd hQ
  have HM := hd hm
  clear hT hE hP hQ hm
  simp only [OpE.val] at HP HQ ⊢
  go_enter Tryd.func4, Tryd.ntmps4
  go_wp2_with fail
  have bV : Below w.heap.size w (w.alloc (.cells #[.int .i64 k, .int .i64 p, .int .u8 c', .int .i64 q, .int .i64 s] 23)) := (Below.refl _ _).alloc (Nat.le_refl _) _
  have HO : (w.alloc (.cells #[.int .i64 k, .int .i64 p, .int .u8 c', .int .i64 q, .int .i64 s] 23)).heap[w.heap.size]? = some (.cells #[.int .i64 k, .int .i64 p, .int .u8 c', .int .i64 q, .int .i64 s] 23 (0, 0)) := heap_alloc_new w _
  have HV : (w.alloc (.cells #[.int .i64 k, .int .i64 p, .int .u8 c', .int .i64 q, .int .i64 s] 23)).heap.size = w.heap.size + 1 := by simp
  generalize w.alloc (.cells #[.int .i64 k, .int .i64 p, .int .u8 c', .int .i64 q, .int .i64 s] 23) = V at *
  obtain ⟨⟨o0, o1, o2, o3, o4⟩, -⟩ := cellsF HO
  have BV := hd bV
  have HOV := hd HO
  have HVS := hd HV
  clear bV HO HV
  go_cut [7, 8, 9] (fun x l e wx => ∃ bx a' c2, x = .pointer (some ⟨bx, 0, none⟩) ∧ l = .slice a' m c2 ∧ e = .int .i64 E ∧ Hid (GRel w wx ⟨k, p, c', q, s⟩ bx ⟨rk, rp, rc, rq, rs⟩ a' m c2 L))
  case first =>
    go_region_held3 (fun W => W.cell? ⟨w.heap.size, 0, none⟩ = some (.int .i64 k) ∧ W.cell? ⟨w.heap.size, 1, none⟩ = some (.int .i64 p) ∧ W.cell? ⟨w.heap.size, 2, none⟩ = some (.int .u8 c') ∧ W.cell? ⟨w.heap.size, 3, none⟩ = some (.int .i64 q) ∧ W.cell? ⟨w.heap.size, 4, none⟩ = some (.int .i64 s)) (first | (with_reducible exact FivP.out K6) | (with_reducible exact ⟨by assumption, by assumption, by assumption, by assumption, by assumption⟩) | (go_keep; done)) (first | (go_at_call 8; refine (lcopied_any a n c xs _ (HE.out.below ?_) hn).mono ?_; (first | exact below_drewN BV.out 1 | exact below_drewN (BV.out.alloc BV.out.size _) 1); rintro e w1 ⟨v, rfl, hOw, b1⟩; obtain ⟨g, cg, hg, rfl, hR⟩ := hOw; rw [HE.out.1] at hR ⊢; have bb1 : Below V.heap.size V w1 := (by first | exact (below_drewN (Below.refl V.heap.size V) 1).trans b1 | exact (below_drewN ((Below.refl V.heap.size V).alloc (Nat.le_refl _) _) 1).trans (b1.mono (by simp))); have o0 := (bb1.cell (p := ⟨w.heap.size, 0, none⟩) (by have := HVS.out; simp; omega)).trans o0; have o1 := (bb1.cell (p := ⟨w.heap.size, 1, none⟩) (by have := HVS.out; simp; omega)).trans o1; have o2 := (bb1.cell (p := ⟨w.heap.size, 2, none⟩) (by have := HVS.out; simp; omega)).trans o2; have o3 := (bb1.cell (p := ⟨w.heap.size, 3, none⟩) (by have := HVS.out; simp; omega)).trans o3; have o4 := (bb1.cell (p := ⟨w.heap.size, 4, none⟩) (by have := HVS.out; simp; omega)).trans o4; (first | (have hx : w1.heap[V.heap.size]? = some (.cells #[.int .i64 0, .int .i64 0, .int .u8 0, .int .i64 0, .int .i64 0] 23 (0, 0)) := (b1.block _ (by simp)).trans (heap_alloc_new V _); have HX1 := hd hx; clear hx) | skip); have TW : Hid (∀ W, Below w1.heap.size w1 W → Table W) := (fun W h => HT.out.below ((BV.out.trans (bb1.mono BV.out.size)).trans (h.mono (Nat.le_trans BV.out.size bb1.size))) HT.out.1); have IW : Hid (∀ W, Below w1.heap.size w1 W → IsO W (some ⟨g, 0, none⟩) n cg xs) := (fun W h => hR.isO.below h); have BB1 := hd bb1; have sz1 := bb1.size; clear b1 bb1 hR hg) | (go_at_call 9; refine (HP.out _ _ _ (TW.out _ ?_) (IW.out _ ?_)).mono ?_; (first | exact Below.refl _ _ | exact (Below.refl _ _).alloc (Nat.le_refl _) _); (first | exact Below.refl _ _ | exact (Below.refl _ _).alloc (Nat.le_refl _) _); rintro e w2 ⟨a', c2, rfl, hI, b2, hnew⟩; have bb2 : Below w1.heap.size w1 w2 := (by first | exact b2 | exact ((Below.refl w1.heap.size w1).alloc (Nat.le_refl _) _).trans (b2.mono (by simp))); have o0 := ((bb2.mono sz1).cell (p := ⟨w.heap.size, 0, none⟩) (by have := HVS.out; simp; omega)).trans o0; have o1 := ((bb2.mono sz1).cell (p := ⟨w.heap.size, 1, none⟩) (by have := HVS.out; simp; omega)).trans o1; have o2 := ((bb2.mono sz1).cell (p := ⟨w.heap.size, 2, none⟩) (by have := HVS.out; simp; omega)).trans o2; have o3 := ((bb2.mono sz1).cell (p := ⟨w.heap.size, 3, none⟩) (by have := HVS.out; simp; omega)).trans o3; have o4 := ((bb2.mono sz1).cell (p := ⟨w.heap.size, 4, none⟩) (by have := HVS.out; simp; omega)).trans o4; have ho2 : w2.heap[w.heap.size]? = some (.cells #[.int .i64 k, .int .i64 p, .int .u8 c', .int .i64 q, .int .i64 s] 23 (0, 0)) := (((BB1.out.trans (bb2.mono sz1))).block _ (by have := HVS.out; omega)).trans HOV.out; (first | (have hx : w2.heap[V.heap.size]? = some (.cells #[.int .i64 0, .int .i64 0, .int .u8 0, .int .i64 0, .int .i64 0] 23 (0, 0)) := (bb2.block _ (block_lt HX1.out)).trans HX1.out; have NW : Hid (0 < m → ∀ b off, a' = some ⟨b, off, none⟩ → b ≠ V.heap.size) := (fun h b off e => by have := hnew h b off e; have := block_lt HX1.out; omega); obtain ⟨⟨h0, h1, h2, h3, h4⟩, ⟨f0, f1, f2, f3, f4⟩⟩ := cellsF hx; have GX : Hid (GRel w w2 ⟨k, p, c', q, s⟩ V.heap.size zop a' m c2 L) := ⟨hx, hI, (BV.out.trans (BB1.out.mono BV.out.size)).trans (bb2.mono (Nat.le_trans BV.out.size BB1.out.size)), ho2, by have := HVS.out; omega⟩; have K6 := (show FivP w.heap.size ⟨k, p, c', q, s⟩ w2 from ⟨o0, o1, o2, o3, o4⟩).set5 (V.heap.size) ⟨rk, rp, rc, rq, rs⟩ (by have := HVS.out; omega); clear hx) | (have hx : w2.heap[w1.heap.size]? = some (.cells #[.int .i64 0, .int .i64 0, .int .u8 0, .int .i64 0, .int .i64 0] 23 (0, 0)) := (b2.block _ (by simp)).trans (heap_alloc_new w1 _); have NW : Hid (0 < m → ∀ b off, a' = some ⟨b, off, none⟩ → b ≠ w1.heap.size) := (fun h b off e => by have := hnew h b off e; simp at this; omega); obtain ⟨⟨h0, h1, h2, h3, h4⟩, ⟨f0, f1, f2, f3, f4⟩⟩ := cellsF hx; have GX : Hid (GRel w w2 ⟨k, p, c', q, s⟩ w1.heap.size zop a' m c2 L) := ⟨hx, hI, (BV.out.trans (BB1.out.mono BV.out.size)).trans (bb2.mono (Nat.le_trans BV.out.size BB1.out.size)), ho2, by have := HVS.out; omega⟩; have K6 := (show FivP w.heap.size ⟨k, p, c', q, s⟩ w2 from ⟨o0, o1, o2, o3, o4⟩).set5 (w1.heap.size) ⟨rk, rp, rc, rq, rs⟩ (by have := HVS.out; omega); clear hx) | skip); have GB : Hid (IsO w2 a' m c2 L ∧ Below w.heap.size w w2 ∧ w2.heap[w.heap.size]? = some (.cells #[.int .i64 k, .int .i64 p, .int .u8 c', .int .i64 q, .int .i64 s] 23 (0, 0))) := ⟨hI, (BV.out.trans (BB1.out.mono BV.out.size)).trans (bb2.mono (Nat.le_trans BV.out.size BB1.out.size)), ho2⟩; clear hI b2 bb2 ho2 hnew))
    · have Z := hd (show GRel w (w2.alloc (.cells #[.int .i64 rk, .int .i64 rp, .int .u8 rc, .int .i64 rq, .int .i64 rs] 23)) ⟨k, p, c', q, s⟩ w2.heap.size ⟨rk, rp, rc, rq, rs⟩ a' m c2 L from ⟨heap_alloc_new w2 _, GB.out.1.below ((Below.refl _ _).alloc (Nat.le_refl _) _), GB.out.2.1.alloc GB.out.2.1.size _, (((Below.refl _ _).alloc (Nat.le_refl _) _).block _ (block_lt GB.out.2.2)).trans GB.out.2.2, block_lt GB.out.2.2⟩)
      go_wp2_with fail
      go_meet
      exact ⟨w2.heap.size, a', c2, rfl, rfl, rfl, Z⟩
    · have Z := hd (GX.out.set (R := ⟨rk, rp, rc, rq, rs⟩) NW.out)
      go_wp2_with fail
      go_meet
      exact ⟨w1.heap.size, a', c2, rfl, rfl, rfl, Z⟩
    · have Z := hd (GX.out.set (R := ⟨rk, rp, rc, rq, rs⟩) NW.out)
      go_wp2_with fail
      go_meet
      exact ⟨V.heap.size, a', c2, rfl, rfl, rfl, Z⟩
  case rest =>
    obtain ⟨bx, a', c2, rfl, rfl, rfl, hG⟩ := hcut
    have GX := hG
    clear hG
    obtain ⟨⟨o0, o1, o2, o3, o4⟩, -⟩ := cellsF GX.out.2.2.2.1
    have ol := block_lt GX.out.2.2.2.1
    have IW : Hid (∀ W, Below wc.heap.size wc W → IsO W a n c xs) := fun W h => HE.out.below (GX.out.2.2.1.trans (h.mono GX.out.2.2.1.size))
    go_wp2_with fail
    refine (HQ.out _ (IW.out _ (Below.refl _ _))).mono ?_
    rintro e w3 ⟨a3, c3, rfl, hI3, b3, -⟩
    have bA : Below w3.heap.size w3 (w3.alloc (.cells #[.int .i64 rk, .int .i64 rp, .int .u8 rc, .int .i64 rq, .int .i64 rs] 23)) := (Below.refl _ _).alloc (Nat.le_refl _) _
    have bW := b3.trans (bA.mono b3.size)
    obtain ⟨⟨y0, y1, y2, y3, y4⟩, -⟩ := cellsF (heap_alloc_new w3 (.cells #[.int .i64 rk, .int .i64 rp, .int .u8 rc, .int .i64 rq, .int .i64 rs] 23))
    obtain ⟨⟨x0, x1, x2, x3, x4⟩, -⟩ := cellsF ((bW.block _ (block_lt GX.out.1)).trans GX.out.1)
    have J1 := hd (GX.out.2.1.below bW)
    have J2 := hd (hI3.below bA)
    have BW := hd (GX.out.2.2.1.trans (bW.mono GX.out.2.2.1.size))
    clear bW bA b3 hI3 o0 o1 o2 o3 o4
    go_wp2_with fail
    generalize w3.alloc (.cells #[.int .i64 rk, .int .i64 rp, .int .u8 rc, .int .i64 rq, .int .i64 rs] 23) = W at *
    refine (same_true _ _ _ _ _ _ _ _ _ J1.out J2.out rfl).mono ?_
    rintro e w4 ⟨rfl, m4, rfl⟩
    have BW4 := hd (below_drewN BW.out m4)
    clear BW J1 J2 x0 x1 x2 x3 x4 y0 y1 y2 y3 y4
    generalize W.drewN m4 = W4 at *
    go_wp2_with fail
    refine (num_any _ _).mono ?_
    rintro e w5 ⟨rfl, rfl⟩
    go_wp2
    go_ret
    exact ⟨rfl, BW4.out⟩

theorem otThroughs_any (op : OpE) (a : Option Addr) (n c : Nat) (xs : List OpE) (f : Bool) (w : World) (hT : Table w) (hE : IsO w a n c xs) (hK : OkO xs) (hn : n * 40 ≤ 140737488351232) (hO : OkOp op) :
    Calls Tryd.prog 4 #[op.val, .slice a n c, .bool f] w fun e w' => e = .returned (.bool true) ∧ Below w.heap.size w w' := by
  by_cases h : n ≤ 4096
  · refine throughs_of op a n c xs f w hT hE (by omega) (throughP op xs f).1 (throughP op xs f).2 n 0 (by rw [throughP_len]; exact hE.1) ?_ ?_
    · intro b d W hTW hI
      refine (through_any op b n d xs f W hTW hI h).mono ?_
      rintro e w' ⟨v, he, ⟨g, cg, hg, rfl, hR⟩, hB⟩
      have hl : (throughP op xs f).2.length = n := by rw [throughP_len]; exact hE.1
      rw [hl] at he hR
      exact ⟨_, _, he, hR.isO, hB, fun _ b off e => by simp at e; omega⟩
    · intro W hI
      refine (rthrough_any op a n c xs f W hI h).mono ?_
      rintro e w' ⟨v, he, β, hS, hβ, hB⟩
      have hl : (throughP op xs f).2.length = n := by rw [throughP_len]; exact hE.1
      cases β with
      | none =>
        obtain ⟨rfl, h0⟩ := hS
        rw [h0] at hl
        simp at hl
        subst hl
        rw [h0]
        exact ⟨_, _, he, IsO.none _, hB, fun h => by omega⟩
      | some g =>
        obtain ⟨cap, rfl, hR⟩ := hS
        rw [hl] at he hR
        exact ⟨_, _, he, hR.isO, hB, fun _ b off e => by simp at e; have := hβ g rfl; omega⟩
  · refine throughs_of op a n c xs f w hT hE (by omega) zop [] 0 50 rfl ?_ ?_
    · intro b d W hTW hI
      exact (through_bad op b n d f W (by omega)).mono fun e w' ⟨he, hB⟩ => ⟨none, 0, he, IsO.none _, hB, fun h => by omega⟩
    · intro W hI
      exact (rthrough_bad op a n c f W (by omega)).mono fun e w' ⟨he, hB⟩ => ⟨none, 0, he, IsO.none _, hB, fun h => by omega⟩

end Go.Proofs.YtmkgkgdngjmcmabDoor
