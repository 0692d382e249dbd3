/-
  OtLimit.
-/
import Derived.Test.YtmkgkgdngjmcmaaDoorNp
import Derived.Deep.DeepCutAuto
namespace Go.Proofs.YtmkgkgdngjmcmaaDoor
open Go.RowKit
set_option linter.unusedVariables false

theorem keep_cell {w : World} {p a : Addr} {u v : Value} (h : w.cell? a = some v) (hb : a.block ≠ p.block) : (w.setCell p u).cell? a = some v := by
  rw [← h]
  exact World.cell?_of_block (Below.heap_setCell w p u a.block hb)
def FivP (b : Nat) (v : OpE) (W : World) : Prop := W.cell? ⟨b, 0, none⟩ = some (.int .i64 v.kind) ∧ W.cell? ⟨b, 1, none⟩ = some (.int .i64 v.pos) ∧ W.cell? ⟨b, 2, none⟩ = some (.int .u8 v.ch) ∧ W.cell? ⟨b, 3, none⟩ = some (.int .i64 v.cl) ∧ W.cell? ⟨b, 4, none⟩ = some (.int .i64 v.sq)
theorem FivP.out {b : Nat} {v : OpE} {W : World} (h : FivP b v W) : W.cell? ⟨b, 0, none⟩ = some (.int .i64 v.kind) ∧ W.cell? ⟨b, 1, none⟩ = some (.int .i64 v.pos) ∧ W.cell? ⟨b, 2, none⟩ = some (.int .u8 v.ch) ∧ W.cell? ⟨b, 3, none⟩ = some (.int .i64 v.cl) ∧ W.cell? ⟨b, 4, none⟩ = some (.int .i64 v.sq) := h
theorem FivP.set {b : Nat} {v : OpE} {W : World} (h : FivP b v W) {g i : Nat} {z : Value} (h1 : b ≠ g) : FivP b v (W.setCell ⟨g, i, none⟩ z) := by
  obtain ⟨a0, a1, a2, a3, a4⟩ := h
  exact ⟨keep_cell a0 h1, keep_cell a1 h1, keep_cell a2 h1, keep_cell a3 h1, keep_cell a4 h1⟩
theorem FivP.set5 {b : Nat} {v : OpE} {W : World} (h : FivP b v W) (g : Nat) (z : OpE) (h1 : b ≠ g) :
    FivP b v (((((W.setCell ⟨g, 0, none⟩ (.int .i64 z.kind)).setCell ⟨g, 1, none⟩ (.int .i64 z.pos)).setCell ⟨g, 2, none⟩ (.int .u8 z.ch)).setCell ⟨g, 3, none⟩ (.int .i64 z.cl)).setCell ⟨g, 4, none⟩ (.int .i64 z.sq)) :=
  ((((h.set h1).set h1).set h1).set h1).set h1
theorem FivP.of {b : Nat} {v : OpE} {W : World} (h : W.heap[b]? = some (.cells (opc v).toArray 23 (0, 0))) : FivP b v W := (cellsF h).1
theorem FivP.alloc {b : Nat} {v : OpE} {W : World} (h : FivP b v W) (o : Obj) : FivP b v (W.alloc o) := by
  obtain ⟨a0, a1, a2, a3, a4⟩ := h
  have k : ∀ i u, W.cell? ⟨b, i, none⟩ = some u → (W.alloc o).cell? ⟨b, i, none⟩ = some u := fun i u h => (World.cell?_alloc_some W _ o (by rw [h]; rfl)).trans h
  exact ⟨k _ _ a0, k _ _ a1, k _ _ a2, k _ _ a3, k _ _ a4⟩


/-- What a call of Through leaves here: an operation at a new block, all else as it was. -/
def HRl (wE wx : World) (bx : Nat) (R : OpE) : Prop := Below wE.heap.size wE wx ∧ wE.heap.size ≤ bx ∧ wx.heap[bx]? = some (.cells (opc R).toArray 23 (0, 0))

theorem HRl.set {wE w2 : World} {bx : Nat} {Y : OpE} (h : HRl wE w2 bx Y) (R : OpE) : HRl wE (set5 w2 bx 0 R.kind R.pos R.ch R.cl R.sq) bx R := by
  obtain ⟨h1, h2, h3⟩ := h
  have F := Fr.set5 w2 bx 0 R.kind R.pos R.ch R.cl R.sq
  exact ⟨h1.trans (F.below h1.size (fun k h => by omega)), h2, set5_op h3 _ _ _ _ _⟩
theorem HRl.new {wE w2 : World} (h : Below wE.heap.size wE w2) (R : OpE) : HRl wE (w2.alloc (.cells (opc R).toArray 23)) w2.heap.size R := ⟨h.alloc h.size _, h.size, heap_alloc_new w2 _⟩

theorem thr_good (o : OpE) (b : Option Addr) (d : Nat) (L : List OpE) (f : Bool) (W : World) (hT : Table W) (hI : IsO W b 4096 d L) :
    Calls Tryd.prog 13 #[o.val, .slice b 4096 d, .bool f] W fun e w' => ∃ (R : OpE) (a' : Option Addr) (c' : Nat), e = .returned (.tuple #[R.val, .slice a' 4096 c', .int .i64 0]) ∧ Below W.heap.size W w' := by
  refine (through_any o b 4096 d L f W hT hI (Nat.le_refl _)).mono ?_
  rintro e w' ⟨v, rfl, ⟨g, cg, hg, rfl, hR⟩, hB⟩
  refine ⟨(throughP o L f).1, some ⟨g, 0, none⟩, cg, ?_, hB⟩
  rw [throughP_len, hI.1]
theorem thr_bad (o : OpE) (b : Option Addr) (d : Nat) (f : Bool) (W : World) :
    Calls Tryd.prog 13 #[o.val, .slice b 4097 d, .bool f] W fun e w' => ∃ (R : OpE) (a' : Option Addr) (c' : Nat), e = .returned (.tuple #[R.val, .slice a' 0 c', .int .i64 50]) ∧ R = zop ∧ Below W.heap.size W w' := by
  refine (through_bad o b 4097 d f W (by omega)).mono ?_
  rintro e w' ⟨rfl, hB⟩
  exact ⟨zop, none, 0, rfl, rfl, hB⟩

theorem isO_one {W : World} {b : Nat} {x : OpE} (h : W.heap[b]? = some (.cells (opc x).toArray 23 (0, 0))) : IsO W (some ⟨b, 0, none⟩) 1 1 [x] := by
  refine ⟨rfl, Nat.le_refl _, by omega, fun _ => ⟨b, 0, rfl, block_lt h, fun j v hj => ?_⟩⟩
  rw [Nat.zero_add, cell_row h]
  rw [cO_one] at hj
  simpa using hj
theorem wv_good (a b : Option Addr) (n c m d : Nat) (xs ys : List OpE) (W : World) (hT : Table W) (hE : IsO W a n c xs) (hF : IsO W b m d ys) (hn : n ≤ 4096) (hm : m ≤ 4096) :
    Calls Tryd.prog 16 #[.slice a n c, .slice b m d] W fun e w' => ∃ (a' b' : Option Addr) (c' d' : Nat), e = .returned (.tuple #[.slice a' n c', .slice b' m d', .int .i64 0]) ∧ Below W.heap.size W w' := by
  refine (weave_any a b n c m d xs ys W hT hE hF hn hm).mono ?_
  rintro e w' ⟨g, h, cg, ch, rfl, _, _, _, _, hB⟩
  exact ⟨_, _, _, _, rfl, hB⟩
theorem wv_bad (a b : Option Addr) (n c m d : Nat) (W : World) (hn : 4096 < n ∨ 4096 < m) :
    Calls Tryd.prog 16 #[.slice a n c, .slice b m d] W fun e w' => ∃ (a' b' : Option Addr) (c' d' : Nat), e = .returned (.tuple #[.slice a' 0 c', .slice b' 0 d', .int .i64 50]) ∧ Below W.heap.size W w' := by
  refine (weave_bad a b n c m d W hn).mono ?_
  rintro e w' ⟨rfl, rfl⟩
  exact ⟨none, none, 0, 0, rfl, Below.refl _ _⟩

set_option maxRecDepth 100000 in
set_option maxHeartbeats 8000000 in
theorem limit_of (op ot : OpE) (w : World) (hT : Table w) :
    Calls Tryd.prog 5 #[op.val, ot.val] w fun e w' => e = .returned (.bool true) ∧ Below w.heap.size w w' := by
  obtain ⟨i0, hi0, hz0, hz1, hz2⟩ := info_parts Tryd.infoO
  obtain ⟨k, p, c, q, s⟩ := op
  obtain ⟨k', p', c', q', s'⟩ := ot
  simp only [OpE.val]
  have HT := hd hT
  clear hT
  go_enter Tryd.func5, Tryd.ntmps5
  go_wp2_with (first | (at_make; refine wpList_make_k _ rfl _ _ 32 rfl 23 i0 _ Tryd.underlying32 hi0 hz0 _ _ _ _ 0 4097 rfl rfl (by go_num) (by go_num) (by omega) (by rw [hz2]; omega) (by omega) ?_; intro w3 cur hg3 hcur hb3) | fail)
  obtain ⟨hp, hq, hB3, hz3⟩ := two_of hb3.out
  have hR3 := (row_made hg3.out (by have := hcur.out; rw [hz1] at this; exact this) (by omega)).2
  simp only [World.size_alloc] at hR3
  have S0 : Hid (FRel w w3 (w.heap.size + 2) (.slice (some ⟨w.heap.size + 1 + 1, 0, none⟩) 0 4097) (List.replicate 0 ⟨k, p, c, q, s⟩) ∧ w3.heap[w.heap.size]? = some (.cells #[.int .i64 k, .int .i64 p, .int .u8 c, .int .i64 q, .int .i64 s] 23 (0, 0)) ∧ w3.heap[w.heap.size + 1]? = some (.cells #[.int .i64 k', .int .i64 p', .int .u8 c', .int .i64 q', .int .i64 s'] 23 (0, 0))) :=
    ⟨⟨some (w.heap.size + 1 + 1), ⟨4097, rfl, hR3⟩, fun g hg => by have := Option.some.inj hg; omega, hB3⟩, hp, hq⟩
  clear hp hq hB3 hz3 hR3 hg3 hcur hb3 hi0 hz0 hz1 hz2
  go_wp2
  go_loopw [5, 6] (fun v i wr => ∃ j : Nat, j ≤ 4096 ∧ i = .int .i64 j ∧ Hid (FRel w wr (w.heap.size + 2) v (List.replicate j ⟨k, p, c, q, s⟩) ∧ wr.heap[w.heap.size]? = some (.cells #[.int .i64 k, .int .i64 p, .int .u8 c, .int .i64 q, .int .i64 s] 23 (0, 0)) ∧ wr.heap[w.heap.size + 1]? = some (.cells #[.int .i64 k', .int .i64 p', .int .u8 c', .int .i64 q', .int .i64 s'] 23 (0, 0)))) (fun _ i _ => 4096 - (intOf i).toNat)
  case atStart => exact ⟨0, Nat.zero_le _, rfl, S0⟩
  case round =>
    obtain ⟨j, hj, rfl, hr⟩ := hrel
    clear S0
    obtain ⟨hF, hA, hO⟩ := hr.out
    obtain ⟨av, cv, rfl, hI, hB⟩ := hF.form (n := j) (by simp)
    by_cases hlt : j < 4096
    · obtain ⟨⟨x0, x1, x2, x3, x4⟩, -⟩ := cellsF hA
      have i3 : (j : Int) < 4096 := by omega
      obtain ⟨v5, w5, hap, hF5, hk5, -⟩ := hF.push (Below.refl wr.heap.size wr) (by omega) (by have := block_lt hO; omega) ⟨k, p, c, q, s⟩ (by simp; omega)
      have Z5 : Hid (FRel w w5 (w.heap.size + 2) v5 (List.replicate (j + 1) ⟨k, p, c, q, s⟩) ∧ w5.heap[w.heap.size]? = some (.cells #[.int .i64 k, .int .i64 p, .int .u8 c, .int .i64 q, .int .i64 s] 23 (0, 0)) ∧ w5.heap[w.heap.size + 1]? = some (.cells #[.int .i64 k', .int .i64 p', .int .u8 c', .int .i64 q', .int .i64 s'] 23 (0, 0))) := by
        rw [List.replicate_succ']
        exact ⟨hF5, hk5 _ _ (by omega) hA, hk5 _ _ (by omega) hO⟩
      simp only [opc] at hap
      clear hr hF hA hO hI hB hF5 hk5
      go_wp2_with (at_builtin; refine wpList_append_k _ rfl _ _ 32 32 rfl _ _ rfl rfl (hap _) ?_)
      exact ⟨⟨j + 1, by omega, by go_num, Z5⟩, by simp [intOf]; omega⟩
    · obtain rfl : j = 4096 := by omega
      have FL := hd hF
      have HA := hd hA
      have HO := hd hO
      have HI := hd hI
      have BE := hd hB
      have LL := hd (show (List.replicate 4096 (⟨k, p, c, q, s⟩ : OpE)).length = 4096 by simp)
      clear hr hF hA hO hI hB
      generalize List.replicate 4096 (⟨k, p, c, q, s⟩ : OpE) = L at *
      obtain ⟨wE, hwE⟩ : ∃ wE, wE = wr := ⟨_, rfl⟩
      subst hwE
      obtain ⟨⟨o0, o1, o2, o3, o4⟩, -⟩ := cellsF HO.out
      have HOwE := HO
      have BwE := BE
      go_wp2_with fail
      have ol := block_lt HOwE.out
      go_cut [7, 8, 9] (fun x l e wx => ∃ bx a' c2, x = .pointer (some ⟨bx, 0, none⟩) ∧ l = .slice a' 4096 c2 ∧ e = .int .i64 0 ∧ Hid (∃ R, HRl wE wx bx R))
      case first =>
        go_region_held3 (fun W => W.cell? ⟨w.heap.size + 1, 0, none⟩ = some (.int .i64 k') ∧ W.cell? ⟨w.heap.size + 1, 1, none⟩ = some (.int .i64 p') ∧ W.cell? ⟨w.heap.size + 1, 2, none⟩ = some (.int .u8 c') ∧ W.cell? ⟨w.heap.size + 1, 3, none⟩ = some (.int .i64 q') ∧ W.cell? ⟨w.heap.size + 1, 4, none⟩ = some (.int .i64 s')) (first | (with_reducible exact FivP.out K6) | (with_reducible exact ⟨by assumption, by assumption, by assumption, by assumption, by assumption⟩) | (go_keep; done)) (first | (go_at_call 14; refine (lcopied_any _ 4096 _ _ _ (HI.out.below ?_) (by decide)).mono ?_; (first | exact below_drewN (Below.refl _ _) 1 | exact below_drewN ((Below.refl _ _).alloc (Nat.le_refl _) _) 1); rintro e w1 ⟨v, rfl, hOw, b1⟩; obtain ⟨g, cg, hg, rfl, hR⟩ := hOw; rw [HI.out.1] at hR ⊢; have bb1 : Below wE.heap.size wE w1 := (by first | exact (below_drewN (Below.refl wE.heap.size wE) 1).trans b1 | exact (below_drewN ((Below.refl wE.heap.size wE).alloc (Nat.le_refl _) _) 1).trans (b1.mono (by simp))); have o0 := (bb1.cell (p := ⟨w.heap.size + 1, 0, none⟩) ol).trans o0; have o1 := (bb1.cell (p := ⟨w.heap.size + 1, 1, none⟩) ol).trans o1; have o2 := (bb1.cell (p := ⟨w.heap.size + 1, 2, none⟩) ol).trans o2; have o3 := (bb1.cell (p := ⟨w.heap.size + 1, 3, none⟩) ol).trans o3; have o4 := (bb1.cell (p := ⟨w.heap.size + 1, 4, none⟩) ol).trans o4; (first | (have hx : w1.heap[wE.heap.size]? = some (.cells #[.int .i64 0, .int .i64 0, .int .u8 0, .int .i64 0, .int .i64 0] 23 (0, 0)) := (b1.block _ (by simp)).trans (heap_alloc_new wE _); have HX1 := hd hx; clear hx) | skip); have TW : Hid (∀ W, Below w1.heap.size w1 W → Table W) := (fun W h => HT.out.below (BwE.out.trans ((bb1.trans (h.mono bb1.size)).mono BwE.out.size)) HT.out.1); have IW : Hid (∀ W, Below w1.heap.size w1 W → IsO W (some ⟨g, 0, none⟩) 4096 cg _) := (fun W h => hR.isO.below h); have BB1 := hd bb1; have sz1 := bb1.size; have ol1 := Nat.lt_of_lt_of_le ol bb1.size; clear b1 bb1 hR hg) | (go_at_call 13; refine (thr_good ⟨k', p', c', q', s'⟩ _ _ _ true _ (TW.out _ ?_) (IW.out _ ?_)).mono ?_; (first | exact Below.refl _ _ | exact (Below.refl _ _).alloc (Nat.le_refl _) _); (first | exact Below.refl _ _ | exact (Below.refl _ _).alloc (Nat.le_refl _) _); rintro e w2 ⟨⟨rk, rp, rc, rq, rs⟩, a', c2, rfl, b2⟩; simp only [OpE.val]; have bb2 : Below w1.heap.size w1 w2 := (by first | exact b2 | exact ((Below.refl w1.heap.size w1).alloc (Nat.le_refl _) _).trans (b2.mono (by simp))); have o0 := (bb2.cell (p := ⟨w.heap.size + 1, 0, none⟩) ol1).trans o0; have o1 := (bb2.cell (p := ⟨w.heap.size + 1, 1, none⟩) ol1).trans o1; have o2 := (bb2.cell (p := ⟨w.heap.size + 1, 2, none⟩) ol1).trans o2; have o3 := (bb2.cell (p := ⟨w.heap.size + 1, 3, none⟩) ol1).trans o3; have o4 := (bb2.cell (p := ⟨w.heap.size + 1, 4, none⟩) ol1).trans o4; (first | (have hx : w2.heap[wE.heap.size]? = some (.cells #[.int .i64 0, .int .i64 0, .int .u8 0, .int .i64 0, .int .i64 0] 23 (0, 0)) := (bb2.block _ (block_lt HX1.out)).trans HX1.out; obtain ⟨⟨h0, h1, h2, h3, h4⟩, ⟨f0, f1, f2, f3, f4⟩⟩ := cellsF hx; have GX : Hid (HRl wE w2 wE.heap.size zop) := ⟨BB1.out.trans (bb2.mono sz1), by omega, hx⟩; have K6 := (show FivP (w.heap.size + 1) ⟨k', p', c', q', s'⟩ w2 from ⟨o0, o1, o2, o3, o4⟩).set5 (wE.heap.size) ⟨rk, rp, rc, rq, rs⟩ (by omega); clear hx) | (have hx : w2.heap[w1.heap.size]? = some (.cells #[.int .i64 0, .int .i64 0, .int .u8 0, .int .i64 0, .int .i64 0] 23 (0, 0)) := (b2.block _ (by simp)).trans (heap_alloc_new w1 _); obtain ⟨⟨h0, h1, h2, h3, h4⟩, ⟨f0, f1, f2, f3, f4⟩⟩ := cellsF hx; have GX : Hid (HRl wE w2 w1.heap.size zop) := ⟨BB1.out.trans (bb2.mono sz1), by omega, hx⟩; have K6 := (show FivP (w.heap.size + 1) ⟨k', p', c', q', s'⟩ w2 from ⟨o0, o1, o2, o3, o4⟩).set5 (w1.heap.size) ⟨rk, rp, rc, rq, rs⟩ (by omega); clear hx) | skip); have GB : Hid (Below wE.heap.size wE w2) := (BB1.out.trans (bb2.mono sz1)); clear b2 bb2))
        · have Z := hd (show ∃ R, HRl wE _ _ R from ⟨⟨rk, rp, rc, rq, rs⟩, (HRl.new GB.out ⟨rk, rp, rc, rq, rs⟩)⟩)
          go_wp2_with fail
          go_meet
          exact ⟨w2.heap.size, a', c2, rfl, rfl, rfl, Z⟩
        · have Z := hd (show ∃ R, HRl wE _ _ R from ⟨⟨rk, rp, rc, rq, rs⟩, (GX.out.set ⟨rk, rp, rc, rq, rs⟩)⟩)
          go_wp2_with fail
          go_meet
          exact ⟨w1.heap.size, a', c2, rfl, rfl, rfl, Z⟩
        · have Z := hd (show ∃ R, HRl wE _ _ R from ⟨⟨rk, rp, rc, rq, rs⟩, (GX.out.set ⟨rk, rp, rc, rq, rs⟩)⟩)
          go_wp2_with fail
          go_meet
          exact ⟨wE.heap.size, a', c2, rfl, rfl, rfl, Z⟩
      case rest =>
      obtain ⟨bx, a', c2, rfl, rfl, rfl, hG⟩ := hcut

      obtain ⟨R0, hG1, hG2, hG3⟩ := hG.out
      have B1 := hd hG1
      clear hG hG1 hG2 hG3 o0 o1 o2 o3 o4
      go_wp2_with fail
      refine (num_any _ _).mono ?_
      rintro e w4 ⟨rfl, rfl⟩
      have I4 := hd (HI.out.below B1.out)
      have O4 : Hid (w4.heap[w.heap.size + 1]? = _) := (B1.out.block _ ol).trans HO.out
      obtain ⟨⟨o0, o1, o2, o3, o4⟩, -⟩ := cellsF O4.out
      have HOw4 := O4
      have Bw4 := hd (BE.out.trans (B1.out.mono BE.out.size))
      go_wp2_with fail
      have ol := block_lt HOw4.out
      go_cut [10, 11, 9] (fun x y e wx => ∃ a' b' c2 d2, x = .slice a' 4096 c2 ∧ y = .slice b' 1 d2 ∧ e = .int .i64 0 ∧ Hid (Below w4.heap.size w4 wx))
      case first =>
        go_region_held3 (fun W => W.cell? ⟨w.heap.size + 1, 0, none⟩ = some (.int .i64 k') ∧ W.cell? ⟨w.heap.size + 1, 1, none⟩ = some (.int .i64 p') ∧ W.cell? ⟨w.heap.size + 1, 2, none⟩ = some (.int .u8 c') ∧ W.cell? ⟨w.heap.size + 1, 3, none⟩ = some (.int .i64 q') ∧ W.cell? ⟨w.heap.size + 1, 4, none⟩ = some (.int .i64 s')) (first | (with_reducible exact ⟨by assumption, by assumption, by assumption, by assumption, by assumption⟩) | (go_keep; done)) (first | (go_at_call 14; refine (lcopied_any _ 4096 _ _ _ (I4.out.below ?_) (by decide)).mono ?_; (first | exact below_drewN (Below.refl _ _) 1 | exact below_drewN ((Below.refl _ _).alloc (Nat.le_refl _) _) 1); rintro e w1 ⟨v, rfl, hOw, b1⟩; obtain ⟨g, cg, hg, rfl, hR⟩ := hOw; rw [I4.out.1] at hR ⊢; have bb1 : Below w4.heap.size w4 w1 := (by first | exact (below_drewN (Below.refl w4.heap.size w4) 1).trans b1 | exact (below_drewN ((Below.refl w4.heap.size w4).alloc (Nat.le_refl _) _) 1).trans (b1.mono (by simp))); have o0 := (bb1.cell (p := ⟨w.heap.size + 1, 0, none⟩) ol).trans o0; have o1 := (bb1.cell (p := ⟨w.heap.size + 1, 1, none⟩) ol).trans o1; have o2 := (bb1.cell (p := ⟨w.heap.size + 1, 2, none⟩) ol).trans o2; have o3 := (bb1.cell (p := ⟨w.heap.size + 1, 3, none⟩) ol).trans o3; have o4 := (bb1.cell (p := ⟨w.heap.size + 1, 4, none⟩) ol).trans o4; (first | (have hx : w1.heap[w4.heap.size]? = some (.cells #[.int .i64 k', .int .i64 p', .int .u8 c', .int .i64 q', .int .i64 s'] 23 (0, 0)) := (b1.block _ (by simp)).trans (heap_alloc_new w4 _); have HX1 := hd hx; clear hx) | skip); have TW : Hid (∀ W, Below w1.heap.size w1 W → Table W) := (fun W h => HT.out.below (Bw4.out.trans ((bb1.trans (h.mono bb1.size)).mono Bw4.out.size)) HT.out.1); have IW : Hid (∀ W, Below w1.heap.size w1 W → IsO W (some ⟨g, 0, none⟩) 4096 cg _) := (fun W h => hR.isO.below h); have BB1 := hd bb1; have sz1 := bb1.size; have ol1 := Nat.lt_of_lt_of_le ol bb1.size; clear b1 bb1 hR hg) | (go_at_call 16; refine (wv_good _ _ _ _ _ _ _ _ _ (TW.out _ ?_) (IW.out _ ?_) (?_ : IsO _ _ 1 1 [⟨k', p', c', q', s'⟩]) (by decide) (by decide)).mono ?_; (first | exact Below.refl _ _ | exact (Below.refl _ _).alloc (Nat.le_refl _) _); (first | exact Below.refl _ _ | exact (Below.refl _ _).alloc (Nat.le_refl _) _); (first | exact isO_one HX1.out | exact isO_one (heap_alloc_new w1 _)); rintro e w2 ⟨a', b', c2, d2, rfl, b2⟩; have bb2 : Below w1.heap.size w1 w2 := (by first | exact b2 | exact ((Below.refl w1.heap.size w1).alloc (Nat.le_refl _) _).trans (b2.mono (by simp))); have o0 := (bb2.cell (p := ⟨w.heap.size + 1, 0, none⟩) ol1).trans o0; have o1 := (bb2.cell (p := ⟨w.heap.size + 1, 1, none⟩) ol1).trans o1; have o2 := (bb2.cell (p := ⟨w.heap.size + 1, 2, none⟩) ol1).trans o2; have o3 := (bb2.cell (p := ⟨w.heap.size + 1, 3, none⟩) ol1).trans o3; have o4 := (bb2.cell (p := ⟨w.heap.size + 1, 4, none⟩) ol1).trans o4; have GB : Hid (Below w4.heap.size w4 w2) := (BB1.out.trans (bb2.mono sz1)); clear b2 bb2))
        all_goals (
          go_wp2_with fail
          go_meet
          exact ⟨a', b', c2, d2, rfl, rfl, rfl, GB⟩)
      case rest =>
      obtain ⟨a', b', c2, d2, rfl, rfl, rfl, hG⟩ := hcut

      have B2 := hd (B1.out.trans (hG.out.mono B1.out.size))
      clear hG o0 o1 o2 o3 o4 I4 HOw4 Bw4 O4 ol
      go_wp2_with fail
      refine (num_any _ _).mono ?_
      rintro e w5 ⟨rfl, rfl⟩
      have I5 := hd (HI.out.below B2.out)
      have HOw5 : Hid (w5.heap[w.heap.size + 1]? = _) := (B2.out.block _ (block_lt HO.out)).trans HO.out
      have Bw5 := hd (BE.out.trans (B2.out.mono BE.out.size))
      obtain ⟨⟨o0, o1, o2, o3, o4⟩, -⟩ := cellsF HOw5.out
      go_wp2_with fail
      have ol := block_lt HOw5.out
      go_cut [10, 11, 9] (fun x y e wx => ∃ a' b' c2 d2, x = .slice a' 1 c2 ∧ y = .slice b' 4096 d2 ∧ e = .int .i64 0 ∧ Hid (Below w5.heap.size w5 wx))
      case first =>
        go_region_held3 (fun W => W.cell? ⟨w.heap.size + 1, 0, none⟩ = some (.int .i64 k') ∧ W.cell? ⟨w.heap.size + 1, 1, none⟩ = some (.int .i64 p') ∧ W.cell? ⟨w.heap.size + 1, 2, none⟩ = some (.int .u8 c') ∧ W.cell? ⟨w.heap.size + 1, 3, none⟩ = some (.int .i64 q') ∧ W.cell? ⟨w.heap.size + 1, 4, none⟩ = some (.int .i64 s')) (first | (with_reducible exact ⟨by assumption, by assumption, by assumption, by assumption, by assumption⟩) | (go_keep; done)) (first | (go_at_call 14; refine (lcopied_any _ 4096 _ _ _ (I5.out.below ?_) (by decide)).mono ?_; (first | exact below_drewN (Below.refl _ _) 1 | exact below_drewN ((Below.refl _ _).alloc (Nat.le_refl _) _) 1); rintro e w1 ⟨v, rfl, hOw, b1⟩; obtain ⟨g, cg, hg, rfl, hR⟩ := hOw; rw [I5.out.1] at hR ⊢; have bb1 : Below w5.heap.size w5 w1 := (by first | exact (below_drewN (Below.refl w5.heap.size w5) 1).trans b1 | exact (below_drewN ((Below.refl w5.heap.size w5).alloc (Nat.le_refl _) _) 1).trans (b1.mono (by simp))); have o0 := (bb1.cell (p := ⟨w.heap.size + 1, 0, none⟩) ol).trans o0; have o1 := (bb1.cell (p := ⟨w.heap.size + 1, 1, none⟩) ol).trans o1; have o2 := (bb1.cell (p := ⟨w.heap.size + 1, 2, none⟩) ol).trans o2; have o3 := (bb1.cell (p := ⟨w.heap.size + 1, 3, none⟩) ol).trans o3; have o4 := (bb1.cell (p := ⟨w.heap.size + 1, 4, none⟩) ol).trans o4; (first | (have hx : w1.heap[w5.heap.size]? = some (.cells #[.int .i64 k', .int .i64 p', .int .u8 c', .int .i64 q', .int .i64 s'] 23 (0, 0)) := (b1.block _ (by simp)).trans (heap_alloc_new w5 _); have HX1 := hd hx; clear hx) | skip); have TW : Hid (∀ W, Below w1.heap.size w1 W → Table W) := (fun W h => HT.out.below (Bw5.out.trans ((bb1.trans (h.mono bb1.size)).mono Bw5.out.size)) HT.out.1); have IW : Hid (∀ W, Below w1.heap.size w1 W → IsO W (some ⟨g, 0, none⟩) 4096 cg _) := (fun W h => hR.isO.below h); have BB1 := hd bb1; have sz1 := bb1.size; have ol1 := Nat.lt_of_lt_of_le ol bb1.size; clear b1 bb1 hR hg) | (go_at_call 16; refine (wv_good _ _ _ _ _ _ _ _ _ (TW.out _ ?_) (?_ : IsO _ _ 1 1 [⟨k', p', c', q', s'⟩]) (IW.out _ ?_) (by decide) (by decide)).mono ?_; (first | exact Below.refl _ _ | exact (Below.refl _ _).alloc (Nat.le_refl _) _); (first | exact isO_one HX1.out | exact isO_one (heap_alloc_new w1 _)); (first | exact Below.refl _ _ | exact (Below.refl _ _).alloc (Nat.le_refl _) _); rintro e w2 ⟨a', b', c2, d2, rfl, b2⟩; have bb2 : Below w1.heap.size w1 w2 := (by first | exact b2 | exact ((Below.refl w1.heap.size w1).alloc (Nat.le_refl _) _).trans (b2.mono (by simp))); have o0 := (bb2.cell (p := ⟨w.heap.size + 1, 0, none⟩) ol1).trans o0; have o1 := (bb2.cell (p := ⟨w.heap.size + 1, 1, none⟩) ol1).trans o1; have o2 := (bb2.cell (p := ⟨w.heap.size + 1, 2, none⟩) ol1).trans o2; have o3 := (bb2.cell (p := ⟨w.heap.size + 1, 3, none⟩) ol1).trans o3; have o4 := (bb2.cell (p := ⟨w.heap.size + 1, 4, none⟩) ol1).trans o4; have GB : Hid (Below w5.heap.size w5 w2) := (BB1.out.trans (bb2.mono sz1)); clear b2 bb2))
        all_goals (
          go_wp2_with fail
          go_meet
          exact ⟨a', b', c2, d2, rfl, rfl, rfl, GB⟩)
      case rest =>
      obtain ⟨a', b', c2, d2, rfl, rfl, rfl, hG⟩ := hcut

      have B3 := hd (B2.out.trans (hG.out.mono B2.out.size))
      clear hG o0 o1 o2 o3 o4 I5 HOw5 Bw5 ol
      go_wp2_with fail
      refine (num_any _ _).mono ?_
      rintro e w7 ⟨rfl, rfl⟩
      obtain ⟨⟨o0, o1, o2, o3, o4⟩, -⟩ := cellsF ((B3.out.block _ (block_lt HA.out)).trans HA.out)
      obtain ⟨v8, w8, hap, hF8, hk8, -⟩ := FL.out.push B3.out (by omega) (by have := block_lt HO.out; omega) ⟨k, p, c, q, s⟩ (by rw [LL.out]; omega)
      have ho8 := hk8 _ _ (by omega) ((B3.out.block _ (block_lt HO.out)).trans HO.out)
      obtain ⟨av8, cv8, rfl, hI8, hB8⟩ := hF8.form (n := 4097) (by have := LL.out; simp; omega)
      have I8 := hd hI8
      have HOw8 := hd ho8
      have Bw8 := hd hB8
      simp only [opc] at hap
      clear hF8 hk8 ho8 hI8 hB8 FL
      go_wp2_with (first | (at_builtin; refine wpList_append_k _ rfl _ _ 32 32 rfl _ _ rfl rfl (hap _) ?_; clear hap o0 o1 o2 o3 o4; obtain ⟨⟨o0, o1, o2, o3, o4⟩, -⟩ := cellsF HOw8.out) | fail)
      have ol := block_lt HOw8.out
      go_cut [12, 8, 9] (fun x l e wx => ∃ bx a' c2, x = .pointer (some ⟨bx, 0, none⟩) ∧ l = .slice a' 0 c2 ∧ e = .int .i64 50 ∧ Hid (HRl w8 wx bx zop))
      case first =>
        go_region_held3 (fun W => W.cell? ⟨w.heap.size + 1, 0, none⟩ = some (.int .i64 k') ∧ W.cell? ⟨w.heap.size + 1, 1, none⟩ = some (.int .i64 p') ∧ W.cell? ⟨w.heap.size + 1, 2, none⟩ = some (.int .u8 c') ∧ W.cell? ⟨w.heap.size + 1, 3, none⟩ = some (.int .i64 q') ∧ W.cell? ⟨w.heap.size + 1, 4, none⟩ = some (.int .i64 s')) (first | (with_reducible exact FivP.out K6) | (with_reducible exact ⟨by assumption, by assumption, by assumption, by assumption, by assumption⟩) | (go_keep; done)) (first | (go_at_call 14; refine (lcopied_any _ 4097 _ _ _ (I8.out.below ?_) (by decide)).mono ?_; (first | exact below_drewN (Below.refl _ _) 1 | exact below_drewN ((Below.refl _ _).alloc (Nat.le_refl _) _) 1); rintro e w1 ⟨v, rfl, hOw, b1⟩; obtain ⟨g, cg, hg, rfl, hR⟩ := hOw; rw [I8.out.1] at hR ⊢; have bb1 : Below w8.heap.size w8 w1 := (by first | exact (below_drewN (Below.refl w8.heap.size w8) 1).trans b1 | exact (below_drewN ((Below.refl w8.heap.size w8).alloc (Nat.le_refl _) _) 1).trans (b1.mono (by simp))); have o0 := (bb1.cell (p := ⟨w.heap.size + 1, 0, none⟩) ol).trans o0; have o1 := (bb1.cell (p := ⟨w.heap.size + 1, 1, none⟩) ol).trans o1; have o2 := (bb1.cell (p := ⟨w.heap.size + 1, 2, none⟩) ol).trans o2; have o3 := (bb1.cell (p := ⟨w.heap.size + 1, 3, none⟩) ol).trans o3; have o4 := (bb1.cell (p := ⟨w.heap.size + 1, 4, none⟩) ol).trans o4; (first | (have hx : w1.heap[w8.heap.size]? = some (.cells #[.int .i64 0, .int .i64 0, .int .u8 0, .int .i64 0, .int .i64 0] 23 (0, 0)) := (b1.block _ (by simp)).trans (heap_alloc_new w8 _); have HX1 := hd hx; clear hx) | skip); have TW : Hid (∀ W, Below w1.heap.size w1 W → Table W) := (fun W h => HT.out.below (Bw8.out.trans ((bb1.trans (h.mono bb1.size)).mono Bw8.out.size)) HT.out.1); have IW : Hid (∀ W, Below w1.heap.size w1 W → IsO W (some ⟨g, 0, none⟩) 4097 cg _) := (fun W h => hR.isO.below h); have BB1 := hd bb1; have sz1 := bb1.size; have ol1 := Nat.lt_of_lt_of_le ol bb1.size; clear b1 bb1 hR hg) | (go_at_call 13; refine (thr_bad ⟨k', p', c', q', s'⟩ _ _ false _).mono ?_; rintro e w2 ⟨⟨rk, rp, rc, rq, rs⟩, a', c2, rfl, hZ, b2⟩; simp only [zop, OpE.mk.injEq] at hZ; obtain ⟨rfl, rfl, rfl, rfl, rfl⟩ := hZ; simp only [OpE.val]; have bb2 : Below w1.heap.size w1 w2 := (by first | exact b2 | exact ((Below.refl w1.heap.size w1).alloc (Nat.le_refl _) _).trans (b2.mono (by simp))); have o0 := (bb2.cell (p := ⟨w.heap.size + 1, 0, none⟩) ol1).trans o0; have o1 := (bb2.cell (p := ⟨w.heap.size + 1, 1, none⟩) ol1).trans o1; have o2 := (bb2.cell (p := ⟨w.heap.size + 1, 2, none⟩) ol1).trans o2; have o3 := (bb2.cell (p := ⟨w.heap.size + 1, 3, none⟩) ol1).trans o3; have o4 := (bb2.cell (p := ⟨w.heap.size + 1, 4, none⟩) ol1).trans o4; (first | (have hx : w2.heap[w8.heap.size]? = some (.cells #[.int .i64 0, .int .i64 0, .int .u8 0, .int .i64 0, .int .i64 0] 23 (0, 0)) := (bb2.block _ (block_lt HX1.out)).trans HX1.out; obtain ⟨⟨h0, h1, h2, h3, h4⟩, ⟨f0, f1, f2, f3, f4⟩⟩ := cellsF hx; have GX : Hid (HRl w8 w2 w8.heap.size zop) := ⟨BB1.out.trans (bb2.mono sz1), by omega, hx⟩; have K6 := (show FivP (w.heap.size + 1) ⟨k', p', c', q', s'⟩ w2 from ⟨o0, o1, o2, o3, o4⟩).set5 (w8.heap.size) ⟨0, 0, 0, 0, 0⟩ (by omega); clear hx) | (have hx : w2.heap[w1.heap.size]? = some (.cells #[.int .i64 0, .int .i64 0, .int .u8 0, .int .i64 0, .int .i64 0] 23 (0, 0)) := (b2.block _ (by simp)).trans (heap_alloc_new w1 _); obtain ⟨⟨h0, h1, h2, h3, h4⟩, ⟨f0, f1, f2, f3, f4⟩⟩ := cellsF hx; have GX : Hid (HRl w8 w2 w1.heap.size zop) := ⟨BB1.out.trans (bb2.mono sz1), by omega, hx⟩; have K6 := (show FivP (w.heap.size + 1) ⟨k', p', c', q', s'⟩ w2 from ⟨o0, o1, o2, o3, o4⟩).set5 (w1.heap.size) ⟨0, 0, 0, 0, 0⟩ (by omega); clear hx) | skip); have GB : Hid (Below w8.heap.size w8 w2) := (BB1.out.trans (bb2.mono sz1)); clear b2 bb2))
        · have Z := hd (HRl.new GB.out ⟨0, 0, 0, 0, 0⟩)
          go_wp2_with fail
          go_meet
          exact ⟨w2.heap.size, a', c2, rfl, rfl, rfl, Z⟩
        · have Z := hd (GX.out.set ⟨0, 0, 0, 0, 0⟩)
          go_wp2_with fail
          go_meet
          exact ⟨w1.heap.size, a', c2, rfl, rfl, rfl, Z⟩
        · have Z := hd (GX.out.set ⟨0, 0, 0, 0, 0⟩)
          go_wp2_with fail
          go_meet
          exact ⟨w8.heap.size, a', c2, rfl, rfl, rfl, Z⟩
      case rest =>
      obtain ⟨bx, a', c2, rfl, rfl, rfl, hG⟩ := hcut

      have GZ := hG
      clear hG o0 o1 o2 o3 o4
      obtain ⟨⟨z0, z1, z2, z3, z4⟩, -⟩ := cellsF GZ.out.2.2
      go_wp2_with fail
      refine (num_any _ _).mono ?_
      rintro e w9 ⟨rfl, rfl⟩
      have C1 := hd GZ.out.1
      clear GZ ol
      have I9 := hd (I8.out.below C1.out)
      have HOw9 : Hid (w9.heap[w.heap.size + 1]? = _) := (C1.out.block _ (block_lt HOw8.out)).trans HOw8.out
      have Bw9 := hd (Bw8.out.trans (C1.out.mono Bw8.out.size))
      obtain ⟨⟨o0, o1, o2, o3, o4⟩, -⟩ := cellsF HOw9.out
      go_wp2_with fail
      have ol := block_lt HOw9.out
      go_cut [10, 11, 9] (fun x y e wx => ∃ a' b' c2 d2, x = .slice a' 0 c2 ∧ y = .slice b' 0 d2 ∧ e = .int .i64 50 ∧ Hid (Below w9.heap.size w9 wx))
      case first =>
        go_region_held3 (fun W => W.cell? ⟨w.heap.size + 1, 0, none⟩ = some (.int .i64 k') ∧ W.cell? ⟨w.heap.size + 1, 1, none⟩ = some (.int .i64 p') ∧ W.cell? ⟨w.heap.size + 1, 2, none⟩ = some (.int .u8 c') ∧ W.cell? ⟨w.heap.size + 1, 3, none⟩ = some (.int .i64 q') ∧ W.cell? ⟨w.heap.size + 1, 4, none⟩ = some (.int .i64 s')) (first | (with_reducible exact ⟨by assumption, by assumption, by assumption, by assumption, by assumption⟩) | (go_keep; done)) (first | (go_at_call 14; refine (lcopied_any _ 4097 _ _ _ (I9.out.below ?_) (by decide)).mono ?_; (first | exact below_drewN (Below.refl _ _) 1 | exact below_drewN ((Below.refl _ _).alloc (Nat.le_refl _) _) 1); rintro e w1 ⟨v, rfl, hOw, b1⟩; obtain ⟨g, cg, hg, rfl, hR⟩ := hOw; rw [I9.out.1] at hR ⊢; have bb1 : Below w9.heap.size w9 w1 := (by first | exact (below_drewN (Below.refl w9.heap.size w9) 1).trans b1 | exact (below_drewN ((Below.refl w9.heap.size w9).alloc (Nat.le_refl _) _) 1).trans (b1.mono (by simp))); have o0 := (bb1.cell (p := ⟨w.heap.size + 1, 0, none⟩) ol).trans o0; have o1 := (bb1.cell (p := ⟨w.heap.size + 1, 1, none⟩) ol).trans o1; have o2 := (bb1.cell (p := ⟨w.heap.size + 1, 2, none⟩) ol).trans o2; have o3 := (bb1.cell (p := ⟨w.heap.size + 1, 3, none⟩) ol).trans o3; have o4 := (bb1.cell (p := ⟨w.heap.size + 1, 4, none⟩) ol).trans o4; (first | (have hx : w1.heap[w9.heap.size]? = some (.cells #[.int .i64 k', .int .i64 p', .int .u8 c', .int .i64 q', .int .i64 s'] 23 (0, 0)) := (b1.block _ (by simp)).trans (heap_alloc_new w9 _); have HX1 := hd hx; clear hx) | skip); have TW : Hid (∀ W, Below w1.heap.size w1 W → Table W) := (fun W h => HT.out.below (Bw9.out.trans ((bb1.trans (h.mono bb1.size)).mono Bw9.out.size)) HT.out.1); have IW : Hid (∀ W, Below w1.heap.size w1 W → IsO W (some ⟨g, 0, none⟩) 4097 cg _) := (fun W h => hR.isO.below h); have BB1 := hd bb1; have sz1 := bb1.size; have ol1 := Nat.lt_of_lt_of_le ol bb1.size; clear b1 bb1 hR hg) | (go_at_call 16; refine (wv_bad _ _ _ _ _ _ _ (by decide)).mono ?_; rintro e w2 ⟨a', b', c2, d2, rfl, b2⟩; have bb2 : Below w1.heap.size w1 w2 := (by first | exact b2 | exact ((Below.refl w1.heap.size w1).alloc (Nat.le_refl _) _).trans (b2.mono (by simp))); have o0 := (bb2.cell (p := ⟨w.heap.size + 1, 0, none⟩) ol1).trans o0; have o1 := (bb2.cell (p := ⟨w.heap.size + 1, 1, none⟩) ol1).trans o1; have o2 := (bb2.cell (p := ⟨w.heap.size + 1, 2, none⟩) ol1).trans o2; have o3 := (bb2.cell (p := ⟨w.heap.size + 1, 3, none⟩) ol1).trans o3; have o4 := (bb2.cell (p := ⟨w.heap.size + 1, 4, none⟩) ol1).trans o4; have GB : Hid (Below w9.heap.size w9 w2) := (BB1.out.trans (bb2.mono sz1)); clear b2 bb2))
        all_goals (
          go_wp2_with fail
          go_meet
          exact ⟨a', b', c2, d2, rfl, rfl, rfl, GB⟩)
      case rest =>
      obtain ⟨a', b', c2, d2, rfl, rfl, rfl, hG⟩ := hcut

      have C2 := hd (C1.out.trans (hG.out.mono C1.out.size))
      clear hG o0 o1 o2 o3 o4 I9 HOw9 Bw9 ol
      go_wp2_with fail
      refine (num_any _ _).mono ?_
      rintro e w10 ⟨rfl, rfl⟩
      have I10 := hd (I8.out.below C2.out)
      have HOw10 : Hid (w10.heap[w.heap.size + 1]? = _) := (C2.out.block _ (block_lt HOw8.out)).trans HOw8.out
      have Bw10 := hd (Bw8.out.trans (C2.out.mono Bw8.out.size))
      obtain ⟨⟨o0, o1, o2, o3, o4⟩, -⟩ := cellsF HOw10.out
      go_wp2_with fail
      have ol := block_lt HOw10.out
      go_cut [10, 11, 9] (fun x y e wx => ∃ a' b' c2 d2, x = .slice a' 0 c2 ∧ y = .slice b' 0 d2 ∧ e = .int .i64 50 ∧ Hid (Below w10.heap.size w10 wx))
      case first =>
        go_region_held3 (fun W => W.cell? ⟨w.heap.size + 1, 0, none⟩ = some (.int .i64 k') ∧ W.cell? ⟨w.heap.size + 1, 1, none⟩ = some (.int .i64 p') ∧ W.cell? ⟨w.heap.size + 1, 2, none⟩ = some (.int .u8 c') ∧ W.cell? ⟨w.heap.size + 1, 3, none⟩ = some (.int .i64 q') ∧ W.cell? ⟨w.heap.size + 1, 4, none⟩ = some (.int .i64 s')) (first | (with_reducible exact ⟨by assumption, by assumption, by assumption, by assumption, by assumption⟩) | (go_keep; done)) (first | (go_at_call 14; refine (lcopied_any _ 4097 _ _ _ (I10.out.below ?_) (by decide)).mono ?_; (first | exact below_drewN (Below.refl _ _) 1 | exact below_drewN ((Below.refl _ _).alloc (Nat.le_refl _) _) 1); rintro e w1 ⟨v, rfl, hOw, b1⟩; obtain ⟨g, cg, hg, rfl, hR⟩ := hOw; rw [I10.out.1] at hR ⊢; have bb1 : Below w10.heap.size w10 w1 := (by first | exact (below_drewN (Below.refl w10.heap.size w10) 1).trans b1 | exact (below_drewN ((Below.refl w10.heap.size w10).alloc (Nat.le_refl _) _) 1).trans (b1.mono (by simp))); have o0 := (bb1.cell (p := ⟨w.heap.size + 1, 0, none⟩) ol).trans o0; have o1 := (bb1.cell (p := ⟨w.heap.size + 1, 1, none⟩) ol).trans o1; have o2 := (bb1.cell (p := ⟨w.heap.size + 1, 2, none⟩) ol).trans o2; have o3 := (bb1.cell (p := ⟨w.heap.size + 1, 3, none⟩) ol).trans o3; have o4 := (bb1.cell (p := ⟨w.heap.size + 1, 4, none⟩) ol).trans o4; (first | (have hx : w1.heap[w10.heap.size]? = some (.cells #[.int .i64 k', .int .i64 p', .int .u8 c', .int .i64 q', .int .i64 s'] 23 (0, 0)) := (b1.block _ (by simp)).trans (heap_alloc_new w10 _); have HX1 := hd hx; clear hx) | skip); have TW : Hid (∀ W, Below w1.heap.size w1 W → Table W) := (fun W h => HT.out.below (Bw10.out.trans ((bb1.trans (h.mono bb1.size)).mono Bw10.out.size)) HT.out.1); have IW : Hid (∀ W, Below w1.heap.size w1 W → IsO W (some ⟨g, 0, none⟩) 4097 cg _) := (fun W h => hR.isO.below h); have BB1 := hd bb1; have sz1 := bb1.size; have ol1 := Nat.lt_of_lt_of_le ol bb1.size; clear b1 bb1 hR hg) | (go_at_call 16; refine (wv_bad _ _ _ _ _ _ _ (by decide)).mono ?_; rintro e w2 ⟨a', b', c2, d2, rfl, b2⟩; have bb2 : Below w1.heap.size w1 w2 := (by first | exact b2 | exact ((Below.refl w1.heap.size w1).alloc (Nat.le_refl _) _).trans (b2.mono (by simp))); have o0 := (bb2.cell (p := ⟨w.heap.size + 1, 0, none⟩) ol1).trans o0; have o1 := (bb2.cell (p := ⟨w.heap.size + 1, 1, none⟩) ol1).trans o1; have o2 := (bb2.cell (p := ⟨w.heap.size + 1, 2, none⟩) ol1).trans o2; have o3 := (bb2.cell (p := ⟨w.heap.size + 1, 3, none⟩) ol1).trans o3; have o4 := (bb2.cell (p := ⟨w.heap.size + 1, 4, none⟩) ol1).trans o4; have GB : Hid (Below w10.heap.size w10 w2) := (BB1.out.trans (bb2.mono sz1)); clear b2 bb2))
        all_goals (
          go_wp2_with fail
          go_meet
          exact ⟨a', b', c2, d2, rfl, rfl, rfl, GB⟩)
      case rest =>
      obtain ⟨a', b', c2, d2, rfl, rfl, rfl, hG⟩ := hcut

      have C3 := hd (C2.out.trans (hG.out.mono C2.out.size))
      clear hG o0 o1 o2 o3 o4 I10 HOw10 Bw10 ol
      go_wp2_with fail
      refine (num_any _ _).mono ?_
      rintro e w11 ⟨rfl, rfl⟩
      go_wp2
      go_ret
      exact ⟨rfl, Bw8.out.trans (C3.out.mono Bw8.out.size)⟩

theorem otLimit_any (op other : OpE) (w : World) (hT : Table w) (h1 : OkOp op) (h2 : OkOp other) :
    Calls Tryd.prog 5 #[op.val, other.val] w fun e w' => e = .returned (.bool true) ∧ Below w.heap.size w w' := limit_of op other w hT

end Go.Proofs.YtmkgkgdngjmcmaaDoor
