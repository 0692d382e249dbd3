/-
  Through, of the document.
-/
import Derived.Test.YtmkgkgdngjmcmabDoorNc
import Derived.Test.YtmkgkgdngjmcmabDoorWe
import Derived.Deep.RegionHeld3
namespace Go.Proofs.YtmkgkgdngjmcmabDoor
open Go.RowKit
set_option linter.unusedVariables false

/-- append of one operation onto a row of the call's own with room or not. -/
theorem push_own {wr : World} {β : Option Nat} {v : Value} {L : List OpE} (h : SO wr β v L) (o : OpE) (hL : L.length ≤ 4096) :
    ∃ v' w3 β', (∀ ty, (Builtin.append_ #[24, 24] ty #[v, .slice (some ⟨wr.heap.size, 0, none⟩) 1 1]).run Tryd.prog (wr.alloc (.cells (opc o).toArray 23)) = .ok v' w3) ∧ SO w3 β' v' (L ++ [o]) ∧ (β' = β ∨ ∃ g, β' = some g ∧ wr.heap.size ≤ g) ∧ Fr (fun k => β = some k) wr w3 := by
  have B1 : Below wr.heap.size wr (wr.alloc (.cells (opc o).toArray 23)) := (Below.refl _ _).alloc (Nat.le_refl _) _
  obtain ⟨v', w3, hr, β', g1, g2, g3⟩ := run_pushO _ β v L (h.below B1) wr.heap.size o (heap_alloc_new _ _) hL
  refine ⟨v', w3, β', hr, g1, ?_, (Fr.of_below B1).trans g3⟩
  rcases g2 with g2 | ⟨g', g2, g4⟩
  · exact .inl g2
  · exact .inr ⟨g', g2, by have := B1.size; omega⟩

theorem set5_size (w : World) (g i : Nat) (a b c d e : Int) : (set5 w g i a b c d e).heap.size = w.heap.size := by
  simp [set5]

/-- Ten cells: two operations where they lie. -/
def TenP (b o d e : Nat) (v u : OpE) (W : World) : Prop := W.cell? ⟨b, o, none⟩ = some (.int .i64 v.kind) ∧ W.cell? ⟨b, o + 1, none⟩ = some (.int .i64 v.pos) ∧ W.cell? ⟨b, o + 2, none⟩ = some (.int .u8 v.ch) ∧ W.cell? ⟨b, o + 3, none⟩ = some (.int .i64 v.cl) ∧ W.cell? ⟨b, o + 4, none⟩ = some (.int .i64 v.sq) ∧ W.cell? ⟨d, e, none⟩ = some (.int .i64 u.kind) ∧ W.cell? ⟨d, e + 1, none⟩ = some (.int .i64 u.pos) ∧ W.cell? ⟨d, e + 2, none⟩ = some (.int .u8 u.ch) ∧ W.cell? ⟨d, e + 3, none⟩ = some (.int .i64 u.cl) ∧ W.cell? ⟨d, e + 4, none⟩ = some (.int .i64 u.sq)

theorem TenP.out {b o d e : Nat} {v u : OpE} {W : World} (h : TenP b o d e v u W) : W.cell? ⟨b, o, none⟩ = some (.int .i64 v.kind) ∧ W.cell? ⟨b, o + 1, none⟩ = some (.int .i64 v.pos) ∧ W.cell? ⟨b, o + 2, none⟩ = some (.int .u8 v.ch) ∧ W.cell? ⟨b, o + 3, none⟩ = some (.int .i64 v.cl) ∧ W.cell? ⟨b, o + 4, none⟩ = some (.int .i64 v.sq) ∧ W.cell? ⟨d, e, none⟩ = some (.int .i64 u.kind) ∧ W.cell? ⟨d, e + 1, none⟩ = some (.int .i64 u.pos) ∧ W.cell? ⟨d, e + 2, none⟩ = some (.int .u8 u.ch) ∧ W.cell? ⟨d, e + 3, none⟩ = some (.int .i64 u.cl) ∧ W.cell? ⟨d, e + 4, none⟩ = some (.int .i64 u.sq) := h

theorem keep_cell {w : World} {p a : Addr} {u v : Value} (h : w.cell? a = some v) (hb : a.block ≠ p.block) : (w.setCell p u).cell? a = some v := by
  rw [← h]
  exact World.cell?_of_block (Below.heap_setCell w p u a.block hb)

theorem TenP.set {b o d e : Nat} {v u : OpE} {W : World} (h : TenP b o d e v u W) {g i : Nat} {z : Value} (h1 : b ≠ g) (h2 : d ≠ g) : TenP b o d e v u (W.setCell ⟨g, i, none⟩ z) := by
  obtain ⟨a0, a1, a2, a3, a4, d0, d1, d2, d3, d4⟩ := h
  exact ⟨keep_cell a0 h1, keep_cell a1 h1, keep_cell a2 h1, keep_cell a3 h1, keep_cell a4 h1, keep_cell d0 h2, keep_cell d1 h2, keep_cell d2 h2, keep_cell d3 h2, keep_cell d4 h2⟩

theorem TenP.set5 {b o d e : Nat} {v u : OpE} {W : World} (h : TenP b o d e v u W) (g : Nat) (z : OpE) (h1 : b ≠ g) (h2 : d ≠ g) :
    TenP b o d e v u (((((W.setCell ⟨g, 0, none⟩ (.int .i64 z.kind)).setCell ⟨g, 1, none⟩ (.int .i64 z.pos)).setCell ⟨g, 2, none⟩ (.int .u8 z.ch)).setCell ⟨g, 3, none⟩ (.int .i64 z.cl)).setCell ⟨g, 4, none⟩ (.int .i64 z.sq)) :=
  ((((h.set h1 h2).set h1 h2).set h1 h2).set h1 h2).set h1 h2

/-- The forms of op, and the line, as far as they are made. -/
def fList (X : Nat → OpE) (k : Nat) : List OpE := (List.range (k + 1)).map X

def FRel (w wr : World) (b : Nat) (v : Value) (L : List OpE) : Prop := ∃ β, SO wr β v L ∧ (∀ g, β = some g → b ≤ g) ∧ Below w.heap.size w wr

abbrev zcells : Array Value := #[.int .i64 0, .int .i64 0, .int .u8 0, .int .i64 0, .int .i64 0]

/-- One more operation behind a row of the call's own, whatever was made in between. -/
theorem FRel.push {w wr V : World} {b : Nat} {v : Value} {L : List OpE} (h : FRel w wr b v L) (hV : Below wr.heap.size wr V) (hb : w.heap.size ≤ b) (hb2 : b ≤ wr.heap.size) (o : OpE) (hL : L.length ≤ 4096) :
    ∃ v' w3, (∀ ty, (Builtin.append_ #[24, 24] ty #[v, .slice (some ⟨V.heap.size, 0, none⟩) 1 1]).run Tryd.prog (V.alloc (.cells (opc o).toArray 23)) = .ok v' w3) ∧ FRel w w3 b v' (L ++ [o]) ∧
      (∀ k x, k < b → V.heap[k]? = some x → w3.heap[k]? = some x) ∧ Fr (fun k => b ≤ k) V w3 := by
  obtain ⟨β, hS, hβ, hB⟩ := h
  obtain ⟨v', w3, β', hr, g1, g2, g3⟩ := push_own (hS.below hV) o hL
  refine ⟨v', w3, hr, ⟨β', g1, ?_, (hB.trans (hV.mono hB.size)).trans (g3.below (Nat.le_trans hB.size hV.size) (fun k h => Nat.le_trans hb (hβ k h)))⟩, ?_, g3.mono (fun k hk h => hβ k h)⟩
  · intro g hg
    rcases g2 with g2 | ⟨g', g2, g4⟩
    · exact hβ g (g2 ▸ hg)
    · obtain rfl : g' = g := Option.some.inj (g2.symm.trans hg)
      have := hV.size
      omega
  · intro k x hk hx
    exact g3.keeps hx (fun h => by have := hβ k h; omega)

set_option maxHeartbeats 4000000 in
theorem rthrough_any (op : OpE) (a : Option Addr) (n c : Nat) (xs : List OpE) (f : Bool) (w : World) (hE : IsO w a n c xs) (hn : n ≤ 4096) :
    Calls Tryd.prog 14 #[op.val, .slice a n c, .bool f] w fun e w' => ∃ v, e = .returned (.tuple #[(throughP op xs f).1.val, v, .int .i64 0]) ∧ FRel w w' w.heap.size v (throughP op xs f).2 := by
  obtain ⟨i0, hi0, hz0, hz1, hz2⟩ := info_parts Tryd.infoO
  have i1 : ¬ (n : Int) > 4096 := by omega
  have hw : IntKind.i64.wrap ((n : Int) + 1) = (n : Int) + 1 := by rw [IntKind.wrap_i64]; omega
  have HE := hd hE
  have HL := hd hE.1
  clear hE
  have HO : Hid (cArr xs op f 0 = op) := by unfold cArr; rfl
  have HN : Hid (cArr xs op f n = (throughP op xs f).1) := by
    have := HL.out
    unfold cArr
    rw [List.take_of_length_le (by omega)]
    exact rfl
  have HS : Hid (∀ j (hx : j < xs.length), cArr xs op f (j + 1) = shiftP (cArr xs op f j) xs[j] (!f) ∧ (throughP op (xs.take (j + 1)) f).2 = (throughP op (xs.take j) f).2 ++ [shiftP xs[j] (cArr xs op f j) f]) := fun j hx =>
    ⟨cArr_next xs op f j hx, by rw [List.take_succ_eq_append_getElem hx, throughP_snoc]; rfl⟩
  have HT2 : Hid ((throughP op (xs.take n) f).2 = (throughP op xs f).2) := by
    have := HL.out
    rw [List.take_of_length_le (by omega)]
    exact rfl
  generalize cArr xs op f = X at *
  generalize (throughP op xs f).1 = R1 at *
  generalize (throughP op xs f).2 = R2 at *
  generalize hZ : (fun j => (throughP op (xs.take j) f).2) = Z at *
  obtain ⟨k, p, c', q, s⟩ := op
  obtain ⟨rk, rp, rc, rq, rs⟩ := R1
  simp only [OpE.val]
  go_enter Tryd.func14, Tryd.ntmps14
  go_wp2_with (first | (at_make; refine wpList_make_k _ rfl _ _ 24 rfl 23 i0 _ Tryd.underlying24 hi0 hz0 _ _ _ _ 0 (n + 1) rfl rfl (by go_num) (by first | go_num | (rw [hw]; go_num)) (by omega) (by rw [hz2]; omega) (by omega) ?_; intro w3 cur hg3 hcur hb3; obtain ⟨hp, hr, hB3, hz3⟩ := two_of hb3.out; obtain ⟨⟨p0, p1, p2, p3, p4⟩, -⟩ := cellsF hp; have hR3 := (row_made hg3.out (by have := hcur.out; rw [hz1] at this; exact this) (by omega)).2; simp only [World.size_alloc] at hR3; obtain ⟨v4, w4, β4, hap, hS4, hM4, hF4⟩ := push_own (wr := w3) (β := some (w.heap.size + 1 + 1)) (v := .slice (some ⟨w.heap.size + 1 + 1, 0, none⟩) 0 (n + 1)) (L := []) ⟨n + 1, rfl, hR3⟩ ⟨k, p, c', q, s⟩ (by simp); simp only [opc] at hap; have S4 := hd hS4; have M4 := hd hM4; have F4 := hd hF4; have HB3 := hd hB3; have HZ := hd hr; have HP := hd hp; have HZ3 := hd hz3; clear hS4 hM4 hF4 hB3 hr hp hz3 hR3 hg3 hcur hb3) | (at_builtin; refine wpList_append_k _ rfl _ _ 24 24 rfl _ _ rfl rfl (hap _) ?_; clear hap) | fail)
  have S0 : Hid (FRel w w4 (w.heap.size + 2) v4 (fList X 0)) := by
    refine ⟨β4, ?_, ?_, HB3.out.trans (F4.out.below HB3.out.size (fun k h => by have := Option.some.inj h; omega))⟩
    · have : fList X 0 = [] ++ [X 0] := rfl
      rw [this, HO.out]
      exact S4.out
    · intro g hg
      rcases M4.out with h | ⟨g', h, hl⟩
      · rw [h] at hg; have := Option.some.inj hg; omega
      · rw [h] at hg; have := Option.some.inj hg; have := HZ3.out; omega
  have Z0 : Hid (w4.heap[w.heap.size + 1]? = some (.cells #[.int .i64 0, .int .i64 0, .int .u8 0, .int .i64 0, .int .i64 0] 23 (0, 0))) := F4.out.keeps HZ.out (fun h => by have := Option.some.inj h; omega)
  clear S4 M4 F4 HZ HP HB3 HZ3 p0 p1 p2 p3 p4 HO
  have HI0 := hd hi0
  have HZ0 := hd hz0
  have HZ1 := hd hz1
  have HZ2 := hd hz2
  clear hi0 hz0 hz1 hz2
  go_loopw [9, 10] (fun v i wr => ∃ j : Nat, j ≤ n ∧ i = .int .i64 j ∧ Hid (FRel w wr (w.heap.size + 2) v (fList X j) ∧ wr.heap[w.heap.size + 1]? = some (.cells #[.int .i64 0, .int .i64 0, .int .u8 0, .int .i64 0, .int .i64 0] 23 (0, 0)))) (fun _ i _ => n - (intOf i).toNat)
  case atStart => exact ⟨0, Nat.zero_le _, rfl, ⟨S0.out, Z0.out⟩⟩
  case round =>
    obtain ⟨j, hj, rfl, hr⟩ := hrel
    clear S0 Z0
    obtain ⟨⟨β, hS, hβ, hB⟩, hZ⟩ := hr.out
    have hfl : (fList X j).length = j + 1 := by simp [fList]
    obtain ⟨av, cv, rfl, hI⟩ := hS.formN hfl
    by_cases hlt : j < n
    · have jx : j < xs.length := by have := HL.out; omega
      have jf : j < (fList X j).length := by omega
      have e1 : (fList X j)[j] = X j := by simp [fList]
      obtain ⟨bf, of, rfl, hbf⟩ := hI.addr (by omega)
      obtain ⟨y0, y1, y2, y3, y4⟩ := hI.at j (by omega) jf
      rw [e1] at y0 y1 y2 y3 y4
      have E2 := HE.out.below hB
      obtain ⟨bl, ol, rfl, hbl⟩ := E2.addr (by omega)
      obtain ⟨x0, x1, x2, x3, x4⟩ := E2.at j hlt jx
      obtain ⟨hA, -⟩ := HS.out j jx
      have HA := hd hA
      have i2 : (j : Int) < (n : Int) := by omega
      have i3 : (j : Int) < (j : Int) + 1 := by omega
      have NF : Hid (fList X j ++ [X (j + 1)] = fList X (j + 1)) := by
        unfold fList
        rw [List.range_succ (n := j + 1), List.map_append]
        exact rfl
      have FF := hd (show FRel w wr (w.heap.size + 2) (.slice (some ⟨bf, of, none⟩) (j + 1) cv) (fList X j) from ⟨β, hS, hβ, hB⟩)
      have ZZ := hd hZ
      have hcv := hI.2.1
      have hcv' := hI.2.2.1
      clear hr hS hβ hB hZ hI E2 hA hfl jf e1
      generalize xs[j] = x at *
      generalize X j = xj at *
      obtain ⟨uk, up, uc, uq, us⟩ := x
      obtain ⟨vk, vp, vc, vq, vs⟩ := xj
      generalize X (j + 1) = xn at *
      obtain ⟨ak, ap, ac, aq, as'⟩ := xn
      simp only [] at x0 x1 x2 x3 x4 y0 y1 y2 y3 y4
      go_wp2_with fail
      go_region_held3 (fun W => W.cell? ⟨bf, of + j * 5, none⟩ = some (.int .i64 vk) ∧ W.cell? ⟨bf, of + j * 5 + 1, none⟩ = some (.int .i64 vp) ∧ W.cell? ⟨bf, of + j * 5 + 2, none⟩ = some (.int .u8 vc) ∧ W.cell? ⟨bf, of + j * 5 + 3, none⟩ = some (.int .i64 vq) ∧ W.cell? ⟨bf, of + j * 5 + 4, none⟩ = some (.int .i64 vs) ∧ W.cell? ⟨bl, ol + j * 5, none⟩ = some (.int .i64 uk) ∧ W.cell? ⟨bl, ol + j * 5 + 1, none⟩ = some (.int .i64 up) ∧ W.cell? ⟨bl, ol + j * 5 + 2, none⟩ = some (.int .u8 uc) ∧ W.cell? ⟨bl, ol + j * 5 + 3, none⟩ = some (.int .i64 uq) ∧ W.cell? ⟨bl, ol + j * 5 + 4, none⟩ = some (.int .i64 us)) (first | (with_reducible exact TenP.out K6) | (with_reducible exact ⟨by assumption, by assumption, by assumption, by assumption, by assumption, by assumption, by assumption, by assumption, by assumption, by assumption⟩) | (go_keep; done)) (first | (go_at_call 28; refine (rshift_any ⟨vk, vp, vc, vq, vs⟩ ⟨uk, up, uc, uq, us⟩ (!f) _).mono ?_; rintro e w1 ⟨rfl, b1⟩; rw [← HA.out]; simp only [OpE.val]; have bb : Below wr.heap.size wr w1 := (by first | exact (below_drewN (Below.refl wr.heap.size wr) 1).trans b1 | exact (below_drewN ((Below.refl wr.heap.size wr).alloc (Nat.le_refl _) _) 1).trans (b1.mono (by simp))); have y0 := (bb.cell (p := ⟨bf, of + j * 5, none⟩) hbf).trans y0; have x0 := (bb.cell (p := ⟨bl, ol + j * 5, none⟩) hbl).trans x0; have y1 := (bb.cell (p := ⟨bf, of + j * 5 + 1, none⟩) hbf).trans y1; have x1 := (bb.cell (p := ⟨bl, ol + j * 5 + 1, none⟩) hbl).trans x1; have y2 := (bb.cell (p := ⟨bf, of + j * 5 + 2, none⟩) hbf).trans y2; have x2 := (bb.cell (p := ⟨bl, ol + j * 5 + 2, none⟩) hbl).trans x2; have y3 := (bb.cell (p := ⟨bf, of + j * 5 + 3, none⟩) hbf).trans y3; have x3 := (bb.cell (p := ⟨bl, ol + j * 5 + 3, none⟩) hbl).trans x3; have y4 := (bb.cell (p := ⟨bf, of + j * 5 + 4, none⟩) hbf).trans y4; have x4 := (bb.cell (p := ⟨bl, ol + j * 5 + 4, none⟩) hbl).trans x4; (first | (have hx : w1.heap[wr.heap.size]? = some (.cells #[.int .i64 0, .int .i64 0, .int .u8 0, .int .i64 0, .int .i64 0] 23 (0, 0)) := (b1.block _ (by simp)).trans (heap_alloc_new wr _); obtain ⟨⟨h0, h1, h2, h3, h4⟩, ⟨f0, f1, f2, f3, f4⟩⟩ := cellsF hx; have K6 := (show TenP bf (of + j * 5) bl (ol + j * 5) ⟨vk, vp, vc, vq, vs⟩ ⟨uk, up, uc, uq, us⟩ w1 from ⟨y0, y1, y2, y3, y4, x0, x1, x2, x3, x4⟩).set5 wr.heap.size ⟨ak, ap, ac, aq, as'⟩ (by omega) (by omega); have HXX := hd hx; clear hx) | skip); have BB := hd bb; clear b1 bb))
      · have bV : Below wr.heap.size wr (w1.alloc (.cells #[.int .i64 ak, .int .i64 ap, .int .u8 ac, .int .i64 aq, .int .i64 as'] 23)) := BB.out.alloc BB.out.size _
        obtain ⟨v5, w5, hap, hF5, hk5, -⟩ := FF.out.push bV (by omega) (by have := block_lt ZZ.out; omega) ⟨ak, ap, ac, aq, as'⟩ (by simp [fList]; omega)
        rw [NF.out] at hF5
        simp only [opc, World.size_alloc] at hap
        have Z5 : Hid (FRel w w5 (w.heap.size + 2) v5 (fList X (j + 1)) ∧ w5.heap[w.heap.size + 1]? = some (.cells zcells 23 (0, 0))) := ⟨hF5, hk5 _ _ (by omega) ((bV.block _ (block_lt ZZ.out)).trans ZZ.out)⟩
        clear bV hF5 hk5 FF ZZ y0 y1 y2 y3 y4 x0 x1 x2 x3 x4
        go_wp2_with (at_builtin; refine wpList_append_k _ rfl _ _ 24 24 rfl _ _ rfl rfl (hap _) ?_)
        exact ⟨⟨j + 1, by omega, by go_num, Z5⟩, by simp [intOf]; omega⟩
      · have bV : Below wr.heap.size wr (set5 w1 wr.heap.size 0 ak ap ac aq as') := BB.out.trans ((Fr.set5 w1 wr.heap.size 0 ak ap ac aq as').below BB.out.size (fun k h => by omega))
        obtain ⟨v5, w5, hap, hF5, hk5, -⟩ := FF.out.push bV (by omega) (by have := block_lt ZZ.out; omega) ⟨ak, ap, ac, aq, as'⟩ (by simp [fList]; omega)
        rw [NF.out] at hF5
        simp only [opc, set5_size] at hap
        unfold set5 at hap
        have Z5 : Hid (FRel w w5 (w.heap.size + 2) v5 (fList X (j + 1)) ∧ w5.heap[w.heap.size + 1]? = some (.cells zcells 23 (0, 0))) := ⟨hF5, hk5 _ _ (by omega) ((bV.block _ (block_lt ZZ.out)).trans ZZ.out)⟩
        clear bV hF5 hk5 FF ZZ y0 y1 y2 y3 y4 x0 x1 x2 x3 x4
        go_wp2_with (at_builtin; refine wpList_append_k _ rfl _ _ 24 24 rfl _ _ rfl rfl (hap _) ?_)
        exact ⟨⟨j + 1, by omega, by go_num, Z5⟩, by simp [intOf]; omega⟩
    · obtain rfl : j = n := by omega
      have hi0 := HI0.out
      have hz0 := HZ0.out
      have hz1 := HZ1.out
      have hz2 := HZ2.out
      have IE := hd hI
      have BE := hd hB
      have ZE := hd hZ
      have hcv := hI.2.1
      have hcv' := hI.2.2.1
      clear hr hS hβ hB hZ hI hfl
      go_wp2_with (first | (at_make; refine wpList_make_k _ rfl _ _ 24 rfl 23 i0 _ Tryd.underlying24 hi0 hz0 _ _ _ _ 0 j rfl rfl (by go_num) (by go_num) (by omega) (by rw [hz2]; omega) (by omega) ?_; intro w6 cur hg6 hcur hb6; have hR6 := (row_made hg6.out (by have := hcur.out; rw [hz1] at this; exact this) (by omega)).2; have B6 := hd hb6.out; have R6 := hd hR6; clear hR6 hg6 hcur hb6) | fail)
      obtain ⟨wE, hwE⟩ : ∃ wE, wE = wr := ⟨_, rfl⟩
      subst hwE
      have ZZ0 : Hid (Z 0 = []) := by rw [← hZ]; simp [throughP]; trivial
      have ZNX : Hid (∀ i (hx : i < xs.length), Z i ++ [shiftP xs[i] (X i) f] = Z (i + 1)) := fun i hx => by
        rw [← hZ]
        exact (HS.out i hx).2.symm
      have ZLN : Hid (∀ i, i ≤ j → (Z i).length = i) := fun i hi => by
        have := HL.out
        rw [← hZ]
        show (throughP _ (xs.take i) f).2.length = i
        rw [throughP_len]
        simp
        omega
      have ZN : Hid (Z j = R2) := by
        rw [← hZ]
        exact HT2.out
      have S6 : Hid (FRel w w6 wE.heap.size (.slice (some ⟨wE.heap.size, 0, none⟩) 0 j) (Z 0) ∧ Below wE.heap.size wE w6) := by
        rw [ZZ0.out]
        exact ⟨⟨some wE.heap.size, ⟨j, rfl, R6.out⟩, fun g hg => by have := Option.some.inj hg; omega, BE.out.trans (B6.out.mono BE.out.size)⟩, B6.out⟩
      clear R6 B6 ZZ0 HS HT2 hZ
      go_loopw [12, 13] (fun v i wr => ∃ m : Nat, m ≤ j ∧ i = .int .i64 m ∧ Hid (FRel w wr wE.heap.size v (Z m) ∧ Below wE.heap.size wE wr)) (fun _ i _ => j - (intOf i).toNat)
      case atStart => exact ⟨0, Nat.zero_le _, rfl, S6⟩
      case round =>
        obtain ⟨m, hm, rfl, hr⟩ := hrel
        clear S6
        obtain ⟨hF, hW⟩ := hr.out
        by_cases hlt2 : m < j
        · have jx : m < xs.length := by have := HL.out; omega
          have jf : m < (fList X j).length := by simp [fList]; omega
          have e1 : (fList X j)[m] = X m := by simp [fList]
          have I2 := IE.out.below hW
          obtain ⟨bf, of, rfl, hbf⟩ := I2.addr (by omega)
          obtain ⟨y0, y1, y2, y3, y4⟩ := I2.at m (by omega) jf
          rw [e1] at y0 y1 y2 y3 y4
          have E2 := HE.out.below (BE.out.trans (hW.mono BE.out.size))
          obtain ⟨bl, ol, rfl, hbl⟩ := E2.addr (by omega)
          obtain ⟨x0, x1, x2, x3, x4⟩ := E2.at m hlt2 jx
          have i2 : (m : Int) < (j : Int) := by omega
          have i3 : (m : Int) < (j : Int) + 1 := by omega
          have NF := hd (ZNX.out m jx)
          have ZL := hd (ZLN.out m (by omega))
          have FF := hd hF
          have BW := hd hW
          clear hr hF hW I2 E2 jf e1
          generalize hgx : xs[m] = x at *
          generalize hgy : X m = xj at *
          obtain ⟨uk, up, uc, uq, us⟩ := x
          obtain ⟨vk, vp, vc, vq, vs⟩ := xj
          obtain ⟨⟨ak, ap, ac, aq, as'⟩, hA⟩ : ∃ A, shiftP ⟨uk, up, uc, uq, us⟩ ⟨vk, vp, vc, vq, vs⟩ f = A := ⟨_, rfl⟩
          rw [hA] at NF
          have HA := hd hA
          clear hA hgx hgy
          simp only [] at x0 x1 x2 x3 x4 y0 y1 y2 y3 y4
          go_wp2_with fail
          go_region_held3 (fun W => W.cell? ⟨bl, ol + m * 5, none⟩ = some (.int .i64 uk) ∧ W.cell? ⟨bl, ol + m * 5 + 1, none⟩ = some (.int .i64 up) ∧ W.cell? ⟨bl, ol + m * 5 + 2, none⟩ = some (.int .u8 uc) ∧ W.cell? ⟨bl, ol + m * 5 + 3, none⟩ = some (.int .i64 uq) ∧ W.cell? ⟨bl, ol + m * 5 + 4, none⟩ = some (.int .i64 us) ∧ W.cell? ⟨bf, of + m * 5, none⟩ = some (.int .i64 vk) ∧ W.cell? ⟨bf, of + m * 5 + 1, none⟩ = some (.int .i64 vp) ∧ W.cell? ⟨bf, of + m * 5 + 2, none⟩ = some (.int .u8 vc) ∧ W.cell? ⟨bf, of + m * 5 + 3, none⟩ = some (.int .i64 vq) ∧ W.cell? ⟨bf, of + m * 5 + 4, none⟩ = some (.int .i64 vs)) (first | (with_reducible exact TenP.out K6) | (with_reducible exact ⟨by assumption, by assumption, by assumption, by assumption, by assumption, by assumption, by assumption, by assumption, by assumption, by assumption⟩) | (go_keep; done)) (first | (go_at_call 28; refine (rshift_any ⟨uk, up, uc, uq, us⟩ ⟨vk, vp, vc, vq, vs⟩ f _).mono ?_; rintro e w1 ⟨rfl, b1⟩; rw [HA.out]; simp only [OpE.val]; have bb : Below wr.heap.size wr w1 := (by first | exact (below_drewN (Below.refl wr.heap.size wr) 1).trans b1 | exact (below_drewN ((Below.refl wr.heap.size wr).alloc (Nat.le_refl _) _) 1).trans (b1.mono (by simp))); have y0 := (bb.cell (p := ⟨bf, of + m * 5, none⟩) hbf).trans y0; have x0 := (bb.cell (p := ⟨bl, ol + m * 5, none⟩) hbl).trans x0; have y1 := (bb.cell (p := ⟨bf, of + m * 5 + 1, none⟩) hbf).trans y1; have x1 := (bb.cell (p := ⟨bl, ol + m * 5 + 1, none⟩) hbl).trans x1; have y2 := (bb.cell (p := ⟨bf, of + m * 5 + 2, none⟩) hbf).trans y2; have x2 := (bb.cell (p := ⟨bl, ol + m * 5 + 2, none⟩) hbl).trans x2; have y3 := (bb.cell (p := ⟨bf, of + m * 5 + 3, none⟩) hbf).trans y3; have x3 := (bb.cell (p := ⟨bl, ol + m * 5 + 3, none⟩) hbl).trans x3; have y4 := (bb.cell (p := ⟨bf, of + m * 5 + 4, none⟩) hbf).trans y4; have x4 := (bb.cell (p := ⟨bl, ol + m * 5 + 4, none⟩) hbl).trans x4; (first | (have hx : w1.heap[wr.heap.size]? = some (.cells #[.int .i64 0, .int .i64 0, .int .u8 0, .int .i64 0, .int .i64 0] 23 (0, 0)) := (b1.block _ (by simp)).trans (heap_alloc_new wr _); obtain ⟨⟨h0, h1, h2, h3, h4⟩, ⟨f0, f1, f2, f3, f4⟩⟩ := cellsF hx; have K6 := (show TenP bl (ol + m * 5) bf (of + m * 5) ⟨uk, up, uc, uq, us⟩ ⟨vk, vp, vc, vq, vs⟩ w1 from ⟨x0, x1, x2, x3, x4, y0, y1, y2, y3, y4⟩).set5 wr.heap.size ⟨ak, ap, ac, aq, as'⟩ (by omega) (by omega); have HXX := hd hx; clear hx) | skip); have BB := hd bb; clear b1 bb))
          · have bV : Below wr.heap.size wr (w1.alloc (.cells #[.int .i64 ak, .int .i64 ap, .int .u8 ac, .int .i64 aq, .int .i64 as'] 23)) := BB.out.alloc BB.out.size _
            obtain ⟨v5, w5, hap, hF5, hk5, hFr5⟩ := FF.out.push bV (by have := BE.out.size; omega) BW.out.size ⟨ak, ap, ac, aq, as'⟩ (by rw [ZL.out]; omega)
            rw [NF.out] at hF5
            simp only [opc, World.size_alloc] at hap
            have Z5 : Hid (FRel w w5 wE.heap.size v5 (Z (m + 1)) ∧ Below wE.heap.size wE w5) := ⟨hF5, (BW.out.trans (bV.mono BW.out.size)).trans (hFr5.below (Nat.le_trans BW.out.size bV.size) (fun k h => h))⟩
            clear bV hF5 hk5 hFr5 FF BW y0 y1 y2 y3 y4 x0 x1 x2 x3 x4
            go_wp2_with (at_builtin; refine wpList_append_k _ rfl _ _ 24 24 rfl _ _ rfl rfl (hap _) ?_)
            exact ⟨⟨m + 1, by omega, by go_num, Z5⟩, by simp [intOf]; omega⟩
          · have bV : Below wr.heap.size wr (set5 w1 wr.heap.size 0 ak ap ac aq as') := BB.out.trans ((Fr.set5 w1 wr.heap.size 0 ak ap ac aq as').below BB.out.size (fun k h => by omega))
            obtain ⟨v5, w5, hap, hF5, hk5, hFr5⟩ := FF.out.push bV (by have := BE.out.size; omega) BW.out.size ⟨ak, ap, ac, aq, as'⟩ (by rw [ZL.out]; omega)
            rw [NF.out] at hF5
            simp only [opc, set5_size] at hap
            unfold set5 at hap
            have Z5 : Hid (FRel w w5 wE.heap.size v5 (Z (m + 1)) ∧ Below wE.heap.size wE w5) := ⟨hF5, (BW.out.trans (bV.mono BW.out.size)).trans (hFr5.below (Nat.le_trans BW.out.size bV.size) (fun k h => h))⟩
            clear bV hF5 hk5 hFr5 FF BW y0 y1 y2 y3 y4 x0 x1 x2 x3 x4
            go_wp2_with (at_builtin; refine wpList_append_k _ rfl _ _ 24 24 rfl _ _ rfl rfl (hap _) ?_)
            exact ⟨⟨m + 1, by omega, by go_num, Z5⟩, by simp [intOf]; omega⟩
        · obtain rfl : m = j := by omega
          have jf : m < (fList X m).length := by simp [fList]
          have e1 : (fList X m)[m] = ⟨rk, rp, rc, rq, rs⟩ := by
            have : (fList X m)[m] = X m := by simp [fList]
            rw [this, HN.out]
          have I2 := IE.out.below hW
          obtain ⟨bf, of, rfl, hbf⟩ := I2.addr (by omega)
          obtain ⟨y0, y1, y2, y3, y4⟩ := I2.at m (by omega) jf
          rw [e1] at y0 y1 y2 y3 y4
          simp only [] at y0 y1 y2 y3 y4
          have z6 : wr.heap[w.heap.size + 1]? = some (.cells zcells 23 (0, 0)) := (hW.block _ (block_lt ZE.out)).trans ZE.out
          obtain ⟨⟨z0, z1, z2, z3, z4⟩, ⟨f0, f1, f2, f3, f4⟩⟩ := cellsF z6
          have i3 : (m : Int) < (m : Int) + 1 := by omega
          have zl := block_lt ZE.out
          have G : Hid (∀ W v, FRel w wr wE.heap.size v (Z m) → Fr (· = w.heap.size + 1) wr W → FRel w W w.heap.size v R2) := by
            rintro W v ⟨β, h1, h2, h3⟩ h4
            rw [ZN.out] at h1
            exact ⟨β, h1.fr h4 (fun g hg h => by have := h2 g hg; omega), fun g hg => by have := h2 g hg; omega, h3.trans (h4.below h3.size (fun k h => by omega))⟩
          have FF := hd hF
          clear hr hF hW I2 e1 jf z6
          go_wp2
          refine bodyPost_ret (v := .tuple #[.agg #[.int .i64 rk, .int .i64 rp, .int .u8 rc, .int .i64 rq, .int .i64 rs], u12, .int .i64 0]) (by simp [results, Tryd.results14, go_sem, z0, z1, z2, z3, z4]) rfl ?_
          exact ⟨_, rfl, G.out _ _ FF.out (Fr.set5 wr (w.heap.size + 1) 0 rk rp rc rq rs)⟩

set_option maxHeartbeats 4000000 in
theorem rthrough_bad (op : OpE) (a : Option Addr) (n c : Nat) (f : Bool) (w : World) (hn : 4096 < n) :
    Calls Tryd.prog 14 #[op.val, .slice a n c, .bool f] w fun e w' => e = .returned (.tuple #[zop.val, .slice none 0 0, .int .i64 50]) ∧ Below w.heap.size w w' := by
  obtain ⟨k, p, c', q, s⟩ := op
  have i1 : (n : Int) > 4096 := by omega
  simp only [OpE.val, zop]
  go_enter Tryd.func14, Tryd.ntmps14
  go_wp2
  refine bodyPost_ret (v := .tuple #[.agg #[.int .i64 0, .int .i64 0, .int .u8 0, .int .i64 0, .int .i64 0], .slice none 0 0, .int .i64 50]) (by simp [results, Tryd.results14, go_sem]) rfl ?_
  exact ⟨rfl, ((Below.refl _ _).alloc (Nat.le_refl _) _).alloc (by simp) _⟩

theorem FRel.form {w wr : World} {b : Nat} {v : Value} {L : List OpE} {n : Nat} (h : FRel w wr b v L) (hn : L.length = n) : ∃ a c, v = .slice a n c ∧ IsO wr a n c L ∧ Below w.heap.size w wr := by
  obtain ⟨β, h1, h2, h3⟩ := h
  obtain ⟨a, c, hv, hI⟩ := h1.formN hn
  exact ⟨a, c, hv, hI, h3⟩

theorem num_any (e : Int) (w : World) : Calls Tryd.prog 11 #[.int .i64 e] w fun x w' => x = .returned (.int .i64 e) ∧ w' = w := by
  go_enter Tryd.func11, Tryd.ntmps11
  go_wp2
  go_ret
  exact ⟨rfl, rfl⟩

end Go.Proofs.YtmkgkgdngjmcmabDoor
