/-
  Texts put together: Ik Il Iq.
-/
import Derived.Test.YtfhghijefjhehaaDoorIj
import Derived.Test.YtfhghijefjhehaaDoorIf
import Derived.Laws.MakeOwn
/-! Ik -/
namespace Go.Proofs.YtfhghijefjhehaaDoor
open Go.RowKit
set_option linter.unusedVariables false

/-- What an append leaves, seen from u. -/
def PP {α : Type} (f : α → List Value) (k : Nat) (e : TypeId) (u : World) (β : Option Nat) (xs : List α) (v : Value) (u' : World) : Prop := ∃ w1, Below u.heap.size u w1 ∧ NowF f k w1 u' e β v xs

section
variable {α : Type} {f : α → List Value} {k : Nat} {e : TypeId} {u u' : World} {β : Option Nat} {xs : List α} {v : Value}
theorem PP.block (h : PP f k e u β xs v u') {b : Nat} (hb : b < u.heap.size) (hn : β ≠ some b) : u'.heap[b]? = u.heap[b]? := by
  obtain ⟨w1, hB, g', -, hN⟩ := h
  have h1 := hB.block b hb
  have hb1 : b < w1.heap.size := Nat.lt_of_lt_of_le hb hB.size
  rcases hN with ⟨a, hF⟩ | ⟨a, hF⟩
  · exact (hF.block b hb1 (fun e => hn (by rw [e]; exact a))).trans h1
  · exact (hF.block b hb1 (fun e => e)).trans h1
theorem PP.cell (h : PP f k e u β xs v u') {p : Addr} {y : Value} (hb : p.block < u.heap.size) (hn : β ≠ some p.block) (hy : u.cell? p = some y) : u'.cell? p = some y := (World.cell?_of_block (h.block hb hn)).trans hy
theorem PP.form (h : PP f k e u β xs v u') : ∃ A n c, v = .slice A n c := by
  obtain ⟨w1, hB, g', hs, hN⟩ := h
  obtain ⟨A, c, rfl, -, -⟩ := SF.form hs
  exact ⟨_, _, _, rfl⟩
theorem PP.run (hz : Sz f k) {P : Program} (t : TypeId) (i : TypeInfo) (z : Value) (bytes : Nat) (ht : P.underlying t = some (.slice e)) (hi : P.info? e = some i) (hzo : i.zero = some z) (hsz : i.size = k) (hzs : z.cells.size = k) (hby : i.bytes = bytes) {xs : List α} {vo : Value} (hv : SF f k u e β vo xs) (y : α) {u1 : World} (hB : Below u.heap.size u u1) {g : Nat}
    (hg : u1.heap[g]? = some (.cells (f y).toArray e (0, 0))) (hb : ((xs.length + 1) + (xs.length + 1) / 4 + 192) * bytes ≤ 281474976710656) (hk : 0 < bytes) :
    ∃ v' u', (∀ ty, (Builtin.append_ #[t, t] ty #[vo, .slice (some ⟨g, 0, none⟩) 1 1]).run P u1 = .ok v' u') ∧ PP f k e u β (xs ++ [y]) v' u' := by
  have hv1 : SF f k u1 e β vo xs := hv.fr (S := fun _ => False) (Fr.of_below hB) (fun _ _ h => h)
  have h63 : xs.length + 1 ≤ 9223372036854775807 := by
    have : xs.length + 1 ≤ ((xs.length + 1) + (xs.length + 1) / 4 + 192) * bytes := Nat.le_trans (by omega) (Nat.le_mul_of_pos_right _ hk)
    omega
  have key : ∀ ty, ∃ v' w', (Builtin.append_ #[t, t] ty #[vo, .slice (some ⟨g, 0, none⟩) 1 1]).run P u1 = .ok v' w' ∧ NowF f k u1 w' e β v' (xs ++ [y]) := fun ty =>
    run_pushF hz u1 t ty e i z bytes ht hi hzo hsz hzs hby β vo xs hv1 ⟨g, 0, none⟩ 1 1 [y] rfl (fun j v hj => by
      rw [cl_one] at hj
      rw [add_lit, cell_row hg, Nat.zero_add]
      simpa using hj) (by omega) h63 hb
  obtain ⟨v', w', hr, hN⟩ := key 0
  refine ⟨v', w', fun ty => ?_, u1, hB, hN⟩
  obtain ⟨v2, w2, hr2, -⟩ := key ty
  have : (Builtin.append_ #[t, t] ty #[vo, .slice (some ⟨g, 0, none⟩) 1 1]).run P u1 = (Builtin.append_ #[t, t] 0 #[vo, .slice (some ⟨g, 0, none⟩) 1 1]).run P u1 := rfl
  rw [this]
  exact hr
end

section
variable {w : World} {x : Nat} {C : Int} {vL vE : Value} {S : Nat → Ls} {L : Nat → Option Nat}
theorem TL.pushN (h : TL w x C vL vE S L) {i : Nat} (hi : i < 195) {l : List Nat} {v : Value} {u' : World} (hP : PP nic 1 3 w (L i) l v u') : ∃ g', TL (u'.setCell ⟨x, 3 + i, none⟩ v) x C vL vE (upd S i (.ns l)) (upd L i (some g')) ∧ Fr (fun k => x ≤ k) w (u'.setCell ⟨x, 3 + i, none⟩ v) := by
  obtain ⟨w1, hB, g', hs, hN⟩ := hP
  obtain ⟨h1, h2, -⟩ := h.put hB hi (s' := .ns l) hs hN
  refine ⟨_, h1, h2.mono fun k _ hk => ?_⟩
  rcases hk with rfl | hk
  · exact Nat.le_refl _
  · exact Nat.le_of_lt (h.far i k hi hk)
theorem TL.pushD (h : TL w x C vL vE S L) {i : Nat} (hi : i < 195) {l : List Dd} {v : Value} {u' : World} (hP : PP ddc 9 89 w (L i) l v u') : ∃ g', TL (u'.setCell ⟨x, 3 + i, none⟩ v) x C vL vE (upd S i (.ds l)) (upd L i (some g')) ∧ Fr (fun k => x ≤ k) w (u'.setCell ⟨x, 3 + i, none⟩ v) := by
  obtain ⟨w1, hB, g', hs, hN⟩ := hP
  obtain ⟨h1, h2, -⟩ := h.put hB hi (s' := .ds l) hs hN
  refine ⟨_, h1, h2.mono fun k _ hk => ?_⟩
  rcases hk with rfl | hk
  · exact Nat.le_refl _
  · exact Nat.le_of_lt (h.far i k hi hk)
/-- A block that is no row of the tale. -/
theorem TL.not_row (h : TL w x C vL vE S L) {i b : Nat} (hi : i < 195) (hb : w.heap.size ≤ b) : L i ≠ some b := fun e => by have := h.old hi e; omega
theorem TL.not_x (h : TL w x C vL vE S L) {i : Nat} (hi : i < 195) : L i ≠ some x := fun e => by have := h.far i x hi e; omega
end

theorem Tryd.infoI : (Tryd.prog.info? 3).map (fun i => (i.zero, i.size, i.bytes)) = some (some (.int .i64 0), 1, 8) := by kernel_rfl
theorem Tryd.infoDd : (Tryd.prog.info? 89).map (fun i => (i.zero, i.size, i.bytes)) = some (some (.agg #[.int .i64 0, .int .i64 0, .int .i64 0, .int .u8 0, .int .i64 0, .int .i64 0, .int .u8 0, .int .i64 0, .int .i64 0]), 9, 72) := by kernel_rfl

theorem run_ints {u : World} {β : Option Nat} {l : List Nat} {vo : Value} (hv : SF nic 1 u 3 β vo l) (y : Nat) {u1 : World} (hB : Below u.heap.size u u1) {g : Nat} (hg : u1.heap[g]? = some (.cells #[.int .i64 (y : Int)] 3 (0, 0))) (hb : l.length ≤ 17592186044416) :
    ∃ v' u', (∀ ty, (Builtin.append_ #[34, 34] ty #[vo, .slice (some ⟨g, 0, none⟩) 1 1]).run Tryd.prog u1 = .ok v' u') ∧ PP nic 1 3 u β (l ++ [y]) v' u' := by
  cases hq : Tryd.prog.info? 3 with
  | none => have := Tryd.infoI; rw [hq] at this; cases this
  | some i =>
    have h := Tryd.infoI
    rw [hq] at h
    simp only [Option.map_some, Option.some.injEq, Prod.mk.injEq] at h
    exact PP.run szN 34 i _ 8 Tryd.underlying34 hq h.1 h.2.1 (by rfl) h.2.2 hv y hB hg (by omega) (by omega)
theorem run_deeds {u : World} {β : Option Nat} {l : List Dd} {vo : Value} (hv : SF ddc 9 u 89 β vo l) (y : Dd) {u1 : World} (hB : Below u.heap.size u u1) {g : Nat} (hg : u1.heap[g]? = some (.cells (ddc y).toArray 89 (0, 0))) (hb : l.length ≤ 2199023255552) :
    ∃ v' u', (∀ ty, (Builtin.append_ #[66, 66] ty #[vo, .slice (some ⟨g, 0, none⟩) 1 1]).run Tryd.prog u1 = .ok v' u') ∧ PP ddc 9 89 u β (l ++ [y]) v' u' := by
  cases hq : Tryd.prog.info? 89 with
  | none => have := Tryd.infoDd; rw [hq] at this; cases this
  | some i =>
    have h := Tryd.infoDd
    rw [hq] at h
    simp only [Option.map_some, Option.some.injEq, Prod.mk.injEq] at h
    exact PP.run szD 66 i _ 72 Tryd.underlying66 hq h.1 h.2.1 (by rfl) h.2.2 hv y hB hg (by omega) (by omega)

end Go.Proofs.YtfhghijefjhehaaDoor

/-! Il -/
namespace Go.Proofs.YtfhghijefjhehaaDoor
open Go.RowKit
set_option linter.unusedVariables false

theorem set3 (u : World) (g : Nat) (a b c : Value) : Fr (fun k => k = g) u (((u.setCell ⟨g, 6, none⟩ a).setCell ⟨g, 7, none⟩ b).setCell ⟨g, 8, none⟩ c) := by
  have h1 : Fr (fun k => k = g) u (u.setCell ⟨g, 6, none⟩ a) := Fr.setCell _ _ _ rfl
  have h2 : Fr (fun k => k = g) (u.setCell ⟨g, 6, none⟩ a) ((u.setCell ⟨g, 6, none⟩ a).setCell ⟨g, 7, none⟩ b) := Fr.setCell _ _ _ rfl
  have h3 : Fr (fun k => k = g) ((u.setCell ⟨g, 6, none⟩ a).setCell ⟨g, 7, none⟩ b) (((u.setCell ⟨g, 6, none⟩ a).setCell ⟨g, 7, none⟩ b).setCell ⟨g, 8, none⟩ c) := Fr.setCell _ _ _ rfl
  exact (h1.trans h2).trans h3
theorem set3_row {u : World} {g : Nat} {t : TypeId} {v0 v1 v2 v3 v4 v5 v6 v7 v8 : Value} (h : u.heap[g]? = some (.cells #[v0, v1, v2, v3, v4, v5, v6, v7, v8] t (0, 0))) (a b c : Value) : (((u.setCell ⟨g, 6, none⟩ a).setCell ⟨g, 7, none⟩ b).setCell ⟨g, 8, none⟩ c).heap[g]? = some (.cells #[v0, v1, v2, v3, v4, v5, a, b, c] t (0, 0)) := by
  have := set_row (set_row (set_row h 6 a) 7 b) 8 c
  simpa using this

def El := Int × Int × Int

/-- The texts of the events. -/
def IsX (w : World) (evs : List Ev) (A : Nat → Option Addr) (D : Nat → List El) : Prop := ∀ j (h : j < evs.length), (D j).length = evs[j].len ∧ (0 < (D j).length → ∃ b off, A j = some ⟨b, off, none⟩ ∧ b < w.heap.size ∧ ∀ q (hq : q < (D j).length), w.cell? ⟨b, off + q * 3, none⟩ = some (.int .u8 (D j)[q].1) ∧ w.cell? ⟨b, off + q * 3 + 1, none⟩ = some (.int .i64 (D j)[q].2.1) ∧ w.cell? ⟨b, off + q * 3 + 2, none⟩ = some (.int .i64 (D j)[q].2.2))
theorem IsX.below {w w' : World} {evs : List Ev} {A : Nat → Option Addr} {D : Nat → List El} {B : Nat} (h : IsX w evs A D) (hb : Below B w w') (hB : w.heap.size ≤ B) : IsX w' evs A D := by
  intro j hj
  obtain ⟨h1, h2⟩ := h j hj
  refine ⟨h1, fun hl => ?_⟩
  obtain ⟨b, off, e, hlt, hc⟩ := h2 hl
  refine ⟨b, off, e, Nat.lt_of_lt_of_le hlt hb.size, fun q hq => ?_⟩
  have k : ∀ m, w'.cell? ⟨b, m, none⟩ = w.cell? ⟨b, m, none⟩ := fun m => hb.cell (p := ⟨b, m, none⟩) (show b < B by omega)
  simp only [k]
  exact hc q hq

section
variable {w : World} {x : Nat} {C : Int} {vL vE : Value} {S : Nat → Ls} {L : Nat → Option Nat}

set_option maxRecDepth 100000 in
set_option maxHeartbeats 8000000 in
theorem show_idle (h : TL w x C vL vE S L) (i cN : Nat) (hc : cN < 65) (l : List Nat) (hl : S (65 + cN) = .ns l) (hbd : l.length ≤ 17592186044416) (st ha ma : Int) (ad : Option Addr) (nd cd : Nat) :
    Calls Tryd.prog 27 #[.pointer (some ⟨x, 0, none⟩), .int .i64 i, .agg #[.int .i64 st, .int .i64 (cN : Int), .int .i64 ha, .int .i64 ma, .int .i64 0, .int .i64 0, .int .u8 0, .int .i64 0, .int .i64 0, .slice ad nd cd]] w fun e w' => e = .returned (.tuple #[]) ∧ (∃ L', TL w' x C vL vE (upd S (65 + cN) (.ns (l ++ [i]))) L') ∧ Fr (fun k => x ≤ k) w w' := by
  have hb : Below w.heap.size w (w.alloc (.cells #[.int .i64 st, .int .i64 (cN : Int), .int .i64 ha, .int .i64 ma, .int .i64 0, .int .i64 0, .int .u8 0, .int .i64 0, .int .i64 0, .slice ad nd cd] 50)) := (Below.refl _ _).alloc (Nat.le_refl _) _
  have hE := hd (heap_alloc_new w (.cells #[.int .i64 st, .int .i64 (cN : Int), .int .i64 ha, .int .i64 ma, .int .i64 0, .int .i64 0, .int .u8 0, .int .i64 0, .int .i64 0, .slice ad nd cd] 50))
  have HB := hd hb
  have HT := hd (h.below hb)
  have NR := hd (fun j (hj : j < 195) => h.not_row (b := w.heap.size) hj (Nat.le_refl _))
  have HSL := hd hl
  have HBD := hd hbd
  have HXl := hd h.lt
  have CK := hd (fun W => hmakes_any st (cN : Int) ha ma 0 0 0 0 0 ad nd cd W)
  clear hb h hl hbd
  have c65 : (cN : Int) < 65 := by omega
  go_enter Tryd.func27, Tryd.ntmps27
  go_upto_region 1 with fail
  generalize w.alloc (.cells #[.int .i64 st, .int .i64 (cN : Int), .int .i64 ha, .int .i64 ma, .int .i64 0, .int .i64 0, .int .u8 0, .int .i64 0, .int .i64 0, .slice ad nd cd] 50) = w1 at *
  have e0 := cell_row hE.out 0; have e1 := cell_row hE.out 1; have e2 := cell_row hE.out 2; have e3 := cell_row hE.out 3; have e4 := cell_row hE.out 4; have e5 := cell_row hE.out 5; have e6 := cell_row hE.out 6; have e7 := cell_row hE.out 7; have e8 := cell_row hE.out 8; have e9 := cell_row hE.out 9
  simp at e0 e1 e2 e3 e4 e5 e6 e7 e8 e9
  have lE := block_lt hE.out
  go_wp2_with fail
  refine (CK.out _).mono ?_
  rintro e u ⟨rfl, bu⟩
  have HTu := hd (HT.out.below bu)
  have BU := hd (HB.out.trans (bu.mono HB.out.size))
  have k1 := (bu.cell (p := ⟨w.heap.size, 1, none⟩) lE).trans e1
  have lu := Nat.lt_of_lt_of_le lE bu.size
  have hzz : zoB ⟨0, 0, 0, 0, 0⟩ = true := rfl
  rw [hzz]
  simp only [Bool.not_true]
  clear bu HT hE CK
  go_upto_region 6 with fail
  obtain ⟨v, hv, hs⟩ := HTu.out.slot (65 + cN) (by omega)
  rw [show 3 + (65 + cN) = 68 + cN from by omega] at hv
  rw [HSL.out] at hs
  obtain ⟨oa, oc', rfl, -, -⟩ := SF.form hs
  have HSF := hd hs
  have HV := hd hv
  clear hs hv
  refine pushS _ _ x w.heap.size cN l.length oc' oa i rfl rfl rfl (by simp) c65 (PP nic 1 3 u (L (65 + cN)) (l ++ [i])) (fun u1 hB => ⟨(hB.cell (p := ⟨w.heap.size, 1, none⟩) lu).trans k1, (hB.cell (p := ⟨x, 68 + cN, none⟩) HTu.out.lt).trans HV.out⟩) (fun v u1 hP => ⟨hP.cell (p := ⟨w.heap.size, 1, none⟩) lu (NR.out _ (by omega)) k1, hP.cell (p := ⟨x, 68 + cN, none⟩) HTu.out.lt (HTu.out.not_x (by omega)) HV.out⟩) (fun u1 g hB hg => run_ints HSF.out i hB hg HBD.out) (fun v u1 hP => ⟨hP.form, by
    obtain ⟨cur, hh, -⟩ := HTu.out.blk
    exact frozen_row ((hP.block HTu.out.lt (HTu.out.not_x (by omega))).trans hh) _⟩) ?_
  intro V' v' u1 hP
  have HP := hd (HTu.out.pushN (by omega) hP)
  rw [show 3 + (65 + cN) = 68 + cN from by omega] at HP
  clear hP
  simp only [slpushS, List.getD_cons_zero, List.getD_cons_succ, List.range, List.range.loop, List.map_cons, List.map_nil, puts, List.foldl_cons, List.foldl_nil, Act.put, List.setIfInBounds_toArray, List.set_cons_succ, List.set_cons_zero]
  go_wp2
  (try simp only [Exit.inBlock, Exit.then])
  refine bodyPost_end (results_none rfl _ _ _) rfl ?_
  obtain ⟨g', h1, h2⟩ := HP.out
  exact ⟨rfl, ⟨_, h1⟩, (Fr.of_below (S := fun k => x ≤ k) BU.out).trans h2⟩

set_option maxRecDepth 100000 in
set_option maxHeartbeats 8000000 in
theorem show_made {aE : Option Addr} {nE cE : Nat} {evs : List Ev} {A : Nat → Option Addr} {K : Nat → Nat} {D : Nat → List El} (h : TL w x C vL (.slice aE nE cE) S L) (hV : IsV w aE nE evs A K) (hX : IsX w evs A D) (i cN : Nat) (hc : cN < 65) (l : List Nat) (hl : S (65 + cN) = .ns l) (hbd : l.length ≤ 17592186044416) (d : List Dd) (hdl : S (130 + cN) = .ds d) (hdb : d.length ≤ 2199023255552) (hll : ∀ k ∈ l, k < evs.length)
    (st ha ma ok op oc ol os : Int) (ad : Option Addr) (nd cd : Nat) (hno : zoB ⟨ok, op, oc, ol, os⟩ = false) (ec el es : Int) (hel : (ok = 2 ∧ ∃ j pN, l.getLast? = some j ∧ op = ((pN : Nat) : Int) ∧ (D j)[pN]? = some (ec, el, es)) ∨ (ok ≠ 2 ∧ ec = oc ∧ el = ol ∧ es = os)) :
    Calls Tryd.prog 27 #[.pointer (some ⟨x, 0, none⟩), .int .i64 i, .agg #[.int .i64 st, .int .i64 (cN : Int), .int .i64 ha, .int .i64 ma, .int .i64 ok, .int .i64 op, .int .u8 oc, .int .i64 ol, .int .i64 os, .slice ad nd cd]] w fun e w' => e = .returned (.tuple #[]) ∧ (∃ L', TL w' x C vL (.slice aE nE cE) (upd (upd S (130 + cN) (.ds (d ++ [⟨⟨ha, ⟨ok, op, oc, ol, os⟩⟩, ec, el, es⟩]))) (65 + cN) (.ns (l ++ [i]))) L') ∧ Fr (fun k => x ≤ k) w w' := by
  have hb : Below w.heap.size w (w.alloc (.cells #[.int .i64 st, .int .i64 (cN : Int), .int .i64 ha, .int .i64 ma, .int .i64 ok, .int .i64 op, .int .u8 oc, .int .i64 ol, .int .i64 os, .slice ad nd cd] 50)) := (Below.refl _ _).alloc (Nat.le_refl _) _
  have hE := hd (heap_alloc_new w (.cells #[.int .i64 st, .int .i64 (cN : Int), .int .i64 ha, .int .i64 ma, .int .i64 ok, .int .i64 op, .int .u8 oc, .int .i64 ol, .int .i64 os, .slice ad nd cd] 50))
  have HB := hd hb
  have HT := hd (h.below hb)
  have NR := hd (fun j (hj : j < 195) => h.not_row (b := w.heap.size) hj (Nat.le_refl _))
  have NRW := hd (fun j b (hj : j < 195) (hb : w.heap.size ≤ b) => h.not_row (b := b) hj hb)
  have HSL : Hid ((upd S (130 + cN) (.ds (d ++ [⟨⟨ha, ⟨ok, op, oc, ol, os⟩⟩, ec, el, es⟩]))) (65 + cN) = .ns l) := by
    unfold Hid
    rw [upd_ne _ _ (by omega)]
    exact hl
  have HSl := hd hl
  have HSD := hd hdl
  have HBD := hd hbd
  have HDB := hd hdb
  have HLL := hd hll
  have HEL := hd hel
  have HC := hd hc
  have HVw := hd hV
  have HXw := hd hX
  have HXl := hd h.lt
  have CK := hd (fun W => hmakes_any st (cN : Int) ha ma ok op oc ol os ad nd cd W)
  have CE := hd (fun W => editOf_any st (cN : Int) ha ma ok op oc ol os ad nd cd W)
  have CLm := hd (fun W => elemOf_any ok op oc ol os W)
  clear hb h hl hbd hdl hdb hll hel hV hX
  have c65 : (cN : Int) < 65 := by omega
  go_enter Tryd.func27, Tryd.ntmps27
  go_upto_region 1 with fail
  generalize w.alloc (.cells #[.int .i64 st, .int .i64 (cN : Int), .int .i64 ha, .int .i64 ma, .int .i64 ok, .int .i64 op, .int .u8 oc, .int .i64 ol, .int .i64 os, .slice ad nd cd] 50) = w1 at *
  have e0 := cell_row hE.out 0; have e1 := cell_row hE.out 1; have e2 := cell_row hE.out 2; have e3 := cell_row hE.out 3; have e4 := cell_row hE.out 4; have e5 := cell_row hE.out 5; have e6 := cell_row hE.out 6; have e7 := cell_row hE.out 7; have e8 := cell_row hE.out 8; have e9 := cell_row hE.out 9
  simp at e0 e1 e2 e3 e4 e5 e6 e7 e8 e9
  have lE := block_lt hE.out
  go_wp2_with fail
  refine (CK.out _).mono ?_
  rintro e u ⟨rfl, bu⟩
  have BU1 := hd bu
  have HTu := hd (HT.out.below bu)
  have BU := hd (HB.out.trans (bu.mono HB.out.size))
  have k0 := (bu.cell (p := ⟨w.heap.size, 0, none⟩) lE).trans e0; have k1 := (bu.cell (p := ⟨w.heap.size, 1, none⟩) lE).trans e1; have k2 := (bu.cell (p := ⟨w.heap.size, 2, none⟩) lE).trans e2; have k3 := (bu.cell (p := ⟨w.heap.size, 3, none⟩) lE).trans e3; have k4 := (bu.cell (p := ⟨w.heap.size, 4, none⟩) lE).trans e4; have k5 := (bu.cell (p := ⟨w.heap.size, 5, none⟩) lE).trans e5; have k6 := (bu.cell (p := ⟨w.heap.size, 6, none⟩) lE).trans e6; have k7 := (bu.cell (p := ⟨w.heap.size, 7, none⟩) lE).trans e7; have k8 := (bu.cell (p := ⟨w.heap.size, 8, none⟩) lE).trans e8; have k9 := (bu.cell (p := ⟨w.heap.size, 9, none⟩) lE).trans e9
  clear e0 e1 e2 e3 e4 e5 e6 e7 e8 e9
  have lu := Nat.lt_of_lt_of_le lE bu.size
  rw [hno]
  simp only [Bool.not_false]
  clear bu HT hE CK hno BU1
  go_upto_region 2 with fail
  refine layD _ _ w.heap.size st (cN : Int) ha ma ok op oc ol os ad nd cd rfl (by simp) lu k0 k1 k2 k3 k4 k5 k6 k7 k8 k9 CE.out CLm.out ?_
  intro V2 u2 g hv hg hD hB2
  simp only [sllayD, List.getD_cons_zero, List.getD_cons_succ, List.range, List.range.loop, List.map_cons, List.map_nil, puts, List.foldl_cons, List.foldl_nil, Act.put, List.setIfInBounds_toArray, List.set_cons_succ, List.set_cons_zero]
  rw [hv]
  have HT2 := hd (HTu.out.below hB2)
  have B2 := hd (BU.out.trans (hB2.mono BU.out.size))
  have HD := hd hD
  have lg := block_lt hD
  have HG := hd (show w.heap.size < g from Nat.lt_of_lt_of_le lu hg)
  have k0 := (hB2.cell (p := ⟨w.heap.size, 0, none⟩) lu).trans k0; have k1 := (hB2.cell (p := ⟨w.heap.size, 1, none⟩) lu).trans k1; have k2 := (hB2.cell (p := ⟨w.heap.size, 2, none⟩) lu).trans k2; have k3 := (hB2.cell (p := ⟨w.heap.size, 3, none⟩) lu).trans k3; have k4 := (hB2.cell (p := ⟨w.heap.size, 4, none⟩) lu).trans k4; have k5 := (hB2.cell (p := ⟨w.heap.size, 5, none⟩) lu).trans k5; have k6 := (hB2.cell (p := ⟨w.heap.size, 6, none⟩) lu).trans k6; have k7 := (hB2.cell (p := ⟨w.heap.size, 7, none⟩) lu).trans k7; have k8 := (hB2.cell (p := ⟨w.heap.size, 8, none⟩) lu).trans k8; have k9 := (hB2.cell (p := ⟨w.heap.size, 9, none⟩) lu).trans k9
  have lu2 := Nat.lt_of_lt_of_le lu hB2.size
  have xg : Hid (x < g ∧ x < u2.heap.size) := ⟨Nat.lt_of_lt_of_le HTu.out.lt hg, HT2.out.lt⟩
  have RG : Hid (∀ j, j < 195 → L j ≠ some g) := fun j hj => NRW.out j g hj (Nat.le_of_lt HG.out)
  clear hD hB2 hv hg HTu BU CE CLm
  rcases HEL.out with ⟨hk, j, pN, hj, rfl, hp⟩ | ⟨hk, rfl, rfl, rfl⟩
  · subst hk
    have hjl := HLL.out j (List.mem_of_getLast? hj)
    obtain ⟨hpl, hpe⟩ := List.getElem?_eq_some_iff.1 hp
    obtain ⟨hx1, hx2⟩ := HXw.out j hjl
    obtain ⟨bp, po, hA, hbl, hcells⟩ := hx2 (by omega)
    obtain ⟨m0, m1, m2⟩ := hcells pN hpl
    rw [hpe] at m0 m1 m2
    simp only at m0 m1 m2
    have m0 := (B2.out.cell (p := ⟨bp, po + pN * 3, none⟩) hbl).trans m0
    have m1 := (B2.out.cell (p := ⟨bp, po + pN * 3 + 1, none⟩) hbl).trans m1
    have m2 := (B2.out.cell (p := ⟨bp, po + pN * 3 + 2, none⟩) hbl).trans m2
    have hpn : (pN : Int) < (evs[j].len : Int) := by omega
    have hlv : lastP l = (j : Int) := by unfold lastP; rw [hj]
    have hev : evO evs A K (some j) = evV evs[j] (A j) (K j) := by simp [evO, List.getD, List.getElem?_eq_getElem hjl]
    have CLt := hd (fun U (hB : Below u2.heap.size u2 U) => hlv ▸ last_any (HT2.out.below hB) cN HC.out l HSl.out)
    have CEv := hd (fun U (hB : Below u2.heap.size u2 U) => hev ▸ event_any (HT2.out.below hB) ((HVw.out.below B2.out (Nat.le_refl _)).below hB (Nat.le_refl _)) (some j) (fun k hk => by injection hk with hk; rw [← hk]; exact hjl))
    rw [hA] at CEv
    simp only [oI] at CEv
    generalize evs[j] = ej at *
    generalize K j = kj at *
    obtain ⟨pst, psi, pha, pma, ⟨pok, pop, poc, pol, pos⟩, pnd⟩ := ej
    simp only [evV] at CEv hpn
    have y6 := cell_row HD.out 6; have y7 := cell_row HD.out 7; have y8 := cell_row HD.out 8
    simp at y6 y7 y8
    have HFZ : Hid (∀ U, Below u2.heap.size u2 U → U.frozen? ⟨g, 6, none⟩ = false ∧ U.frozen? ⟨g, 7, none⟩ = false ∧ U.frozen? ⟨g, 8, none⟩ = false) := fun U hB => ⟨frozen_row (block_keep hB HD.out lg) 6, frozen_row (block_keep hB HD.out lg) 7, frozen_row (block_keep hB HD.out lg) 8⟩
    have hbl2 := Nat.lt_of_lt_of_le hbl B2.out.size
    clear hx1 hx2 hcells hp hpl hpe hlv hev hbl
    go_upto_region 4 with fail
    refine takeD _ _ x w.heap.size g cN bp po pnd kj pN (j : Int) pst psi pha pma pok pop poc pol pos ec el es rfl rfl rfl (by simp) lu2 hbl2 lg k1 k5 m0 m1 m2 _ _ _ y6 y7 y8 hpn (by omega) HFZ.out CLt.out CEv.out ?_
    intro V4 u3 hB3
    simp only [sltakeD, List.getD_cons_zero, List.getD_cons_succ, List.range, List.range.loop, List.map_cons, List.map_nil, puts, List.foldl_cons, List.foldl_nil, Act.put, List.setIfInBounds_toArray, List.set_cons_succ, List.set_cons_zero]
    have HD3 := block_keep hB3 HD.out lg
    have HDD := hd (set3_row HD3 (.int .u8 ec) (.int .i64 el) (.int .i64 es))
    have fr4 := set3 u3 g (.int .u8 ec) (.int .i64 el) (.int .i64 es)
    have HT4 := hd ((HT2.out.below hB3).fr fr4 (fun e => by have := xg.out.1; omega) (fun j g' hj hg' e => RG.out j hj (by rw [hg', e])))
    have k1 := (fr4.cell (p := ⟨w.heap.size, 1, none⟩) (Nat.lt_of_lt_of_le lu2 hB3.size) (by have := HG.out; show ¬ w.heap.size = g; omega)).trans ((hB3.cell (p := ⟨w.heap.size, 1, none⟩) lu2).trans k1)
    have B4 : Hid (Fr (fun k => x ≤ k) w (((u3.setCell ⟨g, 6, none⟩ (.int .u8 ec)).setCell ⟨g, 7, none⟩ (.int .i64 el)).setCell ⟨g, 8, none⟩ (.int .i64 es))) := (Fr.of_below (B2.out.trans (hB3.mono B2.out.size))).trans (fr4.mono (fun k _ hk => by have := xg.out.1; omega))
    have l4 : w.heap.size < (((u3.setCell ⟨g, 6, none⟩ (.int .u8 ec)).setCell ⟨g, 7, none⟩ (.int .i64 el)).setCell ⟨g, 8, none⟩ (.int .i64 es)).heap.size := Nat.lt_of_lt_of_le lu2 (Nat.le_trans hB3.size fr4.size)
    clear hB3 fr4 HD3 HT2 CLt CEv HFZ m0 m1 m2 y6 y7 y8 hpn hbl2 HD
    generalize ((u3.setCell ⟨g, 6, none⟩ (.int .u8 ec)).setCell ⟨g, 7, none⟩ (.int .i64 el)).setCell ⟨g, 8, none⟩ (.int .i64 es) = u4 at *
    have z0 := cell_row HDD.out 0; have z1 := cell_row HDD.out 1; have z2 := cell_row HDD.out 2; have z3 := cell_row HDD.out 3; have z4 := cell_row HDD.out 4; have z5 := cell_row HDD.out 5; have z6 := cell_row HDD.out 6; have z7 := cell_row HDD.out 7; have z8 := cell_row HDD.out 8
    simp at z0 z1 z2 z3 z4 z5 z6 z7 z8
    have lgU := block_lt HDD.out
    obtain ⟨vd, hvd, hsd⟩ := HT4.out.slot (130 + cN) (by omega)
    rw [show 3 + (130 + cN) = 133 + cN from by omega] at hvd
    rw [HSD.out] at hsd
    obtain ⟨oa, oc', rfl, -, -⟩ := SF.form hsd
    have HSF := hd hsd
    have HV := hd hvd
    clear hsd hvd
    go_upto_region 5 with fail
    refine pushD _ _ x w.heap.size cN d.length oc' oa g ha 2 (pN : Int) oc ol os ec el es rfl rfl rfl (by simp) c65 (PP ddc 9 89 u4 (L (130 + cN)) (d ++ [⟨⟨ha, ⟨2, (pN : Int), oc, ol, os⟩⟩, ec, el, es⟩])) (fun u1 hB => ⟨(hB.cell (p := ⟨w.heap.size, 1, none⟩) l4).trans k1, (hB.cell (p := ⟨x, 133 + cN, none⟩) HT4.out.lt).trans HV.out, (hB.cell (p := ⟨g, 0, none⟩) lgU).trans z0, (hB.cell (p := ⟨g, 1, none⟩) lgU).trans z1, (hB.cell (p := ⟨g, 2, none⟩) lgU).trans z2, (hB.cell (p := ⟨g, 3, none⟩) lgU).trans z3, (hB.cell (p := ⟨g, 4, none⟩) lgU).trans z4, (hB.cell (p := ⟨g, 5, none⟩) lgU).trans z5, (hB.cell (p := ⟨g, 6, none⟩) lgU).trans z6, (hB.cell (p := ⟨g, 7, none⟩) lgU).trans z7, (hB.cell (p := ⟨g, 8, none⟩) lgU).trans z8⟩) (fun v u1 hP => ⟨hP.cell (p := ⟨w.heap.size, 1, none⟩) l4 (NR.out _ (by omega)) k1, hP.cell (p := ⟨x, 133 + cN, none⟩) HT4.out.lt (HT4.out.not_x (by omega)) HV.out, hP.cell (p := ⟨g, 0, none⟩) lgU (RG.out _ (by omega)) z0, hP.cell (p := ⟨g, 1, none⟩) lgU (RG.out _ (by omega)) z1, hP.cell (p := ⟨g, 2, none⟩) lgU (RG.out _ (by omega)) z2, hP.cell (p := ⟨g, 3, none⟩) lgU (RG.out _ (by omega)) z3, hP.cell (p := ⟨g, 4, none⟩) lgU (RG.out _ (by omega)) z4, hP.cell (p := ⟨g, 5, none⟩) lgU (RG.out _ (by omega)) z5, hP.cell (p := ⟨g, 6, none⟩) lgU (RG.out _ (by omega)) z6, hP.cell (p := ⟨g, 7, none⟩) lgU (RG.out _ (by omega)) z7, hP.cell (p := ⟨g, 8, none⟩) lgU (RG.out _ (by omega)) z8⟩) (fun u1 g' hB hg => run_deeds HSF.out ⟨⟨ha, ⟨2, (pN : Int), oc, ol, os⟩⟩, ec, el, es⟩ hB hg HDB.out) (fun v u1 hP => ⟨hP.form, by
      obtain ⟨cur, hh, -⟩ := HT4.out.blk
      exact frozen_row ((hP.block HT4.out.lt (HT4.out.not_x (by omega))).trans hh) _⟩) ?_
    intro V5 v5 u5 hP
    obtain ⟨g5, hT5, hF5⟩ := HT4.out.pushD (by omega) hP
    rw [show 3 + (130 + cN) = 133 + cN from by omega] at hT5 hF5
    have k1 := ((Fr.setCell (S := (· = x)) u5 ⟨x, 133 + cN, none⟩ v5 rfl).cell (p := ⟨w.heap.size, 1, none⟩) (Nat.lt_of_lt_of_le l4 (by have := hP; obtain ⟨q1, q2, q3, q4, q5⟩ := this; rcases q5 with ⟨-, q5⟩ | ⟨-, q5⟩ <;> exact Nat.le_trans q2.size q5.size)) (by have := HXl.out; show w.heap.size ≠ x; omega)).trans (hP.cell (p := ⟨w.heap.size, 1, none⟩) l4 (NR.out _ (by omega)) k1)
    have l5 : w.heap.size < (u5.setCell ⟨x, 133 + cN, none⟩ v5).heap.size := Nat.lt_of_lt_of_le l4 hF5.size
    have NR : Hid (∀ j, j < 130 → (upd L (130 + cN) (some g5)) j ≠ some w.heap.size) := fun j hj => by rw [upd_ne _ _ (by omega)]; exact NR.out j (by omega)
    have HT5 := hd hT5
    have B5 := hd ((B4.out).trans hF5)
    clear hP hT5 hF5 HSF HV z0 z1 z2 z3 z4 z5 z6 z7 z8
    simp only [slpushD, List.getD_cons_zero, List.getD_cons_succ, List.range, List.range.loop, List.map_cons, List.map_nil, puts, List.foldl_cons, List.foldl_nil, Act.put, List.setIfInBounds_toArray, List.set_cons_succ, List.set_cons_zero]
    generalize u5.setCell ⟨x, 133 + cN, none⟩ v5 = u6 at *
    go_upto_region 6 with fail
    obtain ⟨v, hv, hs⟩ := HT5.out.slot (65 + cN) (by omega)
    rw [show 3 + (65 + cN) = 68 + cN from by omega] at hv
    rw [HSL.out] at hs
    obtain ⟨oa, oc', rfl, -, -⟩ := SF.form hs
    have HSF := hd hs
    have HV := hd hv
    clear hs hv
    refine pushS _ _ x w.heap.size cN l.length oc' oa i rfl rfl rfl (by simp) c65 (PP nic 1 3 u6 ((upd L (130 + cN) (some g5)) (65 + cN)) (l ++ [i])) (fun u1 hB => ⟨(hB.cell (p := ⟨w.heap.size, 1, none⟩) l5).trans k1, (hB.cell (p := ⟨x, 68 + cN, none⟩) HT5.out.lt).trans HV.out⟩) (fun v u1 hP => ⟨hP.cell (p := ⟨w.heap.size, 1, none⟩) l5 (NR.out _ (by omega)) k1, hP.cell (p := ⟨x, 68 + cN, none⟩) HT5.out.lt (HT5.out.not_x (by omega)) HV.out⟩) (fun u1 g hB hg => run_ints HSF.out i hB hg HBD.out) (fun v u1 hP => ⟨hP.form, by
      obtain ⟨cur, hh, -⟩ := HT5.out.blk
      exact frozen_row ((hP.block HT5.out.lt (HT5.out.not_x (by omega))).trans hh) _⟩) ?_
    intro V' v' u1 hP
    have HP := hd (HT5.out.pushN (by omega) hP)
    rw [show 3 + (65 + cN) = 68 + cN from by omega] at HP
    clear hP
    simp only [slpushS, List.getD_cons_zero, List.getD_cons_succ, List.range, List.range.loop, List.map_cons, List.map_nil, puts, List.foldl_cons, List.foldl_nil, Act.put, List.setIfInBounds_toArray, List.set_cons_succ, List.set_cons_zero]
    go_wp2
    (try simp only [Exit.inBlock, Exit.then])
    refine bodyPost_end (results_none rfl _ _ _) rfl ?_
    obtain ⟨g', h1, h2⟩ := HP.out
    exact ⟨rfl, ⟨_, h1⟩, B5.out.trans h2⟩
  · have kk : (ok == 2) = false := by simpa using hk
    have B4 : Hid (Fr (fun k => x ≤ k) w u2) := Fr.of_below B2.out
    have HDD := HD
    clear hk HEL HD
    have z0 := cell_row HDD.out 0; have z1 := cell_row HDD.out 1; have z2 := cell_row HDD.out 2; have z3 := cell_row HDD.out 3; have z4 := cell_row HDD.out 4; have z5 := cell_row HDD.out 5; have z6 := cell_row HDD.out 6; have z7 := cell_row HDD.out 7; have z8 := cell_row HDD.out 8
    simp at z0 z1 z2 z3 z4 z5 z6 z7 z8
    have lgU := block_lt HDD.out
    obtain ⟨vd, hvd, hsd⟩ := HT2.out.slot (130 + cN) (by omega)
    rw [show 3 + (130 + cN) = 133 + cN from by omega] at hvd
    rw [HSD.out] at hsd
    obtain ⟨oa, oc', rfl, -, -⟩ := SF.form hsd
    have HSF := hd hsd
    have HV := hd hvd
    clear hsd hvd
    go_upto_region 5 with fail
    refine pushD _ _ x w.heap.size cN d.length oc' oa g ha ok op ec el es ec el es rfl rfl rfl (by simp) c65 (PP ddc 9 89 u2 (L (130 + cN)) (d ++ [⟨⟨ha, ⟨ok, op, ec, el, es⟩⟩, ec, el, es⟩])) (fun u1 hB => ⟨(hB.cell (p := ⟨w.heap.size, 1, none⟩) lu2).trans k1, (hB.cell (p := ⟨x, 133 + cN, none⟩) HT2.out.lt).trans HV.out, (hB.cell (p := ⟨g, 0, none⟩) lgU).trans z0, (hB.cell (p := ⟨g, 1, none⟩) lgU).trans z1, (hB.cell (p := ⟨g, 2, none⟩) lgU).trans z2, (hB.cell (p := ⟨g, 3, none⟩) lgU).trans z3, (hB.cell (p := ⟨g, 4, none⟩) lgU).trans z4, (hB.cell (p := ⟨g, 5, none⟩) lgU).trans z5, (hB.cell (p := ⟨g, 6, none⟩) lgU).trans z6, (hB.cell (p := ⟨g, 7, none⟩) lgU).trans z7, (hB.cell (p := ⟨g, 8, none⟩) lgU).trans z8⟩) (fun v u1 hP => ⟨hP.cell (p := ⟨w.heap.size, 1, none⟩) lu2 (NR.out _ (by omega)) k1, hP.cell (p := ⟨x, 133 + cN, none⟩) HT2.out.lt (HT2.out.not_x (by omega)) HV.out, hP.cell (p := ⟨g, 0, none⟩) lgU (RG.out _ (by omega)) z0, hP.cell (p := ⟨g, 1, none⟩) lgU (RG.out _ (by omega)) z1, hP.cell (p := ⟨g, 2, none⟩) lgU (RG.out _ (by omega)) z2, hP.cell (p := ⟨g, 3, none⟩) lgU (RG.out _ (by omega)) z3, hP.cell (p := ⟨g, 4, none⟩) lgU (RG.out _ (by omega)) z4, hP.cell (p := ⟨g, 5, none⟩) lgU (RG.out _ (by omega)) z5, hP.cell (p := ⟨g, 6, none⟩) lgU (RG.out _ (by omega)) z6, hP.cell (p := ⟨g, 7, none⟩) lgU (RG.out _ (by omega)) z7, hP.cell (p := ⟨g, 8, none⟩) lgU (RG.out _ (by omega)) z8⟩) (fun u1 g' hB hg => run_deeds HSF.out ⟨⟨ha, ⟨ok, op, ec, el, es⟩⟩, ec, el, es⟩ hB hg HDB.out) (fun v u1 hP => ⟨hP.form, by
      obtain ⟨cur, hh, -⟩ := HT2.out.blk
      exact frozen_row ((hP.block HT2.out.lt (HT2.out.not_x (by omega))).trans hh) _⟩) ?_
    intro V5 v5 u5 hP
    obtain ⟨g5, hT5, hF5⟩ := HT2.out.pushD (by omega) hP
    rw [show 3 + (130 + cN) = 133 + cN from by omega] at hT5 hF5
    have k1 := ((Fr.setCell (S := (· = x)) u5 ⟨x, 133 + cN, none⟩ v5 rfl).cell (p := ⟨w.heap.size, 1, none⟩) (Nat.lt_of_lt_of_le lu2 (by have := hP; obtain ⟨q1, q2, q3, q4, q5⟩ := this; rcases q5 with ⟨-, q5⟩ | ⟨-, q5⟩ <;> exact Nat.le_trans q2.size q5.size)) (by have := HXl.out; show w.heap.size ≠ x; omega)).trans (hP.cell (p := ⟨w.heap.size, 1, none⟩) lu2 (NR.out _ (by omega)) k1)
    have l5 : w.heap.size < (u5.setCell ⟨x, 133 + cN, none⟩ v5).heap.size := Nat.lt_of_lt_of_le lu2 hF5.size
    have NR : Hid (∀ j, j < 130 → (upd L (130 + cN) (some g5)) j ≠ some w.heap.size) := fun j hj => by rw [upd_ne _ _ (by omega)]; exact NR.out j (by omega)
    have HT5 := hd hT5
    have B5 := hd ((B4.out).trans hF5)
    clear hP hT5 hF5 HSF HV z0 z1 z2 z3 z4 z5 z6 z7 z8
    simp only [slpushD, List.getD_cons_zero, List.getD_cons_succ, List.range, List.range.loop, List.map_cons, List.map_nil, puts, List.foldl_cons, List.foldl_nil, Act.put, List.setIfInBounds_toArray, List.set_cons_succ, List.set_cons_zero]
    generalize u5.setCell ⟨x, 133 + cN, none⟩ v5 = u6 at *
    go_upto_region 6 with fail
    obtain ⟨v, hv, hs⟩ := HT5.out.slot (65 + cN) (by omega)
    rw [show 3 + (65 + cN) = 68 + cN from by omega] at hv
    rw [HSL.out] at hs
    obtain ⟨oa, oc', rfl, -, -⟩ := SF.form hs
    have HSF := hd hs
    have HV := hd hv
    clear hs hv
    refine pushS _ _ x w.heap.size cN l.length oc' oa i rfl rfl rfl (by simp) c65 (PP nic 1 3 u6 ((upd L (130 + cN) (some g5)) (65 + cN)) (l ++ [i])) (fun u1 hB => ⟨(hB.cell (p := ⟨w.heap.size, 1, none⟩) l5).trans k1, (hB.cell (p := ⟨x, 68 + cN, none⟩) HT5.out.lt).trans HV.out⟩) (fun v u1 hP => ⟨hP.cell (p := ⟨w.heap.size, 1, none⟩) l5 (NR.out _ (by omega)) k1, hP.cell (p := ⟨x, 68 + cN, none⟩) HT5.out.lt (HT5.out.not_x (by omega)) HV.out⟩) (fun u1 g hB hg => run_ints HSF.out i hB hg HBD.out) (fun v u1 hP => ⟨hP.form, by
      obtain ⟨cur, hh, -⟩ := HT5.out.blk
      exact frozen_row ((hP.block HT5.out.lt (HT5.out.not_x (by omega))).trans hh) _⟩) ?_
    intro V' v' u1 hP
    have HP := hd (HT5.out.pushN (by omega) hP)
    rw [show 3 + (65 + cN) = 68 + cN from by omega] at HP
    clear hP
    simp only [slpushS, List.getD_cons_zero, List.getD_cons_succ, List.range, List.range.loop, List.map_cons, List.map_nil, puts, List.foldl_cons, List.foldl_nil, Act.put, List.setIfInBounds_toArray, List.set_cons_succ, List.set_cons_zero]
    go_wp2
    (try simp only [Exit.inBlock, Exit.then])
    refine bodyPost_end (results_none rfl _ _ _) rfl ?_
    obtain ⟨g', h1, h2⟩ := HP.out
    exact ⟨rfl, ⟨_, h1⟩, B5.out.trans h2⟩
end

end Go.Proofs.YtfhghijefjhehaaDoor

/-! Iq -/
namespace Go.Proofs.YtfhghijefjhehaaDoor
open Go.RowKit Go.Lib
set_option linter.unusedVariables false

/-- Cells stored one behind the other. -/
def setsL (w : World) (g o : Nat) : List Value → World
  | [] => w
  | v :: vs => setsL (w.setCell ⟨g, o, none⟩ v) g (o + 1) vs
theorem setsL_row {g : Nat} {e : TypeId} : ∀ (vs : List Value) (w : World) (o : Nat) (cur : List Value), w.heap[g]? = some (.cells cur.toArray e (0, 0)) → o + vs.length ≤ cur.length →
    (∃ cur' : List Value, (setsL w g o vs).heap[g]? = some (.cells cur'.toArray e (0, 0)) ∧ cur'.length = cur.length ∧ (∀ j, j < vs.length → cur'[o + j]? = vs[j]?) ∧ ∀ m, (m < o ∨ o + vs.length ≤ m) → cur'[m]? = cur[m]?) ∧ Fr (fun k => k = g) w (setsL w g o vs)
  | [], w, o, cur, h, _ => ⟨⟨cur, h, rfl, fun j hj => by simp at hj, fun m _ => rfl⟩, Fr.refl _ _⟩
  | v :: vs, w, o, cur, h, hl => by
    have h1 : (w.setCell ⟨g, o, none⟩ v).heap[g]? = some (.cells (cur.set o v).toArray e (0, 0)) := by
      rw [set_row h o v]
      simp
    simp only [List.length_cons] at hl
    obtain ⟨⟨cur', a1, a2, a3, a4⟩, a5⟩ := setsL_row vs (w.setCell ⟨g, o, none⟩ v) (o + 1) (cur.set o v) h1 (by rw [List.length_set]; omega)
    refine ⟨⟨cur', a1, by rw [a2, List.length_set], fun j hj => ?_, fun m hm => ?_⟩, (Fr.setCell (S := fun k => k = g) w ⟨g, o, none⟩ v rfl).trans a5⟩
    · cases j with
      | zero =>
        rw [Nat.add_zero, a4 o (.inl (by omega)), List.getElem?_set_self (by omega)]
        rfl
      | succ j =>
        have := a3 j (by simp at hj; omega)
        rw [show o + (j + 1) = o + 1 + j from by omega, this]
        rfl
    · simp only [List.length_cons] at hm
      rw [a4 m (by omega), List.getElem?_set_ne (by omega)]

/-- A row of n elements at block g, the first i of them those of xs. -/
def FillC {α : Type} (f : α → List Value) (k : Nat) (e : TypeId) (w3 wr : World) (g n : Nat) (xs : List α) (i : Nat) : Prop :=
  (∃ cur : List Value, wr.heap[g]? = some (.cells cur.toArray e (0, 0)) ∧ cur.length = n * k ∧ ∀ q (hq : q < xs.length), q < i → ∀ j, j < k → cur[q * k + j]? = (f xs[q])[j]?) ∧ Fr (fun k => k = g) w3 wr
section
variable {α : Type} {f : α → List Value} {k : Nat} {e : TypeId} {w3 wr : World} {g n : Nat} {xs : List α} {i : Nat}
theorem FillC.cells (h : FillC f k e w3 wr g n xs i) (hi : i < n) (j : Nat) (hj : j < k) : (∃ v, wr.cell? ⟨g, i * k + j, none⟩ = some v) ∧ wr.frozen? ⟨g, i * k + j, none⟩ = false := by
  obtain ⟨⟨cur, h1, h2, -⟩, -⟩ := h
  have : (i + 1) * k ≤ n * k := Nat.mul_le_mul_right _ (by omega)
  rw [Nat.add_mul] at this
  refine ⟨?_, frozen_row h1 _⟩
  rw [cell_row h1]
  exact ⟨cur[i * k + j]'(by omega), by simp⟩
theorem FillC.step (hz : Sz f k) (h : FillC f k e w3 wr g n xs i) (hi : i < n) (hx : i < xs.length) : FillC f k e w3 (setsL wr g (i * k) (f xs[i])) g n xs (i + 1) := by
  obtain ⟨⟨cur, h1, h2, h3⟩, h4⟩ := h
  have hlen : (i + 1) * k ≤ n * k := Nat.mul_le_mul_right _ (by omega)
  rw [Nat.add_mul, Nat.one_mul] at hlen
  have hfl := (hz xs[i]).1
  obtain ⟨⟨cur', a1, a2, a3, a4⟩, a5⟩ := setsL_row (f xs[i]) wr (i * k) cur h1 (by rw [hfl]; omega)
  refine ⟨⟨cur', a1, by rw [a2]; exact h2, fun q hq hqi j hj => ?_⟩, h4.trans a5⟩
  by_cases e : q = i
  · subst e
    exact a3 j (by rw [hfl]; exact hj)
  · have hq1 : (q + 1) * k ≤ i * k := Nat.mul_le_mul_right _ (by omega)
    rw [Nat.add_mul, Nat.one_mul] at hq1
    rw [a4 _ (.inl (by omega))]
    exact h3 q hq (by omega) j hj
theorem FillC.get (h : FillC f k e w3 wr g n xs i) (q j : Nat) (hq : q < xs.length) (hqi : q < i) (hj : j < k) : wr.cell? ⟨g, q * k + j, none⟩ = (f xs[q])[j]? := by
  obtain ⟨⟨cur, h1, h2, h3⟩, -⟩ := h
  rw [cell_row h1, ← h3 q hq hqi j hj]
  simp
theorem FillC.mono (h : FillC f k e w3 wr g n xs i) {u : World} {S : Nat → Prop} (hF : Fr S wr u) (hS : ¬ S g) (w3' : World) : FillC f k e u u g n xs i := by
  obtain ⟨⟨cur, h1, h2, h3⟩, -⟩ := h
  exact ⟨⟨cur, hF.keeps h1 hS, h2, h3⟩, Fr.refl _ _⟩
end

def elc (x : El) : List Value := [.int .u8 x.1, .int .i64 x.2.1, .int .i64 x.2.2]
theorem szEl : Sz elc 3 := fun x => ⟨rfl, fun v hv => by
  simp only [elc, List.mem_cons, List.not_mem_nil, or_false] at hv
  rcases hv with rfl | rfl | rfl <;> rfl⟩
def edc (x : Ed) : List Value := [.int .i64 x.tag, .int .i64 x.o.kind, .int .i64 x.o.pos, .int .u8 x.o.ch, .int .i64 x.o.cl, .int .i64 x.o.sq]
theorem szEd : Sz edc 6 := fun x => ⟨rfl, fun v hv => by
  simp only [edc, List.mem_cons, List.not_mem_nil, or_false] at hv
  rcases hv with rfl | rfl | rfl | rfl | rfl | rfl <;> rfl⟩

/-- A text in memory. -/
def IsT (w : World) (a : Option Addr) (xs : List El) : Prop := 0 < xs.length → ∃ b off, a = some ⟨b, off, none⟩ ∧ b < w.heap.size ∧ ∀ q (hq : q < xs.length), w.cell? ⟨b, off + q * 3, none⟩ = some (.int .u8 xs[q].1) ∧ w.cell? ⟨b, off + q * 3 + 1, none⟩ = some (.int .i64 xs[q].2.1) ∧ w.cell? ⟨b, off + q * 3 + 2, none⟩ = some (.int .i64 xs[q].2.2)

theorem wpList_make_k {P : Program} (w : World) {ops : Array Oper} {rest : List Oper} {o : Oper} {a : Act} {Q : Exit → Act → World → Prop}
    (hg : o.guard = none) (l c : Operand) (t : TypeId) (hop : o.op = Op.makeSlice t l c)
    (e : TypeId) (i : TypeInfo) (z : Value) (h1 : P.underlying t = some (.slice e)) (h2 : P.info? e = some i) (h3 : i.zero = some z)
    (kl kc : IntKind) (L C : Int) (n m : Nat) (hl : a.eval l = .int kl L) (hc : a.eval c = .int kc C) (hL : L = (n : Int)) (hC : C = (m : Int)) (hnm : n ≤ m) (b2 : i.bytes * m ≤ 281474976710656) (b3 : m ≤ 9223372036854775807)
    (hK : ∀ (w' : World) (cur : List Value), Hid (w'.heap[w.heap.size]? = some (.cells cur.toArray e (0, 0))) → Hid (cur = (madeCells z.cells (m * i.size)).toList) → Hid (Below w.heap.size w w') → wpList P ops Q rest (a.put o.dst (.slice (some ⟨w.heap.size, 0, none⟩) n m)) w') :
    wpList P ops Q (o :: rest) a w := by
  refine wpList_plain hg fun K hK' => ?_
  subst hL
  subst hC
  have hrun := run_make (P := P) w t e i z h1 h2 h3 kl kc n m (by omega) (by omega) (by rw [← Int.natCast_mul]; exact Int.ofNat_le.2 b2) (by omega)
  simp only [Int.toNat_natCast] at hrun
  unfold Oper.wp
  simp [execOp, hop, hl, hc, hrun, Result.andThen]
  refine hK' _ _ (hK _ _ ?_ (rfl : _ = _) ((Below.refl _ _).alloc (Nat.le_refl _) _))
  show (w.alloc _).heap[w.heap.size]? = _
  rw [heap_alloc_new]

theorem Tryd.infoEl : (Tryd.prog.info? 64).map (fun i => (i.zero, i.size, i.bytes)) = some (some (.agg #[.int .u8 0, .int .i64 0, .int .i64 0]), 3, 24) := by kernel_rfl
theorem madeCells_len (z : Array Value) (m : Nat) (hz : 0 < z.size) : (madeCells z m).toList.length = m := by simp [madeCells]

set_option maxRecDepth 100000 in
set_option maxHeartbeats 4000000 in
theorem copiedDoc_any (a : Option Addr) (n c : Nat) (xs : List El) (w : World) (hl : xs.length = n) (hn : n ≤ 11728124029610) (hT : IsT w a xs) :
    Calls Tryd.prog 13 #[.slice a n c] w fun e w' => ∃ g, e = .returned (.slice (some ⟨g, 0, none⟩) n n) ∧ w.heap.size ≤ g ∧ (∀ q (hq : q < xs.length), w'.cell? ⟨g, q * 3, none⟩ = some (.int .u8 xs[q].1) ∧ w'.cell? ⟨g, q * 3 + 1, none⟩ = some (.int .i64 xs[q].2.1) ∧ w'.cell? ⟨g, q * 3 + 2, none⟩ = some (.int .i64 xs[q].2.2)) ∧ g < w'.heap.size ∧ Below w.heap.size w w' := by
  obtain ⟨i0, hi0, hz0, hz1, hz2⟩ : ∃ i0, Tryd.prog.info? 64 = some i0 ∧ i0.zero = some (.agg #[.int .u8 0, .int .i64 0, .int .i64 0]) ∧ i0.size = 3 ∧ i0.bytes = 24 := by
    cases hq : Tryd.prog.info? 64 with
    | none => have := Tryd.infoEl; rw [hq] at this; cases this
    | some i =>
      have h := Tryd.infoEl
      rw [hq] at h
      simp only [Option.map_some, Option.some.injEq, Prod.mk.injEq] at h
      exact ⟨i, rfl, h.1, h.2.1, h.2.2⟩
  have HT := hd hT
  have HL := hd hl
  clear hT
  go_enter Tryd.func13, Tryd.ntmps13
  go_wp2_with (at_make; refine wpList_make_k _ rfl _ _ 35 rfl 64 i0 _ Tryd.underlying35 hi0 hz0 _ _ _ _ n n rfl rfl rfl rfl (Nat.le_refl _) (by rw [hz2]; omega) (by omega) ?_; intro w3 cur hg3 hcur hb3)
  have S0 : Hid (FillC elc 3 64 w3 w3 w.heap.size n xs 0) := ⟨⟨cur, hg3.out, by have := hcur.out; rw [hz1] at this; rw [this, madeCells_len _ _ (by decide)], fun q hq h => by omega⟩, Fr.refl _ _⟩
  have B3 := hd hb3.out
  clear hg3 hcur hb3 hi0 hz0 hz1 hz2 hl
  go_wp2_with fail
  go_loopw [4] (fun i wr => ∃ k : Nat, k ≤ n ∧ i = .int .i64 k ∧ Hid (FillC elc 3 64 w3 wr w.heap.size n xs k)) (fun i _ => n - (intOf i).toNat)
  case atStart => exact ⟨0, Nat.zero_le _, rfl, S0⟩
  case round =>
    obtain ⟨k, hk, rfl, hr⟩ := hrel
    clear S0
    have BR := hd (B3.out.trans (hr.out.2.below B3.out.size (fun q hq => by omega)))
    by_cases hlt : k < n
    · have hx : k < xs.length := by have := HL.out; omega
      obtain ⟨b, off, rfl, hb, hc⟩ := HT.out (by omega)
      obtain ⟨c0, c1, c2⟩ := hc k hx
      have c0 := (BR.out.cell (p := ⟨b, off + k * 3, none⟩) hb).trans c0
      have c1 := (BR.out.cell (p := ⟨b, off + k * 3 + 1, none⟩) hb).trans c1
      have c2 := (BR.out.cell (p := ⟨b, off + k * 3 + 2, none⟩) hb).trans c2
      obtain ⟨⟨v0, d0⟩, f0⟩ := hr.out.cells hlt 0 (by omega)
      obtain ⟨⟨v1, d1⟩, f1⟩ := hr.out.cells hlt 1 (by omega)
      obtain ⟨⟨v2, d2⟩, f2⟩ := hr.out.cells hlt 2 (by omega)
      rw [Nat.add_zero] at d0 f0
      have i1 : (k : Int) < (n : Int) := by omega
      have ST : Hid (FillC elc 3 64 w3 (((wr.setCell ⟨w.heap.size, k * 3, none⟩ (.int .u8 xs[k].1)).setCell ⟨w.heap.size, k * 3 + 1, none⟩ (.int .i64 xs[k].2.1)).setCell ⟨w.heap.size, k * 3 + 2, none⟩ (.int .i64 xs[k].2.2)) w.heap.size n xs (k + 1)) := FillC.step szEl hr.out hlt hx
      have E3 : wrap64 ((k : Int) + 1) = ((k + 1 : Nat) : Int) := by rw [wrap64]; omega
      generalize xs[k] = y at *
      clear hr hc hx BR
      go_wp2
      first
        | exact ⟨⟨k + 1, by omega, by rw [E3], ST⟩, by rw [E3]; simp only [intOf, Int.toNat_natCast]; omega⟩
        | exact ⟨⟨k + 1, by omega, by go_num, ST⟩, by simp [intOf]; omega⟩
    · obtain rfl : k = n := by omega
      have R : Hid (∀ q (hq : q < xs.length), wr.cell? ⟨w.heap.size, q * 3, none⟩ = some (.int .u8 xs[q].1) ∧ wr.cell? ⟨w.heap.size, q * 3 + 1, none⟩ = some (.int .i64 xs[q].2.1) ∧ wr.cell? ⟨w.heap.size, q * 3 + 2, none⟩ = some (.int .i64 xs[q].2.2)) := fun q hq => by
        have hl := HL.out
        exact ⟨hr.out.get q 0 hq (by omega) (by omega), hr.out.get q 1 hq (by omega) (by omega), hr.out.get q 2 hq (by omega) (by omega)⟩
      have G : Hid (w.heap.size < wr.heap.size) := by
        obtain ⟨⟨cur, h1, -⟩, -⟩ := hr.out
        exact block_lt h1
      clear hr
      go_wp2
      go_ret
      exact ⟨_, rfl, Nat.le_refl _, R.out, G.out, BR.out⟩

/-- Quiet operations have put V j into their slots, those of sp a value with R; N stores. -/
structure JN (ops : Array Oper) (σ : Nat → Nat) (N : Nat) (sp : Nat → Bool) (V : Nat → Value) (R : Nat → Value → World → Prop) (ka : Nat) (T : Value → World → Prop) (a0 : Act) (w : World) (L : Nat → Prop) (a : Act) (u : World) : Prop where
  fe : Fe a0 a ((List.range N).map σ)
  e : ∀ j, j < N → sp j = false → L j → a.eval (.tmp (σ j)) = V j
  r : ∀ j, j < N → sp j = true → L j → ¬ L N → R j (a.eval (.tmp (σ j))) u
  dc : Dc ops L
  n : ¬ L N → Below w.heap.size w u
  s : L N → T (a.eval (.tmp (σ ka))) u
section
variable {ops : Array Oper} {σ : Nat → Nat} {N : Nat} {sp : Nat → Bool} {V : Nat → Value} {R : Nat → Value → World → Prop} {ka : Nat} {T : Value → World → Prop} {a0 : Act} {w : World} {L L' : Nat → Prop} {a : Act} {u u' : World} {i : Nat} {o : Oper}
theorem JN.next (h : JN ops σ N sp V R ka T a0 w L a u) (ho : ops[i]? = some o) (hall : ∀ e ∈ o.after, Region.binds .any e = true → L e.on) (hi : i < N) (hno : ¬ L i) (hinj : ∀ i j, i < N → j < N → σ i = σ j → i = j) (hz : ∀ j, j < N → σ j < a0.tmps.size) (hu : ∀ j, L' j ↔ (j = i ∨ L j)) (a2 : anc ops 40 N i = true) (hR : ∀ j v u', R j v u → Below u.heap.size u u' → R j v u') {v : Value} (hB : Below u.heap.size u u')
    (hv : (sp i = false ∧ v = V i) ∨ (sp i = true ∧ R i v u')) : JN ops σ N sp V R ka T a0 w L' (a.put (some (σ i)) v) u' := by
  have nN : ¬ L N := fun hl => hno (anc_spec h.dc _ _ _ a2 hl)
  have lN : L' N ↔ L N := by rw [hu]; exact ⟨fun h => h.resolve_left (by omega), .inr⟩
  refine ⟨h.fe.put (List.mem_map.2 ⟨i, List.mem_range.2 hi, rfl⟩) _, fun j hj hs hl => ?_, fun j hj hs hl _ => ?_, h.dc.next ho hall hu, fun _ => (h.n nN).trans (hB.mono (h.n nN).size), fun hl => absurd (lN.1 hl) nN⟩
  · by_cases e : j = i
    · subst e
      rw [ev_eq _ _ (by rw [h.fe.sz]; exact hz j hj)]
      rcases hv with hv | hv
      · exact hv.2
      · rw [hs] at hv; cases hv.1
    · exact (ev_ne _ _ (fun he => e (hinj j i hj hi he))).trans (h.e j hj hs (((hu j).1 hl).resolve_left e))
  · by_cases e : j = i
    · subst e
      rw [ev_eq _ _ (by rw [h.fe.sz]; exact hz j hj)]
      rcases hv with hv | hv
      · rw [hs] at hv; cases hv.1
      · exact hv.2
    · rw [ev_ne _ _ (fun he => e (hinj j i hj hi he))]
      exact hR _ _ _ (h.r j hj hs (((hu j).1 hl).resolve_left e) nN) hB
theorem JN.store (h : JN ops σ N sp V R ka T a0 w L a u) (ho : ops[N]? = some o) (hall : ∀ e ∈ o.after, Region.binds .any e = true → L e.on) (hno : ¬ L N) (hu : ∀ j, L' j ↔ (j = N ∨ L j)) (hT : T (a.eval (.tmp (σ ka))) u') : JN ops σ N sp V R ka T a0 w L' a u' := by
  have lN : L' N := (hu N).2 (.inl rfl)
  exact ⟨h.fe, fun j hj hs hl => h.e j hj hs (((hu j).1 hl).resolve_left (by omega)), fun _ _ _ _ hn => absurd lN hn, h.dc.next ho hall hu, fun hn => absurd lN hn, fun _ => hT⟩
theorem JN.done (h : JN ops σ N sp V R ka T a0 w L a u) (hz : ∀ j, j < N → σ j < a0.tmps.size) (hN : L N) : ∃ (V' : Nat → Value), T (V' ka) u ∧ a = puts a0 ((List.range N).map fun j => (σ j, V' j)) := by
  refine ⟨fun j => a.eval (.tmp (σ j)), h.s hN, ?_⟩
  refine Fe.puts _ a0 a (by rw [List.map_map]; exact h.fe) (fun p hp => ?_)
  obtain ⟨j, hj, rfl⟩ := List.mem_map.1 hp
  exact ⟨hz j (List.mem_range.1 hj), rfl⟩
theorem JN.start (hdr : Below w.heap.size w w.drew) (hL : ∀ i, ¬ L i) : JN ops σ N sp V R ka T a0 w L a0 w.drew :=
  ⟨Fe.refl _ _, fun j _ _ h => absurd h (hL _), fun j _ _ h => absurd h (hL _), fun j o _ hl => absurd hl (hL _), fun _ => hdr, fun h => absurd h (hL _)⟩
end

end Go.Proofs.YtfhghijefjhehaaDoor
