/-
  Texts put together: Jm Jn Jo.
-/
import Derived.Test.YtfhghijefjhehaaDoorMK
import Derived.Test.YtfhghijefjhehaaDoorJt
/-! Jm -/
namespace Go.Proofs.YtfhghijefjhehaaDoor
open Go.RowKit Go.Maps Go.ChangeMaps Go.MapKept Go.WideMaps
set_option linter.unusedVariables false

theorem there_any (m g : Bool) (n : Int) (w : World) : Calls Tryd.prog 36 #[.agg #[.bool m, .bool g, .int .i64 n]] w fun e w' => e = .returned (.bool (m && !g)) ∧ Below w.heap.size w w' := by
  go_enter Tryd.func36, Tryd.ntmps36
  cases m
  · go_wp2
    go_ret
    exact ⟨by simp, (Below.refl _ _).alloc (Nat.le_refl _) _⟩
  · go_wp2
    go_ret
    exact ⟨by simp, (Below.refl _ _).alloc (Nat.le_refl _) _⟩

/-- A sight at block s, its map at block m, behind the deeds V. -/
def SG (w : World) (s m : Nat) (V : List Dd) : Prop := (∃ c : Int, w.heap[s]? = some (.cells #[.map (some m), .int .i64 c] 93 (0, 0))) ∧ MS w m V

theorem newSight_any (w : World) : Calls Tryd.prog 33 #[] w fun e w' => ∃ s m, e = .returned (.pointer (some ⟨s, 0, none⟩)) ∧ SG w' s m [] ∧ w.heap.size ≤ s ∧ w.heap.size ≤ m ∧ Below w.heap.size w w' := by
  have hmm := @run_makeMap Tryd.prog
  have h1 := MS.made w
  have hS : SG ((w.alloc (.map #[] 0)).alloc (.cells #[.map (some w.heap.size), .int .i64 0] 93)) (w.heap.size + 1) w.heap.size [] := by
    refine ⟨⟨0, ?_⟩, h1.fr (Fr.alloc (fun _ => False) _ _) (fun h => h)⟩
    have := heap_alloc_new (w.alloc (.map #[] 0)) (.cells #[.map (some w.heap.size), .int .i64 0] 93)
    rwa [World.size_alloc] at this
  have HS := hd hS
  clear h1 hS
  go_enter Tryd.func33, Tryd.ntmps33
  go_wp2
  go_ret
  exact ⟨_, _, rfl, HS.out, by omega, Nat.le_refl _, ((Below.refl _ _).alloc (Nat.le_refl _) _).alloc (by simp) _⟩

end Go.Proofs.YtfhghijefjhehaaDoor

/-! Jn -/
namespace Go.Proofs.YtfhghijefjhehaaDoor
open Go.RowKit Go.Maps Go.ChangeMaps Go.MapKept Go.WideMaps
set_option linter.unusedVariables false

theorem SG.fr {S : Nat → Prop} {w w' : World} {s m : Nat} {V : List Dd} (h : SG w s m V) (hF : Fr S w w') (h1 : ¬ S s) (h2 : ¬ S m) : SG w' s m V := by
  obtain ⟨⟨c, hc⟩, hm⟩ := h
  exact ⟨⟨c, hF.keeps hc h1⟩, hm.fr hF h2⟩
theorem SG.below {w w' : World} {s m : Nat} {V : List Dd} (h : SG w s m V) (hb : Below w.heap.size w w') : SG w' s m V := h.fr (S := fun _ => False) (Fr.of_below hb) (fun h => h) (fun h => h)
theorem SG.ne {w : World} {s m : Nat} {V : List Dd} (h : SG w s m V) : s ≠ m := by
  obtain ⟨⟨c, hc⟩, hm⟩ := h
  obtain ⟨es, clock, hb⟩ := hm.map
  rintro rfl
  rw [hc] at hb
  cases hb
theorem SG.lt {w : World} {s m : Nat} {V : List Dd} (h : SG w s m V) : s < w.heap.size ∧ m < w.heap.size := ⟨by obtain ⟨⟨c, hc⟩, -⟩ := h; exact block_lt hc, h.2.lt⟩

theorem fate_app (V : List Dd) (d : Dd) : fV (madeB V (dEl d) || decide (d.e.o.kind = 1)) (goneB V (dEl d) || decide (d.e.o.kind ≠ 1)) = fV (madeB (V ++ [d]) (dEl d)) (goneB (V ++ [d]) (dEl d)) := by
  rw [made_app, gone_app]
  by_cases h : d.e.o.kind = 1 <;> simp [h]

/-- Within see: the deed's box, the fate at block f. -/
def SeI (w wx : World) (s m : Nat) (V : List Dd) (db : Array Value) (f : Nat) (mB gB : Bool) : Prop :=
  SG wx s m V ∧ wx.heap[w.heap.size]? = some (.cells db 89 (0, 0)) ∧ wx.heap[f]? = some (.cells #[.bool mB, .bool gB, .int .i64 0] 95 (0, 0)) ∧ (w.heap.size < f ∧ s < w.heap.size ∧ m < w.heap.size) ∧ Fr (fun k => k = s ∨ k = m) w wx
theorem SeI.below {w wx u : World} {s m : Nat} {V : List Dd} {db : Array Value} {f : Nat} {mB gB : Bool} (h : SeI w wx s m V db f mB gB) (hb : Below wx.heap.size wx u) : SeI w u s m V db f mB gB := by
  obtain ⟨h1, h2, h3, h4, h5⟩ := h
  have hF : Fr (fun _ => False) wx u := Fr.of_below hb
  exact ⟨h1.below hb, hF.keeps h2 (fun h => h), hF.keeps h3 (fun h => h), h4, h5.next hF (fun _ _ h => h.elim)⟩
theorem SeI.count {w wx : World} {s m : Nat} {V : List Dd} {db : Array Value} {f : Nat} {mB gB : Bool} (h : SeI w wx s m V db f mB gB) (c : Int) : SeI w (wx.setCell ⟨s, 1, none⟩ (.int .i64 c)) s m V db f mB gB := by
  obtain ⟨h1, h2, h3, h4, h5⟩ := h
  have hF : Fr (fun k => k = s) wx (wx.setCell ⟨s, 1, none⟩ (.int .i64 c)) := Fr.setCell _ _ _ rfl
  have hne := h1.ne
  obtain ⟨⟨c0, hc⟩, hm⟩ := h1
  refine ⟨⟨⟨c, ?_⟩, hm.fr hF (fun e => hne e.symm)⟩, hF.keeps h2 (by omega), hF.keeps h3 (by omega), h4, h5.next hF (fun k _ h => .inl h)⟩
  have := set_row hc 1 (.int .i64 c)
  simpa using this
theorem SeI.mark {w wx : World} {s m : Nat} {V : List Dd} {db : Array Value} {f : Nat} {mB gB : Bool} (h : SeI w wx s m V db f mB gB) : SeI w (wx.setCell ⟨f, 0, none⟩ (.bool true)) s m V db f true gB ∧ SeI w (wx.setCell ⟨f, 1, none⟩ (.bool true)) s m V db f mB true := by
  obtain ⟨h1, h2, h3, h4, h5⟩ := h
  have hF0 : Fr (fun k => k = f) wx (wx.setCell ⟨f, 0, none⟩ (.bool true)) := Fr.setCell _ _ _ rfl
  have hF1 : Fr (fun k => k = f) wx (wx.setCell ⟨f, 1, none⟩ (.bool true)) := Fr.setCell _ _ _ rfl
  refine ⟨⟨h1.fr hF0 (by omega) (by omega), hF0.keeps h2 (by omega), ?_, h4, h5.next hF0 (fun k hk h => by omega)⟩, ⟨h1.fr hF1 (by omega) (by omega), hF1.keeps h2 (by omega), ?_, h4, h5.next hF1 (fun k hk h => by omega)⟩⟩
  · have := set_row h3 0 (.bool true)
    simpa using this
  · have := set_row h3 1 (.bool true)
    simpa using this

set_option maxRecDepth 100000 in
set_option maxHeartbeats 4000000 in
theorem see_any (w : World) (s m : Nat) (V : List Dd) (d : Dd) (h : SG w s m V) (hwf : wfE (dEl d)) (hn : V.length < 9223372036854775807) :
    Calls Tryd.prog 34 #[.pointer (some ⟨s, 0, none⟩), .agg (ddc d).toArray] w fun e w' => e = .returned (.tuple #[]) ∧ SG w' s m (V ++ [d]) ∧ Fr (fun k => k = s ∨ k = m) w w' := by
  obtain ⟨⟨dt, ⟨dk, dp, dc, dl, ds⟩⟩, ec, el, es⟩ := d
  simp only [ddc]
  have hb : Below w.heap.size w (w.alloc (.cells #[.int .i64 dt, .int .i64 dk, .int .i64 dp, .int .u8 dc, .int .i64 dl, .int .i64 ds, .int .u8 ec, .int .i64 el, .int .i64 es] 89)) := (Below.refl _ _).alloc (Nat.le_refl _) _
  have hE := hd (heap_alloc_new w (.cells #[.int .i64 dt, .int .i64 dk, .int .i64 dp, .int .u8 dc, .int .i64 dl, .int .i64 ds, .int .u8 ec, .int .i64 el, .int .i64 es] 89))
  have HS := hd (h.below hb)
  have HB := hd hb
  have HN := hd hn
  have HW := hd hwf
  have LT := hd h.lt
  clear h hb hn hwf
  go_enter Tryd.func34, Tryd.ntmps34
  go_upto_region 1 with fail
  generalize hw1 : w.alloc (.cells #[.int .i64 dt, .int .i64 dk, .int .i64 dp, .int .u8 dc, .int .i64 dl, .int .i64 ds, .int .u8 ec, .int .i64 el, .int .i64 es] 89) = w1 at *
  clear hw1
  have e1 := cell_row hE.out 1; have e6 := cell_row hE.out 6; have e7 := cell_row hE.out 7; have e8 := cell_row hE.out 8
  simp at e1 e6 e7 e8
  obtain ⟨⟨c, hc⟩, hm⟩ := HS.out
  have s0 := cell_row hc 0
  simp at s0
  have lk0 := MS.look (w := w1.drew) (hm.fr (Fr.drew (fun _ => False) _) (fun h => h)) HW.out
  have lk1 := MS.look (w := (w1.alloc (.cells #[.bool false, .bool false, .int .i64 0] 95)).drew) ((hm.fr (Fr.alloc (fun _ => False) _ _) (fun h => h)).fr (Fr.drew (fun _ => False) _) (fun h => h)) HW.out
  simp only [dEl, elV, fV] at lk0 lk1
  generalize hmB : madeB V (ec, el, es) = mB at lk0 lk1
  generalize hgB : goneB V (ec, el, es) = gB at lk0 lk1
  have HMB := hd hmB
  have HGB := hd hgB
  clear hmB hgB
  clear hm hc
  have GB : Hid (SeI w (w1.alloc (.cells #[.bool mB, .bool gB, .int .i64 0] 95)).drew s m V #[.int .i64 dt, .int .i64 dk, .int .i64 dp, .int .u8 dc, .int .i64 dl, .int .i64 ds, .int .u8 ec, .int .i64 el, .int .i64 es] w1.heap.size mB gB) := by
    have hF : Fr (fun _ => False) w1 (w1.alloc (.cells #[.bool mB, .bool gB, .int .i64 0] 95)).drew := (Fr.alloc (fun _ => False) _ _).trans (Fr.drew _ _)
    refine ⟨HS.out.fr (S := fun _ => False) hF (fun h => h) (fun h => h), hF.keeps hE.out (fun h => h), heap_alloc_new _ _, ⟨block_lt hE.out, LT.out⟩, ?_⟩
    have h0 : Fr (fun k => k = s ∨ k = m) w w1 := Fr.of_below HB.out
    exact h0.next hF (fun _ _ (h : False) => h.elim)
  go_cut [4] (fun v wx => ∃ f, v = .pointer (some ⟨f, 0, none⟩) ∧ Hid (SeI w wx s m V #[.int .i64 dt, .int .i64 dk, .int .i64 dp, .int .u8 dc, .int .i64 dl, .int .i64 ds, .int .u8 ec, .int .i64 el, .int .i64 es] f mB gB))
  case rest =>
    obtain ⟨f, rfl, HI⟩ := hcut
    clear GB lk0 lk1 s0 e1 e6 e7 e8
    obtain ⟨w2, rfl⟩ : ∃ u, u = wc := ⟨wc, rfl⟩
    have f0 := cell_row HI.out.2.2.1 0; have f1 := cell_row HI.out.2.2.1 1; have f2 := cell_row HI.out.2.2.1 2
    simp at f0 f1 f2
    go_upto_if 13 with (go_at_call 36; refine (there_any _ _ _ _).mono ?_; rintro e u ⟨rfl, bu⟩)
    have H3 := hd (HI.out.below bu)
    clear HI bu f0 f1 f2
    go_cut [] (fun wx => Hid (SeI w wx s m V #[.int .i64 dt, .int .i64 dk, .int .i64 dp, .int .u8 dc, .int .i64 dl, .int .i64 ds, .int .u8 ec, .int .i64 el, .int .i64 es] f mB gB))
    case first =>
      obtain ⟨⟨c, hc⟩, -⟩ := H3.out.1
      have s1 := cell_row hc 1; have fz := frozen_row hc 1
      simp at s1
      clear hc
      have Z := hd (H3.out.count (wrap64 (c - 1)))
      generalize (mB && !gB) = t at *
      cases t
      · go_wp2
        go_meet
        exact H3
      · go_wp2
        go_meet
        exact Z
    case rest =>
      clear H3 u w2
      obtain ⟨w3, rfl⟩ : ∃ u, u = wc := ⟨wc, rfl⟩
      have H4 := hcut
      clear hcut
      have e1 := cell_row H4.out.2.1 1
      simp at e1
      go_upto_if 25 with fail
      clear e1
      go_cut [] (fun wx => Hid (SeI w wx s m V #[.int .i64 dt, .int .i64 dk, .int .i64 dp, .int .u8 dc, .int .i64 dl, .int .i64 ds, .int .u8 ec, .int .i64 el, .int .i64 es] f (mB || decide (dk = 1)) (gB || decide (dk ≠ 1))))
      case first =>
        have f0 := cell_row H4.out.2.2.1 0; have f1 := cell_row H4.out.2.2.1 1; have z0 := frozen_row H4.out.2.2.1 0; have z1 := frozen_row H4.out.2.2.1 1
        simp at f0 f1
        by_cases hk : dk = 1
        · subst hk
          have Z := hd (H4.out.mark.1)
          clear H4
          go_wp2
          go_meet
          simpa using Z
        · have Z := hd (H4.out.mark.2)
          have hkb : (dk == 1) = false := by simpa using hk
          clear H4
          go_wp2
          go_meet
          simpa [hk] using Z
      case rest =>
        clear H4 w3
        obtain ⟨w4, rfl⟩ : ∃ u, u = wc := ⟨wc, rfl⟩
        have H5 := hcut
        clear hcut
        generalize hmX : (mB || decide (dk = 1)) = mX at *
        generalize hgX : (gB || decide (dk ≠ 1)) = gX at *
        have HMX := hd hmX
        have HGX := hd hgX
        clear hmX hgX
        have f0 := cell_row H5.out.2.2.1 0; have f1 := cell_row H5.out.2.2.1 1; have f2 := cell_row H5.out.2.2.1 2
        simp at f0 f1 f2
        go_upto_if 29 with (go_at_call 36; refine (there_any _ _ _ _).mono ?_; rintro e u ⟨rfl, bu⟩)
        have H6 := hd (H5.out.below bu)
        clear H5 bu f0 f1 f2
        go_cut [] (fun wx => Hid (SeI w wx s m V #[.int .i64 dt, .int .i64 dk, .int .i64 dp, .int .u8 dc, .int .i64 dl, .int .i64 ds, .int .u8 ec, .int .i64 el, .int .i64 es] f mX gX))
        case first =>
          obtain ⟨⟨c, hc⟩, -⟩ := H6.out.1
          have s1 := cell_row hc 1; have fz := frozen_row hc 1
          simp at s1
          clear hc
          have Z := hd (H6.out.count (wrap64 (c + 1)))
          generalize (mX && !gX) = t at *
          cases t
          · go_wp2
            go_meet
            exact H6
          · go_wp2
            go_meet
            exact Z
        case rest =>
          clear H6 u w4
          obtain ⟨w5, rfl⟩ : ∃ u, u = wc := ⟨wc, rfl⟩
          have H7 := hcut
          clear hcut
          obtain ⟨⟨c, hc⟩, hm⟩ := H7.out.1
          have s0 := cell_row hc 0
          have e6 := cell_row H7.out.2.1 6; have e7 := cell_row H7.out.2.1 7; have e8 := cell_row H7.out.2.1 8
          have f0 := cell_row H7.out.2.2.1 0; have f1 := cell_row H7.out.2.2.1 1; have f2 := cell_row H7.out.2.2.1 2
          simp at s0 e6 e7 e8 f0 f1 f2
          obtain ⟨w6, hrun, hMS, hFr⟩ := MS.put (w := w5.drew) (hm.fr (Fr.drew (fun _ => False) _) (fun h => h)) (d := ⟨⟨dt, ⟨dk, dp, dc, dl, ds⟩⟩, ec, el, es⟩) HW.out HN.out (v := fV mX gX) (by
            rw [← HMX.out, ← HGX.out, ← HMB.out, ← HGB.out]
            exact fate_app V ⟨⟨dt, ⟨dk, dp, dc, dl, ds⟩⟩, ec, el, es⟩)
          simp only [dEl, elV, fV] at hrun
          have Z : Hid (SG w6 s m (V ++ [⟨⟨dt, ⟨dk, dp, dc, dl, ds⟩⟩, ec, el, es⟩]) ∧ Fr (fun k => k = s ∨ k = m) w w6) := by
            have hne := H7.out.1.ne
            refine ⟨⟨⟨c, hFr.keeps (show w5.drew.heap[s]? = _ from hc) (fun e => hne e)⟩, hMS⟩, ?_⟩
            exact (H7.out.2.2.2.2.next (Fr.drew (fun _ => False) _) (fun _ _ (h : False) => h.elim)).next hFr (fun k _ h => .inr h)
          have nn := H7.out.1.ne
          have ls := H7.out.2.2.2.1
          have JC := hd (fun (b o : Nat) (v : Value) (hb : b < w5.heap.size) (hn : b ≠ m) (h : w5.cell? ⟨b, o, none⟩ = some v) => (hFr.cell (p := ⟨b, o, none⟩) (show b < w5.drew.heap.size from hb) hn).trans h)
          have lw := block_lt H7.out.2.1
          have lf := block_lt H7.out.2.2.1
          have j0 := JC.out s 0 _ (by omega) nn s0
          have j1 := JC.out w.heap.size 6 _ lw (by omega) e6
          have j2 := JC.out w.heap.size 7 _ lw (by omega) e7
          have j3 := JC.out w.heap.size 8 _ lw (by omega) e8
          have j4 := JC.out f 0 _ lf (by omega) f0
          have j5 := JC.out f 1 _ lf (by omega) f1
          have j6 := JC.out f 2 _ lf (by omega) f2
          clear hm hc hMS hFr H7 nn ls JC lw lf
          have k0 : w5.drew.cell? ⟨s, 0, none⟩ = some (.map (some m)) := s0
          have k1 : w5.drew.cell? ⟨w.heap.size, 6, none⟩ = some (.int .u8 ec) := e6
          have k2 : w5.drew.cell? ⟨w.heap.size, 7, none⟩ = some (.int .i64 el) := e7
          have k3 : w5.drew.cell? ⟨w.heap.size, 8, none⟩ = some (.int .i64 es) := e8
          have k4 : w5.drew.cell? ⟨f, 0, none⟩ = some (.bool mX) := f0
          have k5 : w5.drew.cell? ⟨f, 1, none⟩ = some (.bool gX) := f1
          have k6 : w5.drew.cell? ⟨f, 2, none⟩ = some (.int .i64 0) := f2
          go_upto_region 9 with fail
          go_region_held3 (fun U => U.cell? ⟨s, 0, none⟩ = some (.map (some m)) ∧ U.cell? ⟨w.heap.size, 6, none⟩ = some (.int .u8 ec) ∧ U.cell? ⟨w.heap.size, 7, none⟩ = some (.int .i64 el) ∧ U.cell? ⟨w.heap.size, 8, none⟩ = some (.int .i64 es) ∧ U.cell? ⟨f, 0, none⟩ = some (.bool mX) ∧ U.cell? ⟨f, 1, none⟩ = some (.bool gX) ∧ U.cell? ⟨f, 2, none⟩ = some (.int .i64 0)) (first | (with_reducible exact ⟨by assumption, by assumption, by assumption, by assumption, by assumption, by assumption, by assumption⟩) | (go_keep; done)) (fail)
          all_goals
            go_wp2
            go_end0
            exact ⟨rfl, Z.out⟩
  have s1 : w1.drew.cell? ⟨s, 0, none⟩ = some (.map (some m)) := s0
  have y6 : w1.drew.cell? ⟨w.heap.size, 6, none⟩ = some (.int .u8 ec) := e6
  have y7 : w1.drew.cell? ⟨w.heap.size, 7, none⟩ = some (.int .i64 el) := e7
  have y8 : w1.drew.cell? ⟨w.heap.size, 8, none⟩ = some (.int .i64 es) := e8
  go_region_held3 (fun U => U.cell? ⟨s, 0, none⟩ = some (.map (some m)) ∧ U.cell? ⟨w.heap.size, 6, none⟩ = some (.int .u8 ec) ∧ U.cell? ⟨w.heap.size, 7, none⟩ = some (.int .i64 el) ∧ U.cell? ⟨w.heap.size, 8, none⟩ = some (.int .i64 es)) (first | (with_reducible exact ⟨by assumption, by assumption, by assumption, by assumption⟩) | (go_keep; done)) (fail)
  all_goals
    go_wp2_with fail
    go_meet
    exact ⟨_, rfl, GB⟩

end Go.Proofs.YtfhghijefjhehaaDoor

/-! Jo -/
namespace Go.Proofs.YtfhghijefjhehaaDoor
open Go.RowKit
set_option linter.unusedVariables false

theorem dd_cells {w : World} {β : Option Nat} {v : Value} {l : List Dd} (h : SF ddc 9 w 89 β v l) (q : Nat) (hq : q < l.length) : ∃ g cap, v = .slice (some ⟨g, 0, none⟩) l.length cap ∧ g < w.heap.size ∧ l.length ≤ cap ∧
    w.cell? ⟨g, q * 9, none⟩ = some (.int .i64 l[q].e.tag) ∧ w.cell? ⟨g, q * 9 + 1, none⟩ = some (.int .i64 l[q].e.o.kind) ∧ w.cell? ⟨g, q * 9 + 2, none⟩ = some (.int .i64 l[q].e.o.pos) ∧ w.cell? ⟨g, q * 9 + 3, none⟩ = some (.int .u8 l[q].e.o.ch) ∧ w.cell? ⟨g, q * 9 + 4, none⟩ = some (.int .i64 l[q].e.o.cl) ∧ w.cell? ⟨g, q * 9 + 5, none⟩ = some (.int .i64 l[q].e.o.sq) ∧ w.cell? ⟨g, q * 9 + 6, none⟩ = some (.int .u8 l[q].c) ∧ w.cell? ⟨g, q * 9 + 7, none⟩ = some (.int .i64 l[q].l) ∧ w.cell? ⟨g, q * 9 + 8, none⟩ = some (.int .i64 l[q].s) := by
  cases β with
  | none =>
    obtain ⟨-, rfl⟩ := h
    simp at hq
  | some g =>
    obtain ⟨cap, rfl, hR⟩ := h
    refine ⟨g, cap, rfl, hR.lt, (by obtain ⟨_, _, _, _, h4, _⟩ := hR; exact h4), ?_⟩
    have k := fun j hj => hR.cell szD q j hq hj
    exact ⟨k 0 (by omega), k 1 (by omega), k 2 (by omega), k 3 (by omega), k 4 (by omega), k 5 (by omega), k 6 (by omega), k 7 (by omega), k 8 (by omega)⟩

set_option maxRecDepth 100000 in
set_option maxHeartbeats 4000000 in
theorem deed_any {w : World} {x : Nat} {C : Int} {vL vE : Value} {S : Nat → Ls} {L : Nat → Option Nat} (h : TL w x C vL vE S L) (cN qN : Nat) (hc : cN < 65) (l : List Dd) (hl : S (130 + cN) = .ds l) (d : Dd) (hq : l[qN]? = some d) (hlen : l.length ≤ 4611686018427387904) (ok op oc : Int) :
    Calls Tryd.prog 35 #[.pointer (some ⟨x, 0, none⟩), .agg #[.int .i64 ok, .int .i64 op, .int .u8 oc, .int .i64 (cN : Int), .int .i64 ((qN : Int) + 1)]] w fun e w' => e = .returned (.agg (ddc d).toArray) ∧ Below w.heap.size w w' := by
  have hb : Below w.heap.size w ((w.alloc (.cells #[.int .i64 ok, .int .i64 op, .int .u8 oc, .int .i64 (cN : Int), .int .i64 ((qN : Int) + 1)] 46)).alloc (.cells #[.int .i64 0, .int .i64 0, .int .i64 0, .int .u8 0, .int .i64 0, .int .i64 0, .int .u8 0, .int .i64 0, .int .i64 0] 89)) := ((Below.refl _ _).alloc (Nat.le_refl _) _).alloc (by simp) _
  have hE : ((w.alloc (.cells #[.int .i64 ok, .int .i64 op, .int .u8 oc, .int .i64 (cN : Int), .int .i64 ((qN : Int) + 1)] 46)).alloc (.cells #[.int .i64 0, .int .i64 0, .int .i64 0, .int .u8 0, .int .i64 0, .int .i64 0, .int .u8 0, .int .i64 0, .int .i64 0] 89)).heap[w.heap.size]? = some (.cells #[.int .i64 ok, .int .i64 op, .int .u8 oc, .int .i64 (cN : Int), .int .i64 ((qN : Int) + 1)] 46 (0, 0)) := (heap_alloc_old _ _ (by simp)).trans (heap_alloc_new _ _)
  have hR : ((w.alloc (.cells #[.int .i64 ok, .int .i64 op, .int .u8 oc, .int .i64 (cN : Int), .int .i64 ((qN : Int) + 1)] 46)).alloc (.cells #[.int .i64 0, .int .i64 0, .int .i64 0, .int .u8 0, .int .i64 0, .int .i64 0, .int .u8 0, .int .i64 0, .int .i64 0] 89)).heap[w.heap.size + 1]? = some (.cells #[.int .i64 0, .int .i64 0, .int .i64 0, .int .u8 0, .int .i64 0, .int .i64 0, .int .u8 0, .int .i64 0, .int .i64 0] 89 (0, 0)) := by
    have := heap_alloc_new (w.alloc (.cells #[.int .i64 ok, .int .i64 op, .int .u8 oc, .int .i64 (cN : Int), .int .i64 ((qN : Int) + 1)] 46)) (.cells #[.int .i64 0, .int .i64 0, .int .i64 0, .int .u8 0, .int .i64 0, .int .i64 0, .int .u8 0, .int .i64 0, .int .i64 0] 89)
    rwa [World.size_alloc] at this
  have HE := hd hE
  have HR := hd hR
  have HB := hd hb
  have HT := hd (h.below hb)
  have HL := hd hl
  have lx := h.lt
  have HQ := hd (show ∃ hq : qN < l.length, l[qN] = d from List.getElem?_eq_some_iff.1 hq)
  obtain ⟨⟨dt, ⟨dk, dp, dc, dl, ds⟩⟩, ec, el, es⟩ := d
  simp only [ddc]
  clear h hb hE hR hl hq
  go_enter Tryd.func35, Tryd.ntmps35
  go_upto_region 1 with fail
  generalize (w.alloc (.cells #[.int .i64 ok, .int .i64 op, .int .u8 oc, .int .i64 (cN : Int), .int .i64 ((qN : Int) + 1)] 46)).alloc (.cells #[.int .i64 0, .int .i64 0, .int .i64 0, .int .u8 0, .int .i64 0, .int .i64 0, .int .u8 0, .int .i64 0, .int .i64 0] 89) = w0 at *
  obtain ⟨v, hv, hS⟩ := HT.out.slot (130 + cN) (by omega)
  rw [HL.out] at hS
  obtain ⟨hq, hqd⟩ := HQ.out
  obtain ⟨g, cap, rfl, lg, lc, d0, d1, d2, d3, d4, d5, d6, d7, d8⟩ := dd_cells (show SF ddc 9 _ 89 _ _ l from hS) qN hq
  have t0 : w0.cell? ⟨x, 133 + cN, none⟩ = some (.slice (some ⟨g, 0, none⟩) l.length cap) := by rw [show 133 + cN = 3 + (130 + cN) by omega]; exact hv
  have e3 := cell_row HE.out 3; have e4 := cell_row HE.out 4
  simp at e3 e4
  clear hS hv
  have c65 : (cN : Int) < 65 := by omega
  have ql : (qN : Int) < (l.length : Int) := by omega
  rw [hqd] at d0 d1 d2 d3 d4 d5 d6 d7 d8
  simp only at d0 d1 d2 d3 d4 d5 d6 d7 d8
  clear hqd HQ HL HT
  generalize l.length = n at *
  have ew : wrap64 ((qN : Int) + 1 - 1) = (qN : Int) := by rw [wrap64]; omega
  have ex : (qN : Int) + 1 - 1 = (qN : Int) := by omega
  have r0 := cell_row HR.out 0; have r1 := cell_row HR.out 1; have r2 := cell_row HR.out 2; have r3 := cell_row HR.out 3; have r4 := cell_row HR.out 4; have r5 := cell_row HR.out 5; have r6 := cell_row HR.out 6; have r7 := cell_row HR.out 7; have r8 := cell_row HR.out 8
  have z0 := frozen_row HR.out 0; have z1 := frozen_row HR.out 1; have z2 := frozen_row HR.out 2; have z3 := frozen_row HR.out 3; have z4 := frozen_row HR.out 4; have z5 := frozen_row HR.out 5; have z6 := frozen_row HR.out 6; have z7 := frozen_row HR.out 7; have z8 := frozen_row HR.out 8
  simp at r0 r1 r2 r3 r4 r5 r6 r7 r8
  go_region
  go_wp2
  refine bodyPost_ret (v := .agg #[.int .i64 dt, .int .i64 dk, .int .i64 dp, .int .u8 dc, .int .i64 dl, .int .i64 ds, .int .u8 ec, .int .i64 el, .int .i64 es]) (by simp [results, Tryd.results35, go_sem, r0, r1, r2, r3, r4, r5, r6, r7, r8]) rfl ?_
  refine ⟨rfl, ?_⟩
  have hb := HB.out
  refine Below.drew ?_
  iterate 9 refine Below.setCell ?_ (by simp) _
  exact hb

end Go.Proofs.YtfhghijefjhehaaDoor
