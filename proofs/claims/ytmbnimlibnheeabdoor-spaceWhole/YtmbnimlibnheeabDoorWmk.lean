/-
  makes: the walk.
-/
import Derived.Test.YtmbnimlibnheeabDoorWmr
namespace Go.Proofs.YtmbnimlibnheeabDoor
open Go.RowKit Go.Lib
set_option linter.unusedVariables false

set_option maxRecDepth 100000 in
set_option maxHeartbeats 8000000 in
theorem makes_anyV (B : Nat) (T : Nat → Prop) (w : World) (x : Nat) (s : Sd) (base : Int) (kd N ch : Int) (nop out : Bool) (vt : Value) (βt : Option Nat) (G0 : List El) (h : SAV B T w x s base vt βt G0) (hm : s.made < 1000) (hbase : base = 0 ∨ base = 32) (hlen : s.d.length < 3000) (hway : s.way.length ≤ 10000) (hc0 : 0 ≤ ch) (hc1 : ch ≤ 255) :
    Calls Tryd.prog 20 #[.pointer (some ⟨x, 0, none⟩), .agg #[.int .i64 kd, .bool nop, .bool out, .int .i64 N, .int .u8 ch]] w fun e w' => e = .returned (.bool true) ∧ Hid (∃ o T' G' vt' βt', FitO s.d.length o ∧ VO o ∧ KG s.d base s.made G0 o G' ∧ SAV B T' w' x (s.make o) base vt' βt' G' ∧ (∀ k, T' k → (T k ∧ βt ≠ some k) ∨ w.heap.size ≤ k) ∧ Fr T w w' ∧ SE w' βt vt s.d) := by
  obtain ⟨z, aw, nw, cw, vg, βg, c1, hv1, hg1, ho1⟩ := h
  obtain ⟨at', ct, rfl, hE, -⟩ := c1.te.form
  obtain ⟨U, hU⟩ : ∃ U, U = w.alloc (.cells #[.int .i64 kd, .bool nop, .bool out, .int .i64 N, .int .u8 ch] 35) := ⟨_, rfl⟩
  have bU : Below w.heap.size w U := by rw [hU]; exact (Below.refl _ _).alloc (Nat.le_refl _) _
  have XU : U.heap[w.heap.size]? = some (.cells #[.int .i64 kd, .bool nop, .bool out, .int .i64 N, .int .u8 ch] 35 (0, 0)) := by rw [hU]; exact heap_alloc_new w _
  have KU := c1.below bU
  obtain ⟨⟨e0, e1, e2, e3, e4, e5, e6⟩, fx⟩ := KU.cells
  obtain ⟨a0, a1, a2, a3, a4⟩ := cellsA5 XU
  have xl := KU.lt
  have al := block_lt XU
  obtain ⟨n, hn⟩ : ∃ n, s.d.length = n := ⟨_, rfl⟩
  obtain ⟨m, hmm⟩ : ∃ m, s.made = m := ⟨_, rfl⟩
  have HH := hd (And.intro c1 (And.intro hv1 (And.intro hg1 (And.intro ho1 (And.intro hE (And.intro hn hmm))))))
  rw [hn] at e0 hlen
  rw [hmm] at e2 hm
  have HU := hd (And.intro hU (And.intro bU XU))
  have hw1 : IntKind.i64.wrap ((n : Int) + 1) = (n : Int) + 1 := by rw [IntKind.wrap_i64]; omega
  have CI : Hid (∀ W, Calls Tryd.prog 19 #[.int .i64 N, .int .i64 ((n : Int) + 1)] W fun e w' => ∃ p : Nat, e = .returned (.int .i64 p) ∧ p ≤ n ∧ w' = W) := fun W => by
    have := into_any N (n + 1) W (by omega) (by omega)
    refine this.mono ?_
    rintro e w' ⟨p, rfl, hp, rfl⟩
    exact ⟨p, rfl, by omega, rfl⟩
  have AR : Hid (32 ≤ IntKind.u8.wrap (32 + ch.tmod 95) ∧ IntKind.u8.wrap (32 + ch.tmod 95) ≤ 126 ∧ 1 ≤ IntKind.i64.wrap (IntKind.i64.wrap (base + 1) + IntKind.i64.wrap ((m : Int) / 64)) ∧ IntKind.i64.wrap (IntKind.i64.wrap (base + 1) + IntKind.i64.wrap ((m : Int) / 64)) ≤ 64 ∧ 1 ≤ IntKind.i64.wrap (1 + (m : Int).tmod 64) ∧ IntKind.i64.wrap (1 + (m : Int).tmod 64) ≤ 64 ∧ (IntKind.i64.wrap (IntKind.i64.wrap (base + 1) + IntKind.i64.wrap ((m : Int) / 64)), IntKind.i64.wrap (1 + (m : Int).tmod 64)) = keyO base m) := by
    rw [Int.tmod_eq_emod_of_nonneg hc0, Int.tmod_eq_emod_of_nonneg (by omega : (0 : Int) ≤ m)]
    simp only [IntKind.wrap_u8, IntKind.wrap_i64]
    unfold keyO
    simp only [Prod.mk.injEq]
    show _ ∧ _
    omega
  clear c1 hv1 hg1 ho1 hE hU bU XU KU hn hmm fx
  go_enter Tryd.func20, Tryd.ntmps20
  go_wp2_with fail
  rw [← HU.out.1]
  go_cut [5] (fun v wx => v = .pointer (some ⟨U.heap.size, 0, none⟩) ∧ Hid (∃ q : Nat, ∃ c' cl' sq' : Int, q ≤ n ∧ 32 ≤ c' ∧ c' ≤ 126 ∧ 1 ≤ cl' ∧ cl' ≤ 64 ∧ 1 ≤ sq' ∧ sq' ≤ 64 ∧ (cl', sq') = keyO base m ∧ wx.heap[U.heap.size]? = some (.cells #[.int .i64 1, .int .i64 q, .int .u8 c', .int .i64 cl', .int .i64 sq'] 37 (0, 0)) ∧ Below U.heap.size U wx))
  case first =>
    go_region_held3 (fun V => V.cell? ⟨x, 0, none⟩ = some (.slice at' n ct) ∧ V.cell? ⟨x, 2, none⟩ = some (.int .i64 (m : Int)) ∧ V.cell? ⟨x, 5, none⟩ = some (.int .i64 base) ∧ V.cell? ⟨w.heap.size, 3, none⟩ = some (.int .i64 N) ∧ V.cell? ⟨w.heap.size, 4, none⟩ = some (.int .u8 ch)) (first | (with_reducible exact ⟨by assumption, by assumption, by assumption, by assumption, by assumption⟩) | (go_keep; done)) (first | (go_at_call 19; refine (CI.out _).mono ?_; rintro e w3 ⟨q, rfl, hq, rfl⟩))
    all_goals
      go_wp2_with fail
      go_meet
      exact ⟨rfl, q, _, _, _, hq, AR.out.1, AR.out.2.1, AR.out.2.2.1, AR.out.2.2.2.1, AR.out.2.2.2.2.1, AR.out.2.2.2.2.2.1, AR.out.2.2.2.2.2.2, heap_alloc_new U _, ((Below.refl _ _).alloc (Nat.le_refl _) _).drew⟩
  case rest =>
    obtain ⟨wa, rfl⟩ : ∃ u, u = wc := ⟨wc, rfl⟩
    obtain ⟨rfl, h5⟩ := hcut
    obtain ⟨q, c', cl', sq', hq, g1, g2, g3, g4, g5, g6, g7, X5, b5⟩ := h5.out
    have HG7 := hd g7
    clear g7
    obtain ⟨c1, hv1, hg1, ho1, hE, hn, hmm⟩ := HH.out
    have bw : Below w.heap.size w wa := HU.out.2.1.trans (b5.mono HU.out.2.1.size)
    have KA := c1.below bw
    have XA := (b5.block _ (block_lt HU.out.2.2)).trans HU.out.2.2
    clear e0 e1 e2 e3 e4 e5 e6 a0 a1 a2 a3 a4 xl al
    obtain ⟨⟨e0, e1, e2, e3, e4, e5, e6⟩, fx⟩ := KA.cells
    obtain ⟨a0, a1, a2, a3, a4⟩ := cellsA5 XA
    obtain ⟨⟨y0, y1, y2, y3, y4⟩, ⟨f0, f1, f2, f3, f4⟩⟩ := cells5 X5
    have f6 := fx 6
    have xl := KA.lt
    have al := block_lt XA
    have yl := block_lt X5
    rw [hn] at e0
    have hUw : w.heap.size < U.heap.size := block_lt HU.out.2.2
    have H5 := hd (And.intro KA (And.intro bw (And.intro X5 (And.intro hv1 (And.intro hg1 (And.intro ho1 (And.intro hE (And.intro hn hmm))))))))
    clear c1 hv1 hg1 ho1 hE hn hmm bw KA XA X5 b5 fx h5 HH HU CI AR
    go_upto_if 41 with fail
    go_cut [] (fun wx => Hid (MKG T w wx x z s base (.slice at' s.d.length ct) aw nw cw βt U.heap.size m n G0))
    case first =>
      obtain ⟨KA, bw, X5, hv1, hg1, ho1, hE, hn, hmm⟩ := H5.out
      cases nop with
      | true =>
        have Z : Hid (MKG T w (Go.Proofs.YtmbnimlibnheeabDoor.set5 wa U.heap.size 0 0 0 0 cl' sq') x z s base (.slice at' s.d.length ct) aw nw cw βt U.heap.size m n G0) :=
          MKG.of (o := ⟨0, 0, 0, cl', sq'⟩) ⟨HG7.out, .inl ⟨rfl, rfl⟩⟩ (.inl ⟨rfl, rfl, rfl⟩) ⟨g3, g4, g5, g6, .inl ⟨rfl, rfl⟩⟩ KA (by omega) ho1 hUw bw (Fr.set5 wa U.heap.size 0 0 0 0 cl' sq') (set5_op (x := ⟨1, q, c', cl', sq'⟩) X5 0 0 0 cl' sq')
        clear KA bw X5 hv1 hg1 ho1 hE hn hmm
        go_wp2_with fail
        go_meet
        exact Z
      | false =>
        have Z3 : Hid (MKG T w wa x z s base (.slice at' s.d.length ct) aw nw cw βt U.heap.size m n G0) :=
          MKG.of (o := ⟨1, q, c', cl', sq'⟩) ⟨HG7.out, .inr (.inl ⟨rfl, rfl⟩)⟩ (.inr (.inl ⟨rfl, q, rfl, hq⟩)) ⟨g3, g4, g5, g6, .inr (.inl ⟨rfl, g1, g2⟩)⟩ KA (by omega) ho1 hUw bw (Fr.refl _ _) X5
        cases out with
        | false =>
          clear KA bw X5 hv1 hg1 ho1 hE hn hmm
          go_wp2_with fail
          go_meet
          exact Z3
        | true =>
          by_cases hn0 : n = 0
          · subst hn0
            clear KA bw X5 hv1 hg1 ho1 hE hn hmm
            go_wp2_with fail
            go_meet
            exact Z3
          · have hp : (0 : Int) < n := by omega
            clear Z3
            obtain ⟨wb, hwb⟩ : ∃ u, u = wa.setCell ⟨U.heap.size, 0, none⟩ (.int .i64 2) := ⟨_, rfl⟩
            have Fb : Fr (· = U.heap.size) wa wb := by rw [hwb]; exact Fr.setCell _ _ _ rfl
            have Xb : wb.heap[U.heap.size]? = some (.cells #[.int .i64 2, .int .i64 q, .int .u8 c', .int .i64 cl', .int .i64 sq'] 37 (0, 0)) := by
              rw [hwb]
              have := set_row X5 0 (.int .i64 2)
              simpa [opc] using this
            have nx : x ≠ U.heap.size := by have := (ho1 x KA.tx).2; omega
            have nw' : w.heap.size ≠ U.heap.size := by omega
            have d0 := (Fb.cell (p := ⟨x, 0, none⟩) xl nx).trans e0
            have d3 := (Fb.cell (p := ⟨w.heap.size, 3, none⟩) al nw').trans a3
            obtain ⟨⟨b0, b1, b2, b3, b4⟩, ⟨h0, h1, h2, h3, h4⟩⟩ := cells5 Xb
            have lb := block_lt Xb
            have xb : x < wb.heap.size := by have := Fb.size; omega
            have ab : w.heap.size < wb.heap.size := by have := Fb.size; omega
            have CI2 : Hid (∀ W, Calls Tryd.prog 19 #[.int .i64 N, .int .i64 (n : Int)] W fun e w' => ∃ p : Nat, e = .returned (.int .i64 p) ∧ p < n ∧ w' = W) := fun W => into_any N n W (by omega) (by omega)
            have HWb := hd hwb
            have HFb := hd (And.intro Fb Xb)
            clear hwb Fb Xb KA bw X5 hv1 hg1 ho1 hE hn hmm
            go_wp2_with fail
            rw [← HWb.out]
            go_cut [] (fun wx => Hid (∃ q2 : Nat, q2 < n ∧ wx.heap[U.heap.size]? = some (.cells #[.int .i64 2, .int .i64 q2, .int .u8 c', .int .i64 cl', .int .i64 sq'] 37 (0, 0)) ∧ Fr (· = U.heap.size) wa wx))
            case first =>
              clear e0 e1 e2 e3 e4 e5 e6 a0 a3 a4 y0 y1 y2 y3 y4 f0 f1 f2 f3 f4 f6 xl al yl
              have Z : Hid (∀ q2 : Nat, ∀ mm, q2 < n → ∃ q3 : Nat, q3 < n ∧ ((wb.setCell ⟨U.heap.size, 1, none⟩ (.int .i64 (q2 : Int))).drewN mm).heap[U.heap.size]? = some (.cells #[.int .i64 2, .int .i64 q3, .int .u8 c', .int .i64 cl', .int .i64 sq'] 37 (0, 0)) ∧ Fr (· = U.heap.size) wa ((wb.setCell ⟨U.heap.size, 1, none⟩ (.int .i64 (q2 : Int))).drewN mm)) := by
                intro q2 mm hq2
                refine ⟨q2, hq2, ?_, HFb.out.1.trans ((Fr.setCell (S := (· = U.heap.size)) wb ⟨U.heap.size, 1, none⟩ _ rfl).trans (Fr.drewN _ _ _))⟩
                have := set_row HFb.out.2 1 (.int .i64 (q2 : Int))
                change (wb.setCell ⟨U.heap.size, 1, none⟩ (.int .i64 (q2 : Int))).heap[U.heap.size]? = _
                simpa using this
              go_region_law (first | (go_simp; go_at_call 19; refine (CI2.out _).mono ?_; rintro ex w3 ⟨q2, rfl, hq2, rfl⟩))
              all_goals
                go_wp2_with fail
                go_meet
                first | exact Z.out q2 1 hq2 | exact Z.out q2 _ hq2
            case rest =>
              obtain ⟨wd, rfl⟩ : ∃ u, u = wc := ⟨wc, rfl⟩
              obtain ⟨q2, hq2, Xd, Fd⟩ := hcut.out
              obtain ⟨KA, bw, X5, hv1, hg1, ho1, hE, hn, hmm⟩ := H5.out
              obtain ⟨we, hwe⟩ : ∃ u, u = wd.setCell ⟨U.heap.size, 2, none⟩ (.int .u8 0) := ⟨_, rfl⟩
              have Fe : Fr (· = U.heap.size) wa we := by rw [hwe]; exact Fd.trans (Fr.setCell _ _ _ rfl)
              have Xe : we.heap[U.heap.size]? = some (.cells #[.int .i64 2, .int .i64 q2, .int .u8 0, .int .i64 cl', .int .i64 sq'] 37 (0, 0)) := by
                rw [hwe]
                have := set_row Xd 2 (.int .u8 0)
                simpa using this
              have KE := KA.fr Fe (fun j hj he => by have := (ho1 j hj).2; omega)
              obtain ⟨⟨d0', -, -, -, -, -, d6⟩, fxe⟩ := KE.cells
              rw [hn] at d0'
              obtain ⟨⟨-, -, l2, -⟩, ⟨-, -, l2f, -⟩⟩ := cells5 Xd
              obtain ⟨⟨-, o1, -⟩, -⟩ := cells5 Xe
              have ll := block_lt Xd
              have lle := block_lt Xe
              have xle := KE.lt
              obtain ⟨af, cf, hvf, hEe, -⟩ := KE.te.form
              injection hvf with hv1' hv2' hv3'
              subst hv1' hv3'
              rw [hn] at hEe
              have hxl : q2 < s.d.length := by omega
              obtain ⟨bt, ot, rfl, hbt⟩ := hEe.addr (by omega)
              obtain ⟨r0, r1, r2⟩ := hEe.at q2 hq2 hxl
              have hnc := hEe.2.1
              have hsd : s.d[q2]? = some s.d[q2] := List.getElem?_eq_getElem hxl
              generalize s.d[q2] = el at *
              obtain ⟨ea, eb, ec⟩ := el
              simp only at r0 r1 r2
              obtain ⟨a9, n9, c9, wf, hr, ⟨u1, u2, u3⟩, gg, KF, sF, hgg, FF⟩ := SC.gone KE (el := (ea, eb, ec)) (((Below.refl _ _).drew).alloc (Nat.le_refl _) (.cells #[.int .u8 ea, .int .i64 eb, .int .i64 ec] 41)) (heap_alloc_new we.drew _) (by omega)
              have szX : (we.drew.alloc (.cells #[.int .u8 ea, .int .i64 eb, .int .i64 ec] 41)).heap.size = we.heap.size + 1 := by simp
              have hwz := bw.size
              have hFez := Fe.size
              have nTb : ¬ T U.heap.size := fun hh => by have := (ho1 _ hh).2; omega
              have Z : Hid (MKG T w (wf.setCell ⟨x, 6, none⟩ (.slice a9 n9 c9)) x z s base (.slice (some ⟨bt, ot, none⟩) s.d.length ct) aw nw cw βt U.heap.size m n G0) := by
                refine ⟨⟨2, q2, 0, cl', sq'⟩, _, _, _, _, .inr (.inr ⟨rfl, q2, rfl, hq2⟩), ⟨g3, g4, g5, g6, .inr (.inr ⟨rfl, rfl⟩)⟩, KF, by simp; omega, fun k hk => .inl hk, ?_, FF.keeps Xe nTb, ((Fr.of_below bw).next Fe (fun j hj he => by omega)).trans FF, HG7.out, .inr (.inr ⟨rfl, _, by simpa using hsd, rfl⟩)⟩
                have hf := FF.size
                rintro k (hk | hk)
                · exact ⟨.inl hk, by have := (ho1 k hk).2; omega, fun he => nTb (he ▸ hk)⟩
                · exact ⟨.inr (by omega), by have := (Fr.setCell (S := (· = x)) wf ⟨x, 6, none⟩ (.slice a9 n9 c9) rfl).size; omega, by omega⟩
              have HWe := hd hwe
              rw [show we.drew.heap.size = we.heap.size from rfl] at hr
              clear hsd Fe Xd Xe Fd KE fxe hEe hnc KF sF hgg FF szX hwz hFez nTb KA bw X5 hv1 hg1 ho1 hE hmm hwe hcut e0 e1 e2 e3 e4 e5 e6 y0 y1 y2 y3 y4 f0 f1 f2 f3 f4 f6 d0 d3 b0 b1 b2 b3 b4 h0 h1 h2 h3 h4 CI2
              go_wp2_with fail
              rw [← HWe.out]
              go_region_law (refine step_append_k rfl (.tmp 72) (.tmp 81) 26 26 rfl _ _ (by simp [Act.eval]) (by simp [Act.eval]) (hr _) ?_)
              all_goals
                go_wp2_with fail
                go_meet
                exact Z
    case rest =>
      rename_i K0 hK0
      refine hK0 _ _ ?_
      exact makes_restV B T w _ x z _ s base at' ct aw nw cw βt m n hm hlen hway H5.out.2.2.2.2.2.2.2.1 H5.out.2.2.2.2.2.2.2.2 H5.out.2.2.2.1 H5.out.2.2.2.2.2.1 H5.out.1.tx hUw G0 hcut _ _ _ _ _ _ _ _ _ _ _ _ _ _ _ _ _ _ _ _ _ _ _ _ _ _ _ _ _ _ _ _ _ _ _ _ _ _ _ _ _ _ _ _ _ _ _ _ _ _ _ _ _ _ _ _ _ _ _ _ _ _ _ _ _ _ _ _ _ _ _ _ _ _ _ _ _ _ _ _ _ _ _ _ _ _ _ _ _ _ _ _ _ _ _ _ _ _ _ _ _ _ _ _ _ _ _ _ _ _ _ _ _ _ _ _ _ _ _ _ _ _ _ _ _ _ _ _ _ _ _ _ _ _ _ _ _ _ _ _ _ _ _ _ _

end Go.Proofs.YtmbnimlibnheeabDoor
