/-
  takes.
-/
import Derived.Test.YtmbnimlibnheeabDoorWa2
import Derived.Deep.DeepCutAuto
namespace Go.Proofs.YtmbnimlibnheeabDoor
open Go.RowKit Go.Lib
set_option linter.unusedVariables false

theorem cells7V {w : World} {g : Nat} {a b c d e f h : Value} {t : TypeId} (H : w.heap[g]? = some (.cells #[a, b, c, d, e, f, h] t (0, 0))) :
    w.cell? ⟨g, 0, none⟩ = some a ∧ w.cell? ⟨g, 1, none⟩ = some b ∧ w.cell? ⟨g, 2, none⟩ = some c ∧ w.cell? ⟨g, 3, none⟩ = some d ∧ w.cell? ⟨g, 4, none⟩ = some e ∧ w.cell? ⟨g, 5, none⟩ = some f ∧ w.cell? ⟨g, 6, none⟩ = some h := by
  simp [World.cell?, H]

theorem takes_noneV (B : Nat) (T1 T2 : Nat → Prop) (w : World) (x y : Nat) (t : Sd) (b2 : Int) (vt2 : Value) (βt2 : Option Nat) (G2 : List El) (h2 : SAV B T2 w y t b2 vt2 βt2 G2) (hw : t.way = []) :
    Calls Tryd.prog 8 #[.pointer (some ⟨x, 0, none⟩), .pointer (some ⟨y, 0, none⟩)] w fun e w' => e = .returned (.bool true) ∧ w' = w := by
  obtain ⟨z, aw, nw, cw, vg, βg, h, -⟩ := h2
  have c4 := h.cells.1.2.2.2.2.1
  have hl := h.lt
  have hn : nw = 0 := by have := h.wy.1; rw [hw] at this; simpa using this.symm
  subst hn
  clear h hw
  go_enter Tryd.func8, Tryd.ntmps8
  go_wp2
  go_ret
  exact ⟨rfl, rfl⟩

set_option maxRecDepth 100000 in
set_option maxHeartbeats 8000000 in
theorem takes_someV (w0 : World) (B : Nat) (T1 T2 : Nat → Prop) (w : World) (x y : Nat) (s t : Sd) (b1 b2 : Int) (pc : Pc) (W : List Pc) (vt : Value) (βt : Option Nat) (G : List El) (vt2 : Value) (βt2 : Option Nat) (G2 : List El) (h1 : SAV B T1 w x s b1 vt βt G) (h2 : SAV B T2 w y t b2 vt2 βt2 G2) (hdis : ∀ k, T1 k → ¬ T2 k) (hw : t.way = pc :: W) (hval : validP pc.o = 0) (hfit : FitO s.d.length (s.crossed pc).1) (hlen : s.d.length < 4000) (hmade : s.made ≤ 4000) (hT : Table w0) (hB : B = w0.heap.size) (hb0 : Below B w0 w) :
    Calls Tryd.prog 8 #[.pointer (some ⟨x, 0, none⟩), .pointer (some ⟨y, 0, none⟩)] w fun e w' => e = .returned (.bool true) ∧ Hid (∃ T1' vt' βt', SAV B T1' w' x (s.take pc) b1 vt' βt' G ∧ SAV B T2 w' y t.sent b2 vt2 βt2 G2 ∧ (∀ k, T1' k → (T1 k ∧ βt ≠ some k) ∨ w.heap.size ≤ k) ∧ Fr (fun k => T1 k ∨ T2 k) w w' ∧ SE w' βt vt s.d) := by
  obtain ⟨z, aw, nw, cw, vg, βg, c1, hv1, hg1, ho1⟩ := h1
  obtain ⟨at', ct, rfl, -⟩ := c1.te.form
  obtain ⟨z2, aw2, nw2, cw2, vg2, βg2, c2, hv2, hg2, ho2⟩ := h2
  rw [hw] at c2
  obtain ⟨g2, k2, rfl, hgl, hTg, m0, m1, m2, m3, m4, m5, m6⟩ := c2.wy.head
  have hvo : VO pc.o := hv2 pc (by rw [hw]; simp)
  obtain ⟨n, rfl⟩ : ∃ n, nw2 = n + 1 := ⟨W.length, by have := c2.wy.1; simpa using this.symm⟩
  obtain ⟨c, rfl⟩ : ∃ c, cw2 = c + 1 := ⟨cw2 - 1, by have := c2.wy.2.1; omega⟩
  obtain ⟨⟨-, -, -, -, y4, -⟩, fy⟩ := c2.cells
  have f4 := fy 4
  have hyl := c2.lt
  have hnc := c2.wy.2.1
  have hc63 := c2.wy.2.2.1
  obtain ⟨pm, pt, k, ps, ch, q, sq⟩ := pc
  simp only at m0 m1 m2 m3 m4 m5 m6
  have H1 := hd (And.intro c1 (And.intro hv1 (And.intro hg1 ho1)))
  have H2 := hd (And.intro c2 (And.intro hv2 (And.intro hg2 ho2)))
  have HD := hd hdis
  have HF := hd (And.intro hfit (And.intro hlen hmade))
  have HV := hd hvo
  have HVP := hd hval
  have HW := hd hw
  have HT := hd (And.intro hT (And.intro hB hb0))
  have hn0 : ¬ ((n : Int) + 1 = 0) := by omega
  clear hval c1 c2 hv1 hg1 ho1 hv2 hg2 ho2 hdis hfit hlen hmade hvo hw hT hB hb0 fy
  by_cases hc : c = 0
  · subst hc
    obtain rfl : n = 0 := by omega
    go_enter Tryd.func8, Tryd.ntmps8
    go_wp2_with fail
    have ST : Hid (∃ w4, w4 = (w.setCell ⟨y, 4, none⟩ (.slice (some ⟨g2, k2 * 7, none⟩) 0 0)).alloc (.cells #[.int .i64 pm, .int .i64 pt, .int .i64 k, .int .i64 ps, .int .u8 ch, .int .i64 q, .int .i64 sq] 39) ∧ SC T1 w4 x z s.d ⟨s.f, s.q, s.made⟩ s.made s.took b1 s.way (.slice at' s.d.length ct) aw nw cw vg βt βg G ∧ SC T2 w4 y z2 t.d ⟨t.f, t.q, t.made⟩ t.made t.took b2 W vt2 (some ⟨g2, k2 * 7, none⟩) 0 0 vg2 βt2 βg2 G2 ∧ w4.heap[w.heap.size]? = some (.cells #[.int .i64 pm, .int .i64 pt, .int .i64 k, .int .i64 ps, .int .u8 ch, .int .i64 q, .int .i64 sq] 39 (0, 0)) ∧ Fr (fun k => T1 k ∨ T2 k) w w4) := by
      obtain ⟨c1, hv1, hg1, ho1⟩ := H1.out
      obtain ⟨c2, hv2, hg2, ho2⟩ := H2.out
      have hF : Fr (· = y) w (w.setCell ⟨y, 4, none⟩ (.slice (some ⟨g2, k2 * 7, none⟩) 0 0)) := Fr.setCell _ _ _ rfl
      have hs := (Fr.alloc (fun _ => False) (w.setCell ⟨y, 4, none⟩ (.slice (some ⟨g2, k2 * 7, none⟩) 0 0)) (.cells #[.int .i64 pm, .int .i64 pt, .int .i64 k, .int .i64 ps, .int .u8 ch, .int .i64 q, .int .i64 sq] 39))
      refine ⟨_, rfl, (c1.fr hF (fun j hj he => HD.out j hj (he ▸ c2.tx))).fr hs (fun _ _ h => h), (c2.setWay (c2.wy.tail (some ⟨g2, k2 * 7, none⟩) (.inl rfl)) (fun h => by simp at h)).fr hs (fun _ _ h => h), ?_, (hF.mono (fun j _ he => .inr (he ▸ c2.tx))).trans (Fr.alloc _ _ _)⟩
      have := heap_alloc_new (w.setCell ⟨y, 4, none⟩ (.slice (some ⟨g2, k2 * 7, none⟩) 0 0)) (.cells #[.int .i64 pm, .int .i64 pt, .int .i64 k, .int .i64 ps, .int .u8 ch, .int .i64 q, .int .i64 sq] 39)
      simpa using this
    obtain ⟨w4, hw4, K1, K2, X4, F4⟩ := ST.out
    have hs4 := F4.size
    have ho1 := H1.out.2.2.2
    have ho2 := H2.out.2.2.2
    have zz : w.heap.size < w4.heap.size := block_lt X4
    obtain ⟨S, hS, hSs⟩ := K1.sp.at
    have CD : Hid (∀ U, Below w4.heap.size w4 U → Calls Tryd.prog 21 #[.pointer (some ⟨z, 0, none⟩), .int .i64 pt] U fun e w' => ∃ N, e = .returned (.int .i64 N) ∧ Hid (SC T1 w' x z s.d (dropS ⟨s.f, s.q, s.made⟩ pt) s.made s.took b1 s.way (.slice at' s.d.length ct) aw nw cw vg βt βg G ∧ SC T2 w' y z2 t.d ⟨t.f, t.q, t.made⟩ t.made t.took b2 W vt2 (some ⟨g2, k2 * 7, none⟩) 0 0 vg2 βt2 βg2 G2 ∧ w'.heap[w.heap.size]? = some (.cells #[.int .i64 pm, .int .i64 pt, .int .i64 k, .int .i64 ps, .int .u8 ch, .int .i64 q, .int .i64 sq] 39 (0, 0)) ∧ Fr (fun k => T1 k ∨ T2 k) w w')) := by
      intro U hU
      have KU := K1.below hU
      have hFU : Fr (fun _ => False) w4 U := Fr.of_below hU
      have hSU : ∀ k, S k → SpS T1 U k := fun k hk => by
        obtain ⟨a, b⟩ := hSs k hk
        exact ⟨a, b.imp (fun h => h.fr hFU (fun h => h)) (fun b => b.imp (fun h => h.fr hFU (fun h => h)) (fun h => h.fr hFU (fun h => h)))⟩
      refine (dropTo_any z ⟨s.f, s.q, s.made⟩ pt S U (hS.below hU)).mono ?_
      rintro e w' ⟨rfl, hA', hF'⟩
      have nS : ∀ j, w.heap.size ≤ j → ¬ S j := fun j hj hs => by have := (ho1 j (hSs j hs).1).2; omega
      exact ⟨_, rfl, KU.space hSU hA' hF' (fun k hk => hk) (fun k hk => (hSs k hk).1), (K2.below hU).fr hF' (fun j hj hs => HD.out j (hSs j hs).1 hj), hF'.keeps ((hU.block _ (block_lt X4)).trans X4) (nS _ (Nat.le_refl _)), (F4.trans (Fr.of_below hU)).next hF' (fun j _ hs => .inl (hSs j hs).1)⟩
    obtain ⟨⟨-, e1, -⟩, -⟩ := K1.cells
    obtain ⟨-, p1, -⟩ := cells7V X4
    have xl := K1.lt
    have HW4 := hd hw4
    have HZ := hd zz
    clear hw4 K1 K2 X4 F4 hs4 S hS hSs ST zz m0 m1 m2 m3 m4 m5 m6 y4 f4
    rw [← HW4.out]
    go_cut [] (fun wx => Hid (SC T1 wx x z s.d (dropS ⟨s.f, s.q, s.made⟩ pt) s.made s.took b1 s.way (.slice at' s.d.length ct) aw nw cw vg βt βg G ∧ SC T2 wx y z2 t.d ⟨t.f, t.q, t.made⟩ t.made t.took b2 W vt2 (some ⟨g2, k2 * 7, none⟩) 0 0 vg2 βt2 βg2 G2 ∧ wx.heap[w.heap.size]? = some (.cells #[.int .i64 pm, .int .i64 pt, .int .i64 k, .int .i64 ps, .int .u8 ch, .int .i64 q, .int .i64 sq] 39 (0, 0)) ∧ Fr (fun k => T1 k ∨ T2 k) w wx))
    case first =>
      have hlt := HZ.out
      go_region_law (first | (go_simp; go_at_call 21; refine (CD.out _ (by repeat (first | exact Below.refl _ _ | refine Below.drew ?_ | refine below_drewN ?_ _))).mono ?_; rintro ex w3 ⟨N, rfl, k3⟩))
      all_goals
        go_wp2_with fail
        go_meet
        exact k3
    case rest =>
      obtain ⟨w5, rfl⟩ : ∃ u, u = wc := ⟨wc, rfl⟩
      obtain ⟨K1, K2, X5, F5⟩ := hcut.out
      have hs5 := F5.size
      have zz : w.heap.size < w5.heap.size := block_lt X5
      have hvo := HV.out
      have hval : validP ⟨k, ps, ch, q, sq⟩ = 0 := HVP.out
      obtain ⟨S, hS, hSs⟩ := K1.sp.at
      obtain ⟨⟨rk, rp, rc, rq, rs⟩, hRR⟩ : ∃ R, crossO (dropS ⟨s.f, s.q, s.made⟩ pt) ⟨k, ps, ch, q, sq⟩ = R := ⟨_, rfl⟩
      have HRR := hd hRR
      have CX : Hid (∀ U, Below w5.heap.size w5 U → Calls Tryd.prog 22 #[.pointer (some ⟨z, 0, none⟩), .agg #[.int .i64 k, .int .i64 ps, .int .u8 ch, .int .i64 q, .int .i64 sq]] U fun e w' => e = .returned (.tuple #[.agg #[.int .i64 rk, .int .i64 rp, .int .u8 rc, .int .i64 rq, .int .i64 rs], .int .i64 0]) ∧ Hid (SC (TB T1 U.heap.size w'.heap.size) w' x z s.d (crossS (dropS ⟨s.f, s.q, s.made⟩ pt) ⟨k, ps, ch, q, sq⟩) s.made s.took b1 s.way (.slice at' s.d.length ct) aw nw cw vg βt βg G ∧ SC T2 w' y z2 t.d ⟨t.f, t.q, t.made⟩ t.made t.took b2 W vt2 (some ⟨g2, k2 * 7, none⟩) 0 0 vg2 βt2 βg2 G2 ∧ w'.heap[w.heap.size]? = some (.cells #[.int .i64 pm, .int .i64 pt, .int .i64 k, .int .i64 ps, .int .u8 ch, .int .i64 q, .int .i64 sq] 39 (0, 0)) ∧ Fr (fun k => T1 k ∨ T2 k) w w' ∧ (∀ j, w.heap.size ≤ j → j < U.heap.size → w'.heap[j]? = U.heap[j]?) ∧ U.heap.size ≤ w'.heap.size)) := by
        intro U hU
        have KU := K1.below hU
        have hFU : Fr (fun _ => False) w5 U := Fr.of_below hU
        have hSU : ∀ k, S k → SpS T1 U k := fun k hk => by
          obtain ⟨a, b⟩ := hSs k hk
          exact ⟨a, b.imp (fun h => h.fr hFU (fun h => h)) (fun b => b.imp (fun h => h.fr hFU (fun h => h)) (fun h => h.fr hFU (fun h => h)))⟩
        have hTU : Table U := by
          obtain ⟨a, b, c'⟩ := HT.out
          have hb5 : Below B w w5 := F5.below (by have := c'.size; omega) (fun j hj => by rcases hj with hj | hj; exact (ho1 j hj).1; exact (ho2 j hj).1)
          have hb : Below w0.heap.size w0 U := by
            rw [← b]
            exact (c'.trans hb5).trans (hU.mono (by have := c'.size; have := hb5.size; omega))
          exact a.below hb a.1
        refine (cross_any z (dropS ⟨s.f, s.q, s.made⟩ pt) ⟨k, ps, ch, q, sq⟩ S U (hS.below hU) hTU hvo.ok).mono ?_
        rintro e w' ⟨rfl, S', hA', h2', hF'⟩
        have nS : ∀ j, w.heap.size ≤ j → ¬ S j := fun j hj hs => by have := (ho1 j (hSs j hs).1).2; omega
        have hUs := hU.size
        refine ⟨by rw [HRR.out, hval]; rfl, KU.space hSU hA' hF' (fun k hk => .inl hk) (fun k hk => ?_), (K2.below hU).fr hF' (fun j hj hs => HD.out j (hSs j hs).1 hj), hF'.keeps ((hU.block _ (block_lt X5)).trans X5) (nS _ (Nat.le_refl _)), (F5.trans (Fr.of_below hU)).next hF' (fun j _ hs => .inl (hSs j hs).1), fun j hj hj' => hF'.block j hj' (nS j hj), hF'.size⟩
        rcases h2' k hk with h | h
        · exact .inl (hSs k h).1
        · exact .inr ⟨h, hA'.1.old k hk⟩
      obtain ⟨⟨-, e1', -⟩, -⟩ := K1.cells
      obtain ⟨p0, -, p2, p3, p4, p5, p6⟩ := cells7V X5
      have xl5 := K1.lt
      have HF5 := hd F5
      clear K1 K2 X5 F5 hRR S hS hSs e1 p1 xl CD hcut HW4
      go_wp2_with fail
      have HC5 := hd (And.intro xl5 zz)
      go_cut [6, 7] (fun v e wx => e = .int .i64 0 ∧ ∃ bo, v = .pointer (some ⟨bo, 0, none⟩) ∧ Hid (∃ T', SC T' wx x z s.d (crossS (dropS ⟨s.f, s.q, s.made⟩ pt) ⟨k, ps, ch, q, sq⟩) s.made s.took b1 s.way (.slice at' s.d.length ct) aw nw cw vg βt βg G ∧ (∀ k, T' k → (T1 k ∨ w.heap.size < k) ∧ k < wx.heap.size) ∧ (∀ k, T1 k → T' k) ∧ SC T2 wx y z2 t.d ⟨t.f, t.q, t.made⟩ t.made t.took b2 W vt2 (some ⟨g2, k2 * 7, none⟩) 0 0 vg2 βt2 βg2 G2 ∧ wx.heap[w.heap.size]? = some (.cells #[.int .i64 pm, .int .i64 pt, .int .i64 k, .int .i64 ps, .int .u8 ch, .int .i64 q, .int .i64 sq] 39 (0, 0)) ∧ wx.heap[bo]? = some (.cells #[.int .i64 rk, .int .i64 rp, .int .u8 rc, .int .i64 rq, .int .i64 rs] 37 (0, 0)) ∧ ¬ T' bo ∧ Fr (fun k => T1 k ∨ T2 k) w wx))
      case first =>
        have GB : Hid (∀ U w3, Below w5.heap.size w5 U → SC (TB T1 U.heap.size w3.heap.size) w3 x z s.d (crossS (dropS ⟨s.f, s.q, s.made⟩ pt) ⟨k, ps, ch, q, sq⟩) s.made s.took b1 s.way (.slice at' s.d.length ct) aw nw cw vg βt βg G ∧ SC T2 w3 y z2 t.d ⟨t.f, t.q, t.made⟩ t.made t.took b2 W vt2 (some ⟨g2, k2 * 7, none⟩) 0 0 vg2 βt2 βg2 G2 ∧ w3.heap[w.heap.size]? = some (.cells #[.int .i64 pm, .int .i64 pt, .int .i64 k, .int .i64 ps, .int .u8 ch, .int .i64 q, .int .i64 sq] 39 (0, 0)) ∧ Fr (fun k => T1 k ∨ T2 k) w w3 ∧ (∀ j, w.heap.size ≤ j → j < U.heap.size → w3.heap[j]? = U.heap[j]?) ∧ U.heap.size ≤ w3.heap.size → ∀ V bo, (Fr (fun j => j = bo) w3 V) → V.heap[bo]? = some (.cells #[.int .i64 rk, .int .i64 rp, .int .u8 rc, .int .i64 rq, .int .i64 rs] 37 (0, 0)) → (w5.heap.size ≤ bo ∧ (bo < U.heap.size ∨ w3.heap.size ≤ bo)) → ∃ T', SC T' V x z s.d (crossS (dropS ⟨s.f, s.q, s.made⟩ pt) ⟨k, ps, ch, q, sq⟩) s.made s.took b1 s.way (.slice at' s.d.length ct) aw nw cw vg βt βg G ∧ (∀ k, T' k → (T1 k ∨ w.heap.size < k) ∧ k < V.heap.size) ∧ (∀ k, T1 k → T' k) ∧ SC T2 V y z2 t.d ⟨t.f, t.q, t.made⟩ t.made t.took b2 W vt2 (some ⟨g2, k2 * 7, none⟩) 0 0 vg2 βt2 βg2 G2 ∧ V.heap[w.heap.size]? = some (.cells #[.int .i64 pm, .int .i64 pt, .int .i64 k, .int .i64 ps, .int .u8 ch, .int .i64 q, .int .i64 sq] 39 (0, 0)) ∧ V.heap[bo]? = some (.cells #[.int .i64 rk, .int .i64 rp, .int .u8 rc, .int .i64 rq, .int .i64 rs] 37 (0, 0)) ∧ ¬ T' bo ∧ Fr (fun k => T1 k ∨ T2 k) w V) := by
          rintro U w3 hU ⟨k1, k2', k3, k4, k5, k6⟩ V bo hV hX ⟨hb1, hb2⟩
          have z5 := HC5.out.2
          have zU := hU.size
          have zV := hV.size
          have nT : ¬ TB T1 U.heap.size w3.heap.size bo := by
            rintro (h | h)
            · have := (ho1 bo h).2; omega
            · omega
          refine ⟨TB T1 U.heap.size w3.heap.size, k1.fr hV (fun j hj he => nT (he ▸ hj)), ?_, fun j hj => .inl hj, k2'.fr hV (fun j hj he => by have := (ho2 j hj).2; omega), hV.keeps k3 (by omega), hX, nT, k4.next hV (fun j hj he => by omega)⟩
          rintro j (hj | hj)
          · exact ⟨.inl hj, by have := (ho1 j hj).2; have := k4.size; omega⟩
          · exact ⟨.inr (by omega), by omega⟩
        have z0 : ∀ m, ((w5.drewN m).alloc (.cells #[.int .i64 0, .int .i64 0, .int .u8 0, .int .i64 0, .int .i64 0] 37)).heap.size = w5.heap.size + 1 := fun m => by simp
        go_region_law (first | (go_simp; go_at_call 22; refine (CX.out _ (by repeat (first | exact Below.refl _ _ | refine Below.drew ?_ | refine below_drewN ?_ _ | refine Below.alloc ?_ (by simp) _))).mono ?_; rintro ex w3 ⟨rfl, k3⟩; first | (have hz3 := (k3.out.2.2.2.2.1 w5.heap.size (by omega) (by simp)).trans (heap_alloc_new w5 _); obtain ⟨⟨q0, q1, q2, q3, q4⟩, ⟨v0, v1, v2, v3, v4⟩⟩ := cells5 hz3; have lq := block_lt hz3) | skip))
        all_goals
          go_wp2_with fail
          go_meet
          refine ⟨rfl, _, rfl, ?_⟩
          first
            | (revert hz3; intro hz3; exact GB.out _ w3 (by repeat (first | exact Below.refl _ _ | refine Below.drew ?_ | refine below_drewN ?_ _ | refine Below.alloc ?_ (by simp) _)) k3.out _ w5.heap.size (Fr.set5 w3 w5.heap.size 0 rk rp rc rq rs) (set5_op (x := ⟨0, 0, 0, 0, 0⟩) hz3 rk rp rc rq rs) ⟨Nat.le_refl _, .inl (by simp)⟩)
            | exact GB.out _ w3 (by repeat (first | exact Below.refl _ _ | refine Below.drew ?_ | refine below_drewN ?_ _ | refine Below.alloc ?_ (by simp) _)) k3.out _ w3.heap.size (Fr.alloc _ _ _) (heap_alloc_new _ _) ⟨by have := k3.out.2.2.2.2.2; simp at this; omega, .inr (Nat.le_refl _)⟩
      case rest =>
        obtain ⟨w6, rfl⟩ : ∃ u, u = wc := ⟨wc, rfl⟩
        obtain ⟨rfl, bo, rfl, h6⟩ := hcut
        obtain ⟨T', K1, hT'1, hT'2, K2, X6, Y6, nbo, F6⟩ := h6.out
        obtain ⟨⟨y0, y1, y2, y3, y4⟩, -⟩ := cells5 Y6
        obtain ⟨⟨e0, -⟩, -⟩ := K1.cells
        have xl6 := K1.lt
        have bl6 := block_lt Y6
        obtain ⟨af, cf, hvf, hEf, -⟩ := K1.te.form
        injection hvf with hv1 hv2 hv3
        subst hv1 hv3
        have hcr : (s.crossed ⟨pm, pt, ⟨k, ps, ch, q, sq⟩⟩).1 = ⟨rk, rp, rc, rq, rs⟩ := by
          rw [← HRR.out, (crossS_good HVP.out).2]
          rfl
        have hff := HF.out
        rw [hcr] at hff
        have hvr : VO ⟨rk, rp, rc, rq, rs⟩ := by
          rw [← hcr]
          exact VO.thr _ _ _ HV.out
        obtain ⟨hft, -⟩ := hvr.fits hff.1 (by omega)
        have CA : Hid (∀ U, Below w6.heap.size w6 U → Calls Tryd.prog 23 #[.slice at' s.d.length ct, .agg #[.int .i64 rk, .int .i64 rp, .int .u8 rc, .int .i64 rq, .int .i64 rs]] U fun e w' => ∃ g N C, e = .returned (.tuple #[.slice (some ⟨g, 0, none⟩) N C, .int .i64 0]) ∧ Hid (w6.heap.size ≤ g ∧ SE w' (some g) (.slice (some ⟨g, 0, none⟩) N C) (putP s.d ⟨rk, rp, rc, rq, rs⟩) ∧ Below w6.heap.size w6 w')) := by
          intro U hU
          refine (apply_good at' s.d.length ct rk rp rc rq rs s.d U (hEf.below hU) hvr.ok.1 hvr.ok.2 hft).mono ?_
          rintro e w' ⟨v, rfl, hO, hB⟩
          obtain ⟨g, hg, C, rfl, hR⟩ := hO
          exact ⟨g, _, C, rfl, Nat.le_trans hU.size hg, ⟨C, by rw [← putP_apply hff.1], by rw [← putP_apply hff.1]; exact hR⟩, hU.trans (hB.mono hU.size)⟩
        have H6 := hd (And.intro K1 (And.intro hT'1 (And.intro hT'2 (And.intro K2 (And.intro X6 F6)))))
        have HCR := hd hcr
        clear K1 hT'1 hT'2 K2 X6 Y6 nbo F6 h6 hEf hv2 hcr hff hvr hft CX HC5 HF5 e1' p0 p2 p3 p4 p5 p6 xl5 zz hval hvo hs5
        go_wp2_with fail
        go_cut [8, 9] (fun v e wx => e = .int .i64 0 ∧ ∃ g N C, v = .slice (some ⟨g, 0, none⟩) N C ∧ Hid (w6.heap.size ≤ g ∧ SE wx (some g) (.slice (some ⟨g, 0, none⟩) N C) (putP s.d ⟨rk, rp, rc, rq, rs⟩) ∧ Below w6.heap.size w6 wx))
        case first =>
          go_region_law (first | (go_simp; go_at_call 23; refine (CA.out _ (by repeat (first | exact Below.refl _ _ | refine Below.drew ?_ | refine below_drewN ?_ _ | refine Below.alloc ?_ (by simp) _))).mono ?_; rintro ex w3 ⟨g, N, C, rfl, k3⟩))
          all_goals
            go_wp2_with fail
            go_meet
            exact ⟨rfl, _, _, _, rfl, k3⟩
        case rest =>
          obtain ⟨w7, rfl⟩ : ∃ u, u = wc := ⟨wc, rfl⟩
          obtain ⟨rfl, g, N, C, rfl, h7⟩ := hcut
          obtain ⟨hg7, hE7, b7⟩ := h7.out
          obtain ⟨K1, hT'1, hT'2, K2, X6, F6⟩ := H6.out
          have gl := (hE7.tg rfl).lt
          have K7 := (K1.below b7).mono (T' := TB T' w6.heap.size w7.heap.size) (fun k hk => .inl hk)
          have KA := K7.setText (g := g) hE7 (.inr ⟨hg7, gl⟩) (fun he => by have := (hT'1 g (K1.gt g he)).2; omega)
          have KB := KA.setTook pm
          have F2 : Fr (· = x) w7 ((w7.setCell ⟨x, 0, none⟩ (.slice (some ⟨g, 0, none⟩) N C)).setCell ⟨x, 3, none⟩ (.int .i64 pm)) := (Fr.setCell (S := (· = x)) w7 ⟨x, 0, none⟩ _ rfl).trans (Fr.setCell _ ⟨x, 3, none⟩ _ rfl)
          have hx1 : T1 x := H1.out.1.tx
          have hz6 := F6.size
          have hz7 := b7.size
          have X7 := (b7.block _ (block_lt X6)).trans X6
          have hxw : x < w.heap.size := (ho1 x hx1).2
          have Z : Hid (∃ T1' vt' βt', SAV B T1' ((w7.setCell ⟨x, 0, none⟩ (.slice (some ⟨g, 0, none⟩) N C)).setCell ⟨x, 3, none⟩ (.int .i64 pm)) x (s.take ⟨pm, pt, ⟨k, ps, ch, q, sq⟩⟩) b1 vt' βt' G ∧ SAV B T2 ((w7.setCell ⟨x, 0, none⟩ (.slice (some ⟨g, 0, none⟩) N C)).setCell ⟨x, 3, none⟩ (.int .i64 pm)) y t.sent b2 vt2 βt2 G2 ∧ (∀ k, T1' k → (T1 k ∧ βt ≠ some k) ∨ w.heap.size ≤ k) ∧ Fr (fun k => T1 k ∨ T2 k) w ((w7.setCell ⟨x, 0, none⟩ (.slice (some ⟨g, 0, none⟩) N C)).setCell ⟨x, 3, none⟩ (.int .i64 pm)) ∧ SE ((w7.setCell ⟨x, 0, none⟩ (.slice (some ⟨g, 0, none⟩) N C)).setCell ⟨x, 3, none⟩ (.int .i64 pm)) βt (.slice at' s.d.length ct) s.d) := by
            have hBw : B ≤ w.heap.size := HT.out.2.2.size |> fun h => by have := HT.out.2.1; omega
            have hsz2 := F2.size
            refine ⟨fun k => TB T' w6.heap.size w7.heap.size k ∧ βt ≠ some k, .slice (some ⟨g, 0, none⟩) N C, some g, ⟨z, aw, nw, cw, vg, βg, ?_, H1.out.2.1, H1.out.2.2.1, ?_⟩, ⟨z2, (some ⟨g2, k2 * 7, none⟩), 0, 0, vg2, βg2, ?_, ?_, H2.out.2.2.1, ?_⟩, ?_, ?_, ?_⟩
            · have e1 : (s.take ⟨pm, pt, ⟨k, ps, ch, q, sq⟩⟩).d = putP s.d ⟨rk, rp, rc, rq, rs⟩ := by simp only [Sd.take, HCR.out]
              have e2 : (⟨(s.take ⟨pm, pt, ⟨k, ps, ch, q, sq⟩⟩).f, (s.take ⟨pm, pt, ⟨k, ps, ch, q, sq⟩⟩).q, (s.take ⟨pm, pt, ⟨k, ps, ch, q, sq⟩⟩).made⟩ : Sp) = crossS (dropS ⟨s.f, s.q, s.made⟩ pt) ⟨k, ps, ch, q, sq⟩ := by
                rw [(crossS_good HVP.out).1]
                rfl
              rw [e1, e2]
              exact KB.dropO βt (fun k hk => (K7.te.tg hk).fr F2 (fun he => (K7.te.tg hk).ne K7.tg (by decide) he)) (fun k hk he => by have := Option.some.inj he; have h9 := (hT'1 k (K1.tt k hk)).2; omega) (fun k hk he => K1.ne k he hk)
            · rintro k ⟨hk | hk, -⟩
              · have := hT'1 k hk
                rcases this.1 with h | h
                · exact ⟨(ho1 k h).1, by omega⟩
                · exact ⟨by omega, by omega⟩
              · exact ⟨by omega, by omega⟩
            · have e : t.sent.way = W := by simp [Sd.sent, HW.out]
              rw [e]
              exact (K2.below b7).fr F2 (fun j hj he => HD.out x hx1 (he ▸ hj))
            · intro q' hq'
              exact H2.out.2.1 q' (by rw [HW.out]; simp only [Sd.sent, HW.out, List.drop_succ_cons, List.drop_zero] at hq'; exact List.mem_cons_of_mem _ hq')
            · intro k hk
              exact ⟨(ho2 k hk).1, by have := (ho2 k hk).2; omega⟩
            · rintro k ⟨hk | hk, hne⟩
              · rcases (hT'1 k hk).1 with h | h
                · exact .inl ⟨h, hne⟩
                · exact .inr (by omega)
              · exact .inr (by omega)
            · exact (F6.trans (Fr.of_below b7)).next F2 (fun j _ he => .inl (he ▸ hx1))
            · exact K7.te.fr F2 (fun k hk => (K7.te.tg hk).ne K7.tg (by decide))
          obtain ⟨p0, -⟩ := cells7V X7
          obtain ⟨⟨k0, -, -, k3', -⟩, fx⟩ := K7.cells
          have fx0 := fx 0
          have fx3 := fx 3
          have xl7 := K7.lt
          have pl7 := block_lt X7
          have nx : ¬ w.heap.size = x := by omega
          clear hg7 hE7 b7 K1 hT'1 hT'2 K2 X6 F6 gl K7 KA KB F2 hz6 hz7 X7 h7 H6 fx
          go_wp2
          go_ret
          exact ⟨rfl, Z⟩
  · go_enter Tryd.func8, Tryd.ntmps8
    go_wp2_with fail
    have ST : Hid (∃ w4, w4 = (w.setCell ⟨y, 4, none⟩ (.slice (some ⟨g2, k2 * 7 + 7, none⟩) n c)).alloc (.cells #[.int .i64 pm, .int .i64 pt, .int .i64 k, .int .i64 ps, .int .u8 ch, .int .i64 q, .int .i64 sq] 39) ∧ SC T1 w4 x z s.d ⟨s.f, s.q, s.made⟩ s.made s.took b1 s.way (.slice at' s.d.length ct) aw nw cw vg βt βg G ∧ SC T2 w4 y z2 t.d ⟨t.f, t.q, t.made⟩ t.made t.took b2 W vt2 (some ⟨g2, k2 * 7 + 7, none⟩) n c vg2 βt2 βg2 G2 ∧ w4.heap[w.heap.size]? = some (.cells #[.int .i64 pm, .int .i64 pt, .int .i64 k, .int .i64 ps, .int .u8 ch, .int .i64 q, .int .i64 sq] 39 (0, 0)) ∧ Fr (fun k => T1 k ∨ T2 k) w w4) := by
      obtain ⟨c1, hv1, hg1, ho1⟩ := H1.out
      obtain ⟨c2, hv2, hg2, ho2⟩ := H2.out
      have hF : Fr (· = y) w (w.setCell ⟨y, 4, none⟩ (.slice (some ⟨g2, k2 * 7 + 7, none⟩) n c)) := Fr.setCell _ _ _ rfl
      have hs := (Fr.alloc (fun _ => False) (w.setCell ⟨y, 4, none⟩ (.slice (some ⟨g2, k2 * 7 + 7, none⟩) n c)) (.cells #[.int .i64 pm, .int .i64 pt, .int .i64 k, .int .i64 ps, .int .u8 ch, .int .i64 q, .int .i64 sq] 39))
      refine ⟨_, rfl, (c1.fr hF (fun j hj he => HD.out j hj (he ▸ c2.tx))).fr hs (fun _ _ h => h), (c2.setWay (c2.wy.tail (some ⟨g2, k2 * 7 + 7, none⟩) (.inr rfl)) (fun h => by simp at h)).fr hs (fun _ _ h => h), ?_, (hF.mono (fun j _ he => .inr (he ▸ c2.tx))).trans (Fr.alloc _ _ _)⟩
      have := heap_alloc_new (w.setCell ⟨y, 4, none⟩ (.slice (some ⟨g2, k2 * 7 + 7, none⟩) n c)) (.cells #[.int .i64 pm, .int .i64 pt, .int .i64 k, .int .i64 ps, .int .u8 ch, .int .i64 q, .int .i64 sq] 39)
      simpa using this
    obtain ⟨w4, hw4, K1, K2, X4, F4⟩ := ST.out
    have hs4 := F4.size
    have ho1 := H1.out.2.2.2
    have ho2 := H2.out.2.2.2
    have zz : w.heap.size < w4.heap.size := block_lt X4
    obtain ⟨S, hS, hSs⟩ := K1.sp.at
    have CD : Hid (∀ U, Below w4.heap.size w4 U → Calls Tryd.prog 21 #[.pointer (some ⟨z, 0, none⟩), .int .i64 pt] U fun e w' => ∃ N, e = .returned (.int .i64 N) ∧ Hid (SC T1 w' x z s.d (dropS ⟨s.f, s.q, s.made⟩ pt) s.made s.took b1 s.way (.slice at' s.d.length ct) aw nw cw vg βt βg G ∧ SC T2 w' y z2 t.d ⟨t.f, t.q, t.made⟩ t.made t.took b2 W vt2 (some ⟨g2, k2 * 7 + 7, none⟩) n c vg2 βt2 βg2 G2 ∧ w'.heap[w.heap.size]? = some (.cells #[.int .i64 pm, .int .i64 pt, .int .i64 k, .int .i64 ps, .int .u8 ch, .int .i64 q, .int .i64 sq] 39 (0, 0)) ∧ Fr (fun k => T1 k ∨ T2 k) w w')) := by
      intro U hU
      have KU := K1.below hU
      have hFU : Fr (fun _ => False) w4 U := Fr.of_below hU
      have hSU : ∀ k, S k → SpS T1 U k := fun k hk => by
        obtain ⟨a, b⟩ := hSs k hk
        exact ⟨a, b.imp (fun h => h.fr hFU (fun h => h)) (fun b => b.imp (fun h => h.fr hFU (fun h => h)) (fun h => h.fr hFU (fun h => h)))⟩
      refine (dropTo_any z ⟨s.f, s.q, s.made⟩ pt S U (hS.below hU)).mono ?_
      rintro e w' ⟨rfl, hA', hF'⟩
      have nS : ∀ j, w.heap.size ≤ j → ¬ S j := fun j hj hs => by have := (ho1 j (hSs j hs).1).2; omega
      exact ⟨_, rfl, KU.space hSU hA' hF' (fun k hk => hk) (fun k hk => (hSs k hk).1), (K2.below hU).fr hF' (fun j hj hs => HD.out j (hSs j hs).1 hj), hF'.keeps ((hU.block _ (block_lt X4)).trans X4) (nS _ (Nat.le_refl _)), (F4.trans (Fr.of_below hU)).next hF' (fun j _ hs => .inl (hSs j hs).1)⟩
    obtain ⟨⟨-, e1, -⟩, -⟩ := K1.cells
    obtain ⟨-, p1, -⟩ := cells7V X4
    have xl := K1.lt
    have HW4 := hd hw4
    have HZ := hd zz
    clear hw4 K1 K2 X4 F4 hs4 S hS hSs ST zz m0 m1 m2 m3 m4 m5 m6 y4 f4
    rw [← HW4.out]
    go_cut [] (fun wx => Hid (SC T1 wx x z s.d (dropS ⟨s.f, s.q, s.made⟩ pt) s.made s.took b1 s.way (.slice at' s.d.length ct) aw nw cw vg βt βg G ∧ SC T2 wx y z2 t.d ⟨t.f, t.q, t.made⟩ t.made t.took b2 W vt2 (some ⟨g2, k2 * 7 + 7, none⟩) n c vg2 βt2 βg2 G2 ∧ wx.heap[w.heap.size]? = some (.cells #[.int .i64 pm, .int .i64 pt, .int .i64 k, .int .i64 ps, .int .u8 ch, .int .i64 q, .int .i64 sq] 39 (0, 0)) ∧ Fr (fun k => T1 k ∨ T2 k) w wx))
    case first =>
      have hlt := HZ.out
      go_region_law (first | (go_simp; go_at_call 21; refine (CD.out _ (by repeat (first | exact Below.refl _ _ | refine Below.drew ?_ | refine below_drewN ?_ _))).mono ?_; rintro ex w3 ⟨N, rfl, k3⟩))
      all_goals
        go_wp2_with fail
        go_meet
        exact k3
    case rest =>
      obtain ⟨w5, rfl⟩ : ∃ u, u = wc := ⟨wc, rfl⟩
      obtain ⟨K1, K2, X5, F5⟩ := hcut.out
      have hs5 := F5.size
      have zz : w.heap.size < w5.heap.size := block_lt X5
      have hvo := HV.out
      have hval : validP ⟨k, ps, ch, q, sq⟩ = 0 := HVP.out
      obtain ⟨S, hS, hSs⟩ := K1.sp.at
      obtain ⟨⟨rk, rp, rc, rq, rs⟩, hRR⟩ : ∃ R, crossO (dropS ⟨s.f, s.q, s.made⟩ pt) ⟨k, ps, ch, q, sq⟩ = R := ⟨_, rfl⟩
      have HRR := hd hRR
      have CX : Hid (∀ U, Below w5.heap.size w5 U → Calls Tryd.prog 22 #[.pointer (some ⟨z, 0, none⟩), .agg #[.int .i64 k, .int .i64 ps, .int .u8 ch, .int .i64 q, .int .i64 sq]] U fun e w' => e = .returned (.tuple #[.agg #[.int .i64 rk, .int .i64 rp, .int .u8 rc, .int .i64 rq, .int .i64 rs], .int .i64 0]) ∧ Hid (SC (TB T1 U.heap.size w'.heap.size) w' x z s.d (crossS (dropS ⟨s.f, s.q, s.made⟩ pt) ⟨k, ps, ch, q, sq⟩) s.made s.took b1 s.way (.slice at' s.d.length ct) aw nw cw vg βt βg G ∧ SC T2 w' y z2 t.d ⟨t.f, t.q, t.made⟩ t.made t.took b2 W vt2 (some ⟨g2, k2 * 7 + 7, none⟩) n c vg2 βt2 βg2 G2 ∧ w'.heap[w.heap.size]? = some (.cells #[.int .i64 pm, .int .i64 pt, .int .i64 k, .int .i64 ps, .int .u8 ch, .int .i64 q, .int .i64 sq] 39 (0, 0)) ∧ Fr (fun k => T1 k ∨ T2 k) w w' ∧ (∀ j, w.heap.size ≤ j → j < U.heap.size → w'.heap[j]? = U.heap[j]?) ∧ U.heap.size ≤ w'.heap.size)) := by
        intro U hU
        have KU := K1.below hU
        have hFU : Fr (fun _ => False) w5 U := Fr.of_below hU
        have hSU : ∀ k, S k → SpS T1 U k := fun k hk => by
          obtain ⟨a, b⟩ := hSs k hk
          exact ⟨a, b.imp (fun h => h.fr hFU (fun h => h)) (fun b => b.imp (fun h => h.fr hFU (fun h => h)) (fun h => h.fr hFU (fun h => h)))⟩
        have hTU : Table U := by
          obtain ⟨a, b, c'⟩ := HT.out
          have hb5 : Below B w w5 := F5.below (by have := c'.size; omega) (fun j hj => by rcases hj with hj | hj; exact (ho1 j hj).1; exact (ho2 j hj).1)
          have hb : Below w0.heap.size w0 U := by
            rw [← b]
            exact (c'.trans hb5).trans (hU.mono (by have := c'.size; have := hb5.size; omega))
          exact a.below hb a.1
        refine (cross_any z (dropS ⟨s.f, s.q, s.made⟩ pt) ⟨k, ps, ch, q, sq⟩ S U (hS.below hU) hTU hvo.ok).mono ?_
        rintro e w' ⟨rfl, S', hA', h2', hF'⟩
        have nS : ∀ j, w.heap.size ≤ j → ¬ S j := fun j hj hs => by have := (ho1 j (hSs j hs).1).2; omega
        have hUs := hU.size
        refine ⟨by rw [HRR.out, hval]; rfl, KU.space hSU hA' hF' (fun k hk => .inl hk) (fun k hk => ?_), (K2.below hU).fr hF' (fun j hj hs => HD.out j (hSs j hs).1 hj), hF'.keeps ((hU.block _ (block_lt X5)).trans X5) (nS _ (Nat.le_refl _)), (F5.trans (Fr.of_below hU)).next hF' (fun j _ hs => .inl (hSs j hs).1), fun j hj hj' => hF'.block j hj' (nS j hj), hF'.size⟩
        rcases h2' k hk with h | h
        · exact .inl (hSs k h).1
        · exact .inr ⟨h, hA'.1.old k hk⟩
      obtain ⟨⟨-, e1', -⟩, -⟩ := K1.cells
      obtain ⟨p0, -, p2, p3, p4, p5, p6⟩ := cells7V X5
      have xl5 := K1.lt
      have HF5 := hd F5
      clear K1 K2 X5 F5 hRR S hS hSs e1 p1 xl CD hcut HW4
      go_wp2_with fail
      have HC5 := hd (And.intro xl5 zz)
      go_cut [6, 7] (fun v e wx => e = .int .i64 0 ∧ ∃ bo, v = .pointer (some ⟨bo, 0, none⟩) ∧ Hid (∃ T', SC T' wx x z s.d (crossS (dropS ⟨s.f, s.q, s.made⟩ pt) ⟨k, ps, ch, q, sq⟩) s.made s.took b1 s.way (.slice at' s.d.length ct) aw nw cw vg βt βg G ∧ (∀ k, T' k → (T1 k ∨ w.heap.size < k) ∧ k < wx.heap.size) ∧ (∀ k, T1 k → T' k) ∧ SC T2 wx y z2 t.d ⟨t.f, t.q, t.made⟩ t.made t.took b2 W vt2 (some ⟨g2, k2 * 7 + 7, none⟩) n c vg2 βt2 βg2 G2 ∧ wx.heap[w.heap.size]? = some (.cells #[.int .i64 pm, .int .i64 pt, .int .i64 k, .int .i64 ps, .int .u8 ch, .int .i64 q, .int .i64 sq] 39 (0, 0)) ∧ wx.heap[bo]? = some (.cells #[.int .i64 rk, .int .i64 rp, .int .u8 rc, .int .i64 rq, .int .i64 rs] 37 (0, 0)) ∧ ¬ T' bo ∧ Fr (fun k => T1 k ∨ T2 k) w wx))
      case first =>
        have GB : Hid (∀ U w3, Below w5.heap.size w5 U → SC (TB T1 U.heap.size w3.heap.size) w3 x z s.d (crossS (dropS ⟨s.f, s.q, s.made⟩ pt) ⟨k, ps, ch, q, sq⟩) s.made s.took b1 s.way (.slice at' s.d.length ct) aw nw cw vg βt βg G ∧ SC T2 w3 y z2 t.d ⟨t.f, t.q, t.made⟩ t.made t.took b2 W vt2 (some ⟨g2, k2 * 7 + 7, none⟩) n c vg2 βt2 βg2 G2 ∧ w3.heap[w.heap.size]? = some (.cells #[.int .i64 pm, .int .i64 pt, .int .i64 k, .int .i64 ps, .int .u8 ch, .int .i64 q, .int .i64 sq] 39 (0, 0)) ∧ Fr (fun k => T1 k ∨ T2 k) w w3 ∧ (∀ j, w.heap.size ≤ j → j < U.heap.size → w3.heap[j]? = U.heap[j]?) ∧ U.heap.size ≤ w3.heap.size → ∀ V bo, (Fr (fun j => j = bo) w3 V) → V.heap[bo]? = some (.cells #[.int .i64 rk, .int .i64 rp, .int .u8 rc, .int .i64 rq, .int .i64 rs] 37 (0, 0)) → (w5.heap.size ≤ bo ∧ (bo < U.heap.size ∨ w3.heap.size ≤ bo)) → ∃ T', SC T' V x z s.d (crossS (dropS ⟨s.f, s.q, s.made⟩ pt) ⟨k, ps, ch, q, sq⟩) s.made s.took b1 s.way (.slice at' s.d.length ct) aw nw cw vg βt βg G ∧ (∀ k, T' k → (T1 k ∨ w.heap.size < k) ∧ k < V.heap.size) ∧ (∀ k, T1 k → T' k) ∧ SC T2 V y z2 t.d ⟨t.f, t.q, t.made⟩ t.made t.took b2 W vt2 (some ⟨g2, k2 * 7 + 7, none⟩) n c vg2 βt2 βg2 G2 ∧ V.heap[w.heap.size]? = some (.cells #[.int .i64 pm, .int .i64 pt, .int .i64 k, .int .i64 ps, .int .u8 ch, .int .i64 q, .int .i64 sq] 39 (0, 0)) ∧ V.heap[bo]? = some (.cells #[.int .i64 rk, .int .i64 rp, .int .u8 rc, .int .i64 rq, .int .i64 rs] 37 (0, 0)) ∧ ¬ T' bo ∧ Fr (fun k => T1 k ∨ T2 k) w V) := by
          rintro U w3 hU ⟨k1, k2', k3, k4, k5, k6⟩ V bo hV hX ⟨hb1, hb2⟩
          have z5 := HC5.out.2
          have zU := hU.size
          have zV := hV.size
          have nT : ¬ TB T1 U.heap.size w3.heap.size bo := by
            rintro (h | h)
            · have := (ho1 bo h).2; omega
            · omega
          refine ⟨TB T1 U.heap.size w3.heap.size, k1.fr hV (fun j hj he => nT (he ▸ hj)), ?_, fun j hj => .inl hj, k2'.fr hV (fun j hj he => by have := (ho2 j hj).2; omega), hV.keeps k3 (by omega), hX, nT, k4.next hV (fun j hj he => by omega)⟩
          rintro j (hj | hj)
          · exact ⟨.inl hj, by have := (ho1 j hj).2; have := k4.size; omega⟩
          · exact ⟨.inr (by omega), by omega⟩
        have z0 : ∀ m, ((w5.drewN m).alloc (.cells #[.int .i64 0, .int .i64 0, .int .u8 0, .int .i64 0, .int .i64 0] 37)).heap.size = w5.heap.size + 1 := fun m => by simp
        go_region_law (first | (go_simp; go_at_call 22; refine (CX.out _ (by repeat (first | exact Below.refl _ _ | refine Below.drew ?_ | refine below_drewN ?_ _ | refine Below.alloc ?_ (by simp) _))).mono ?_; rintro ex w3 ⟨rfl, k3⟩; first | (have hz3 := (k3.out.2.2.2.2.1 w5.heap.size (by omega) (by simp)).trans (heap_alloc_new w5 _); obtain ⟨⟨q0, q1, q2, q3, q4⟩, ⟨v0, v1, v2, v3, v4⟩⟩ := cells5 hz3; have lq := block_lt hz3) | skip))
        all_goals
          go_wp2_with fail
          go_meet
          refine ⟨rfl, _, rfl, ?_⟩
          first
            | (revert hz3; intro hz3; exact GB.out _ w3 (by repeat (first | exact Below.refl _ _ | refine Below.drew ?_ | refine below_drewN ?_ _ | refine Below.alloc ?_ (by simp) _)) k3.out _ w5.heap.size (Fr.set5 w3 w5.heap.size 0 rk rp rc rq rs) (set5_op (x := ⟨0, 0, 0, 0, 0⟩) hz3 rk rp rc rq rs) ⟨Nat.le_refl _, .inl (by simp)⟩)
            | exact GB.out _ w3 (by repeat (first | exact Below.refl _ _ | refine Below.drew ?_ | refine below_drewN ?_ _ | refine Below.alloc ?_ (by simp) _)) k3.out _ w3.heap.size (Fr.alloc _ _ _) (heap_alloc_new _ _) ⟨by have := k3.out.2.2.2.2.2; simp at this; omega, .inr (Nat.le_refl _)⟩
      case rest =>
        obtain ⟨w6, rfl⟩ : ∃ u, u = wc := ⟨wc, rfl⟩
        obtain ⟨rfl, bo, rfl, h6⟩ := hcut
        obtain ⟨T', K1, hT'1, hT'2, K2, X6, Y6, nbo, F6⟩ := h6.out
        obtain ⟨⟨y0, y1, y2, y3, y4⟩, -⟩ := cells5 Y6
        obtain ⟨⟨e0, -⟩, -⟩ := K1.cells
        have xl6 := K1.lt
        have bl6 := block_lt Y6
        obtain ⟨af, cf, hvf, hEf, -⟩ := K1.te.form
        injection hvf with hv1 hv2 hv3
        subst hv1 hv3
        have hcr : (s.crossed ⟨pm, pt, ⟨k, ps, ch, q, sq⟩⟩).1 = ⟨rk, rp, rc, rq, rs⟩ := by
          rw [← HRR.out, (crossS_good HVP.out).2]
          rfl
        have hff := HF.out
        rw [hcr] at hff
        have hvr : VO ⟨rk, rp, rc, rq, rs⟩ := by
          rw [← hcr]
          exact VO.thr _ _ _ HV.out
        obtain ⟨hft, -⟩ := hvr.fits hff.1 (by omega)
        have CA : Hid (∀ U, Below w6.heap.size w6 U → Calls Tryd.prog 23 #[.slice at' s.d.length ct, .agg #[.int .i64 rk, .int .i64 rp, .int .u8 rc, .int .i64 rq, .int .i64 rs]] U fun e w' => ∃ g N C, e = .returned (.tuple #[.slice (some ⟨g, 0, none⟩) N C, .int .i64 0]) ∧ Hid (w6.heap.size ≤ g ∧ SE w' (some g) (.slice (some ⟨g, 0, none⟩) N C) (putP s.d ⟨rk, rp, rc, rq, rs⟩) ∧ Below w6.heap.size w6 w')) := by
          intro U hU
          refine (apply_good at' s.d.length ct rk rp rc rq rs s.d U (hEf.below hU) hvr.ok.1 hvr.ok.2 hft).mono ?_
          rintro e w' ⟨v, rfl, hO, hB⟩
          obtain ⟨g, hg, C, rfl, hR⟩ := hO
          exact ⟨g, _, C, rfl, Nat.le_trans hU.size hg, ⟨C, by rw [← putP_apply hff.1], by rw [← putP_apply hff.1]; exact hR⟩, hU.trans (hB.mono hU.size)⟩
        have H6 := hd (And.intro K1 (And.intro hT'1 (And.intro hT'2 (And.intro K2 (And.intro X6 F6)))))
        have HCR := hd hcr
        clear K1 hT'1 hT'2 K2 X6 Y6 nbo F6 h6 hEf hv2 hcr hff hvr hft CX HC5 HF5 e1' p0 p2 p3 p4 p5 p6 xl5 zz hval hvo hs5
        go_wp2_with fail
        go_cut [8, 9] (fun v e wx => e = .int .i64 0 ∧ ∃ g N C, v = .slice (some ⟨g, 0, none⟩) N C ∧ Hid (w6.heap.size ≤ g ∧ SE wx (some g) (.slice (some ⟨g, 0, none⟩) N C) (putP s.d ⟨rk, rp, rc, rq, rs⟩) ∧ Below w6.heap.size w6 wx))
        case first =>
          go_region_law (first | (go_simp; go_at_call 23; refine (CA.out _ (by repeat (first | exact Below.refl _ _ | refine Below.drew ?_ | refine below_drewN ?_ _ | refine Below.alloc ?_ (by simp) _))).mono ?_; rintro ex w3 ⟨g, N, C, rfl, k3⟩))
          all_goals
            go_wp2_with fail
            go_meet
            exact ⟨rfl, _, _, _, rfl, k3⟩
        case rest =>
          obtain ⟨w7, rfl⟩ : ∃ u, u = wc := ⟨wc, rfl⟩
          obtain ⟨rfl, g, N, C, rfl, h7⟩ := hcut
          obtain ⟨hg7, hE7, b7⟩ := h7.out
          obtain ⟨K1, hT'1, hT'2, K2, X6, F6⟩ := H6.out
          have gl := (hE7.tg rfl).lt
          have K7 := (K1.below b7).mono (T' := TB T' w6.heap.size w7.heap.size) (fun k hk => .inl hk)
          have KA := K7.setText (g := g) hE7 (.inr ⟨hg7, gl⟩) (fun he => by have := (hT'1 g (K1.gt g he)).2; omega)
          have KB := KA.setTook pm
          have F2 : Fr (· = x) w7 ((w7.setCell ⟨x, 0, none⟩ (.slice (some ⟨g, 0, none⟩) N C)).setCell ⟨x, 3, none⟩ (.int .i64 pm)) := (Fr.setCell (S := (· = x)) w7 ⟨x, 0, none⟩ _ rfl).trans (Fr.setCell _ ⟨x, 3, none⟩ _ rfl)
          have hx1 : T1 x := H1.out.1.tx
          have hz6 := F6.size
          have hz7 := b7.size
          have X7 := (b7.block _ (block_lt X6)).trans X6
          have hxw : x < w.heap.size := (ho1 x hx1).2
          have Z : Hid (∃ T1' vt' βt', SAV B T1' ((w7.setCell ⟨x, 0, none⟩ (.slice (some ⟨g, 0, none⟩) N C)).setCell ⟨x, 3, none⟩ (.int .i64 pm)) x (s.take ⟨pm, pt, ⟨k, ps, ch, q, sq⟩⟩) b1 vt' βt' G ∧ SAV B T2 ((w7.setCell ⟨x, 0, none⟩ (.slice (some ⟨g, 0, none⟩) N C)).setCell ⟨x, 3, none⟩ (.int .i64 pm)) y t.sent b2 vt2 βt2 G2 ∧ (∀ k, T1' k → (T1 k ∧ βt ≠ some k) ∨ w.heap.size ≤ k) ∧ Fr (fun k => T1 k ∨ T2 k) w ((w7.setCell ⟨x, 0, none⟩ (.slice (some ⟨g, 0, none⟩) N C)).setCell ⟨x, 3, none⟩ (.int .i64 pm)) ∧ SE ((w7.setCell ⟨x, 0, none⟩ (.slice (some ⟨g, 0, none⟩) N C)).setCell ⟨x, 3, none⟩ (.int .i64 pm)) βt (.slice at' s.d.length ct) s.d) := by
            have hBw : B ≤ w.heap.size := HT.out.2.2.size |> fun h => by have := HT.out.2.1; omega
            have hsz2 := F2.size
            refine ⟨fun k => TB T' w6.heap.size w7.heap.size k ∧ βt ≠ some k, .slice (some ⟨g, 0, none⟩) N C, some g, ⟨z, aw, nw, cw, vg, βg, ?_, H1.out.2.1, H1.out.2.2.1, ?_⟩, ⟨z2, (some ⟨g2, k2 * 7 + 7, none⟩), n, c, vg2, βg2, ?_, ?_, H2.out.2.2.1, ?_⟩, ?_, ?_, ?_⟩
            · have e1 : (s.take ⟨pm, pt, ⟨k, ps, ch, q, sq⟩⟩).d = putP s.d ⟨rk, rp, rc, rq, rs⟩ := by simp only [Sd.take, HCR.out]
              have e2 : (⟨(s.take ⟨pm, pt, ⟨k, ps, ch, q, sq⟩⟩).f, (s.take ⟨pm, pt, ⟨k, ps, ch, q, sq⟩⟩).q, (s.take ⟨pm, pt, ⟨k, ps, ch, q, sq⟩⟩).made⟩ : Sp) = crossS (dropS ⟨s.f, s.q, s.made⟩ pt) ⟨k, ps, ch, q, sq⟩ := by
                rw [(crossS_good HVP.out).1]
                rfl
              rw [e1, e2]
              exact KB.dropO βt (fun k hk => (K7.te.tg hk).fr F2 (fun he => (K7.te.tg hk).ne K7.tg (by decide) he)) (fun k hk he => by have := Option.some.inj he; have h9 := (hT'1 k (K1.tt k hk)).2; omega) (fun k hk he => K1.ne k he hk)
            · rintro k ⟨hk | hk, -⟩
              · have := hT'1 k hk
                rcases this.1 with h | h
                · exact ⟨(ho1 k h).1, by omega⟩
                · exact ⟨by omega, by omega⟩
              · exact ⟨by omega, by omega⟩
            · have e : t.sent.way = W := by simp [Sd.sent, HW.out]
              rw [e]
              exact (K2.below b7).fr F2 (fun j hj he => HD.out x hx1 (he ▸ hj))
            · intro q' hq'
              exact H2.out.2.1 q' (by rw [HW.out]; simp only [Sd.sent, HW.out, List.drop_succ_cons, List.drop_zero] at hq'; exact List.mem_cons_of_mem _ hq')
            · intro k hk
              exact ⟨(ho2 k hk).1, by have := (ho2 k hk).2; omega⟩
            · rintro k ⟨hk | hk, hne⟩
              · rcases (hT'1 k hk).1 with h | h
                · exact .inl ⟨h, hne⟩
                · exact .inr (by omega)
              · exact .inr (by omega)
            · exact (F6.trans (Fr.of_below b7)).next F2 (fun j _ he => .inl (he ▸ hx1))
            · exact K7.te.fr F2 (fun k hk => (K7.te.tg hk).ne K7.tg (by decide))
          obtain ⟨p0, -⟩ := cells7V X7
          obtain ⟨⟨k0, -, -, k3', -⟩, fx⟩ := K7.cells
          have fx0 := fx 0
          have fx3 := fx 3
          have xl7 := K7.lt
          have pl7 := block_lt X7
          have nx : ¬ w.heap.size = x := by omega
          clear hg7 hE7 b7 K1 hT'1 hT'2 K2 X6 F6 gl K7 KA KB F2 hz6 hz7 X7 h7 H6 fx
          go_wp2
          go_ret
          exact ⟨rfl, Z⟩

end Go.Proofs.YtmbnimlibnheeabDoor
