/-
  OtMeans.
-/
import Derived.Test.YtmkgkgdngjmcmabDoorQg
import Derived.Test.YtmkgkgdngjmcmabDoorQd
import Derived.Test.YtmkgkgdngjmcmabDoorNe
import Derived.Test.YtmkgkgdngjmcmabDoorEg
import Derived.Test.YtmkgkgdngjmcmabDoorThroughs
import Derived.Test.YtmkgkgdngjmcmabDoorMk
import Derived.Deep.DeepCutAuto
namespace Go.Proofs.YtmkgkgdngjmcmabDoor
open Go.RowKit
set_option linter.unusedVariables false

/-- What stands ahead of the two rounds. -/
structure KM (w : World) (v : Value) (n ba : Nat) (A : OpE) (g m : Nat) (L : List OpE) (u : Value) : Prop where
  tab : Table w
  txt : AtE w v (textP n)
  blk : w.heap[ba]? = some (.cells (opc A).toArray 23 (0, 0))
  row : IsO w (some ⟨g, 0, none⟩) m m L
  run : AtE w u (runP (textP n) L)

theorem KM.below {w w' : World} {v : Value} {n ba : Nat} {A : OpE} {g m : Nat} {L : List OpE} {u : Value} (h : KM w v n ba A g m L u) (hb : Below w.heap.size w w') : KM w' v n ba A g m L u :=
  ⟨h.tab.below hb h.tab.1, h.txt.below hb, (hb.block _ (block_lt h.blk)).trans h.blk, h.row.below hb, h.run.below hb⟩

/-- Behind Through: the operation at its block, the rest as it was. -/
def MRel (w wx : World) (bx : Nat) (R : OpE) : Prop :=
  wx.heap[bx]? = some (.cells (opc R).toArray 23 (0, 0)) ∧ Below w.heap.size w wx ∧ w.heap.size ≤ bx

theorem MRel.set {w w2 : World} {R Y : OpE} {bx : Nat} (h : MRel w w2 bx Y) : MRel w (set5 w2 bx 0 R.kind R.pos R.ch R.cl R.sq) bx R := by
  obtain ⟨h1, h3, h5⟩ := h
  have F := Fr.set5 w2 bx 0 R.kind R.pos R.ch R.cl R.sq
  exact ⟨set5_op h1 _ _ _ _ _, h3.trans (F.below h3.size (fun k h => by omega)), h5⟩

theorem AtE.form {w : World} {v : Value} {xs : List El} {n : Nat} (h : AtE w v xs) (hn : xs.length = n) : ∃ b o c, v = .slice (some ⟨b, o, none⟩) n c ∧ n ≤ c ∧ c ≤ 9223372036854775807 := by
  obtain ⟨b, o, c, rfl, hE⟩ := h
  have h1 := hE.2.1
  have h2 := hE.2.2.1
  rw [hn] at h1 ⊢
  exact ⟨b, o, c, rfl, h1, h2⟩

theorem AtE.elm {w : World} {b o n c : Nat} {xs : List El} (h : AtE w (.slice (some ⟨b, o, none⟩) n c) xs) (j : Nat) (hj : j < xs.length) :
    b < w.heap.size ∧ w.cell? ⟨b, o + j * 3, none⟩ = some (.int .u8 xs[j].1) ∧ w.cell? ⟨b, o + j * 3 + 1, none⟩ = some (.int .i64 xs[j].2.1) ∧ w.cell? ⟨b, o + j * 3 + 2, none⟩ = some (.int .i64 xs[j].2.2) := by
  obtain ⟨b', o', c', e, hE⟩ := h
  obtain ⟨e1, e2, rfl⟩ := Value.slice.inj e
  simp at e1
  obtain ⟨rfl, rfl⟩ := e1
  refine ⟨?_, hE.at j hj hj⟩
  obtain ⟨-, -, -, h4⟩ := hE
  obtain ⟨b2, o2, e2, hl, -⟩ := h4 (by omega)
  simp at e2
  rw [e2.1]
  exact hl

set_option maxRecDepth 100000 in
set_option maxHeartbeats 4000000 in
theorem otMeans_any (x0 : Int) (k : Bool) (q c : Int) (a : Option Addr) (m cc : Nat) (M : Nat → Bool × Int × Int) (W : World) (hT : Table W) (hc : 0 ≤ c ∧ c ≤ 255) (hM : IsM W a m cc M) (_ : True) (hm : m ≤ 5864062014634) (wt : (Lit.int .i64 x0).wf = true) :
    Calls Tryd.prog 7 #[.int .i64 x0, .agg #[.bool k, .int .i64 q, .int .u8 c], .slice a m cc] W fun r w' => r = .returned (.bool true) ∧ Below W.heap.size W w' := by
  have HM := hd hM
  have HT := hd hT
  clear hM hT
  go_enter Tryd.func7, Tryd.ntmps7
  go_wp2_with fail
  have B0 : Below W.heap.size W (W.alloc (.cells #[.bool k, .int .i64 q, .int .u8 c] 53)) := (Below.refl _ _).alloc (Nat.le_refl _) _
  have hz : (W.alloc (.cells #[.bool k, .int .i64 q, .int .u8 c] 53)).heap[W.heap.size]? = some (.cells #[.bool k, .int .i64 q, .int .u8 c] 53 (0, 0)) := heap_alloc_new W _
  have hs : W.heap.size < (W.alloc (.cells #[.bool k, .int .i64 q, .int .u8 c] 53)).heap.size := by rw [World.size_alloc]; omega
  generalize W.alloc (.cells #[.bool k, .int .i64 q, .int .u8 c] 53) = w0 at *
  have BB0 := hd B0
  have HZ := hd hz
  have HS := hd hs
  clear B0 hz hs
  refine (bounded_any x0 _).mono ?_
  rintro r w0' ⟨n, rfl, hn, rfl⟩
  go_wp2_with fail
  refine (text_any n _ hn).mono ?_
  rintro r w1 ⟨v, rfl, hV, b1⟩
  have B1 := hd (BB0.out.trans (b1.mono BB0.out.size))
  have z1 := hd ((b1.block _ HS.out).trans HZ.out)
  have c0 : w1.cell? ⟨W.heap.size, 0, none⟩ = some (.bool k) := by simp only [World.cell?, z1.out]; rfl
  have c1 : w1.cell? ⟨W.heap.size, 1, none⟩ = some (.int .i64 q) := by simp only [World.cell?, z1.out]; rfl
  have c2 : w1.cell? ⟨W.heap.size, 2, none⟩ = some (.int .u8 c) := by simp only [World.cell?, z1.out]; rfl
  have HV := hd hV
  have HS1 := hd (Nat.lt_of_lt_of_le HS.out b1.size)
  clear hV b1 BB0 HZ HS
  go_wp2_with fail
  refine (made_any k q c 2 1 n _ (by omega)).mono ?_
  rintro r w2 ⟨⟨ak, ap, ac, al, sq⟩, rfl, hA, b2⟩
  obtain ⟨hA1, hA2, hA3, hA4⟩ := hA
  simp only at hA2 hA3 hA4
  subst hA3 hA4
  have bA : Below w2.heap.size w2 (w2.alloc (.cells (opc ⟨ak, ap, ac, 2, 1⟩).toArray 23)) := (Below.refl _ _).alloc (Nat.le_refl _) _
  have bl := heap_alloc_new w2 (.cells (opc ⟨ak, ap, ac, 2, 1⟩).toArray 23)
  have bw := b2.trans (bA.mono b2.size)
  have B2 := hd (B1.out.trans (bw.mono B1.out.size))
  have V2 := hd (HV.out.below bw)
  have M2 := hd (HM.out.below B2.out)
  have BL := hd bl
  have HA1 := hd hA1
  have HA2 := hd hA2
  clear bw bA bl b2 c0 c1 c2 HV B1 z1 HS1 hA1 hA2 HM
  simp only [opc, OpE.val] at BL B2 V2 M2 ⊢
  go_wp2_with fail
  generalize w2.alloc (.cells #[.int .i64 ak, .int .i64 ap, .int .u8 ac, .int .i64 2, .int .i64 1] 23) = w3 at *
  generalize w2.heap.size = ba at *
  refine (line_any a m cc M (textP n) n 3 _ M2.out (textP_len n) hn hm).mono ?_
  rintro r w4 ⟨g, L, rfl, hg, hR, hP, b4⟩
  have B4 := hd (B2.out.trans (b4.mono B2.out.size))
  have V4 := hd (V2.out.below b4)
  have BL4 := hd ((b4.block _ (block_lt BL.out)).trans BL.out)
  have O4 := hd hR.isO
  have HP := hd hP
  clear b4 hR hP hg M2 V2 BL B2
  go_wp2_with fail
  refine (run_fit v _ m m (textP n) L _ V4.out O4.out HP.out.1 (by rw [textP_len]; omega)).mono ?_
  rintro r w5 ⟨u, rfl, hU, b5⟩
  have B5 := hd (B4.out.trans (b5.mono B4.out.size))
  have K5 : Hid (KM w5 v n ba ⟨ak, ap, ac, 2, 1⟩ g m L u) := ⟨HT.out.below B5.out HT.out.1, V4.out.below b5, (b5.block _ (block_lt BL4.out)).trans BL4.out, O4.out.below b5, hU⟩
  clear b5 hU B4 V4 BL4 O4 HT
  by_cases hbig : 4096 < m
  · have i1 : (m : Int) > 4096 := by omega
    go_wp2_with fail
    go_ret
    exact ⟨by simp; try omega, B5.out⟩
  · have i1 : ¬ (m : Int) > 4096 := by omega
    go_wp2_with fail
    have h40 : m * 40 ≤ 281474976710656 := by omega
    obtain ⟨vb, vo, vc, rfl, vc1, vc2⟩ := K5.out.txt.form (textP_len n)
    obtain ⟨eN, hE⟩ : ∃ eN, (runP (textP n) L).length = eN := ⟨_, rfl⟩
    obtain ⟨ub, uo, uc, rfl, ul1, ul2⟩ := K5.out.run.form hE
    have HE := hd hE
    have eNb := hd (show eN ≤ 1000000 by have := runP_len L (textP n) HP.out.1; rw [textP_len, K5.out.row.1] at this; omega)
    clear hE
    have TH : Hid (∀ (f : Bool) (b : Option Addr) (d : Nat) (W : World), Table W → IsO W b m d L → Calls Tryd.prog 9 #[.agg #[.int .i64 ak, .int .i64 ap, .int .u8 ac, .int .i64 2, .int .i64 1], .slice b m d, .bool f] W fun e w' => ∃ rk rp rc rq rs a' c', (throughP ⟨ak, ap, ac, 2, 1⟩ L f).1 = ⟨rk, rp, rc, rq, rs⟩ ∧ e = .returned (.tuple #[.agg #[.int .i64 rk, .int .i64 rp, .int .u8 rc, .int .i64 rq, .int .i64 rs], .slice a' m c', .int .i64 0]) ∧ Below W.heap.size W w') := by
      intro f b d W h1 h2
      refine (through_any ⟨ak, ap, ac, 2, 1⟩ b m d L f W h1 h2 (by omega)).mono ?_
      rintro e w' ⟨v', rfl, hO, hb⟩
      obtain ⟨gg, cg, hg, rfl, hR⟩ := hO
      rw [throughP_len, h2.1]
      exact ⟨_, _, _, _, _, _, _, rfl, rfl, hb⟩
    go_loopw [12] (fun i wr => ∃ j : Nat, j ≤ 2 ∧ i = .int .i64 j ∧ Hid (Below w5.heap.size w5 wr)) (fun i _ => 2 - (intOf i).toNat)
    case atStart => exact ⟨0, by omega, rfl, Below.refl _ _⟩
    case round =>
      obtain ⟨j, hj, rfl, BR⟩ := hrel
      by_cases hlt : j < 2
      · have i2 : (j : Int) < 2 := by omega
        have KR := hd (K5.out.below BR.out)
        have hbl := block_lt KR.out.blk
        obtain ⟨⟨o0, o1, o2, o3, o4⟩, -⟩ := cellsF KR.out.blk
        simp only [] at o0 o1 o2 o3 o4
        go_upto_region 11 with fail
        go_cut [13, 14, 15] (fun x l e wx => ∃ bx rk rp rc rq rs f, x = .pointer (some ⟨bx, 0, none⟩) ∧ e = .int .i64 0 ∧ Hid ((throughP ⟨ak, ap, ac, 2, 1⟩ L f).1 = ⟨rk, rp, rc, rq, rs⟩) ∧ Hid (MRel w5 wx bx ⟨rk, rp, rc, rq, rs⟩))
        case first =>
          go_region_held3 (fun W => W.cell? ⟨ba, 0, none⟩ = some (.int .i64 ak) ∧ W.cell? ⟨ba, 1, none⟩ = some (.int .i64 ap) ∧ W.cell? ⟨ba, 2, none⟩ = some (.int .u8 ac) ∧ W.cell? ⟨ba, 3, none⟩ = some (.int .i64 2) ∧ W.cell? ⟨ba, 4, none⟩ = some (.int .i64 1)) (first | (with_reducible exact FivP.out K6) | (with_reducible exact ⟨by assumption, by assumption, by assumption, by assumption, by assumption⟩) | (go_keep; done)) (first | (go_at_call 8; refine (lcopied_any (some ⟨g, 0, none⟩) m m L _ (KR.out.row.below ?_) h40).mono ?_; (first | exact below_drewN (Below.refl _ _) 1 | exact below_drewN ((Below.refl _ _).alloc (Nat.le_refl _) _) 1 | exact Below.refl _ _ | exact (Below.refl _ _).alloc (Nat.le_refl _) _); rintro e w1 ⟨v1, rfl, hOw, b1⟩; obtain ⟨gg, cg, hg, rfl, hR⟩ := hOw; rw [KR.out.row.1] at hR ⊢; have bb1 : Below wr.heap.size wr w1 := (by first | exact (below_drewN (Below.refl wr.heap.size wr) 1).trans b1 | exact (below_drewN ((Below.refl wr.heap.size wr).alloc (Nat.le_refl _) _) 1).trans (b1.mono (by simp)) | exact b1 | exact ((Below.refl wr.heap.size wr).alloc (Nat.le_refl _) _).trans (b1.mono (by simp))); have o0 := (bb1.cell (p := ⟨ba, 0, none⟩) hbl).trans o0; have o1 := (bb1.cell (p := ⟨ba, 1, none⟩) hbl).trans o1; have o2 := (bb1.cell (p := ⟨ba, 2, none⟩) hbl).trans o2; have o3 := (bb1.cell (p := ⟨ba, 3, none⟩) hbl).trans o3; have o4 := (bb1.cell (p := ⟨ba, 4, none⟩) hbl).trans o4; (first | (have hx : w1.heap[wr.heap.size]? = some (.cells #[.int .i64 0, .int .i64 0, .int .u8 0, .int .i64 0, .int .i64 0] 23 (0, 0)) := (b1.block _ (by simp)).trans (heap_alloc_new wr _); have HX1 := hd hx; clear hx) | skip); have TW : Hid (∀ W, Below w1.heap.size w1 W → Table W) := (fun W h => KR.out.tab.below (bb1.trans (h.mono bb1.size)) KR.out.tab.1); have IW : Hid (∀ W, Below w1.heap.size w1 W → IsO W (some ⟨gg, 0, none⟩) m cg L) := (fun W h => hR.isO.below h); have BB1 := hd bb1; have sz1 := bb1.size; clear b1 bb1 hR hg) | (go_at_call 9; refine (TH.out _ _ _ _ (TW.out _ ?_) (IW.out _ ?_)).mono ?_; (first | exact Below.refl _ _ | exact (Below.refl _ _).alloc (Nat.le_refl _) _); (first | exact Below.refl _ _ | exact (Below.refl _ _).alloc (Nat.le_refl _) _); rintro e w2 ⟨rk, rp, rc, rq, rs, a', c2, hR2, rfl, b2⟩; have HR2 := hd hR2; clear hR2; have bb2 : Below w1.heap.size w1 w2 := (by first | exact b2 | exact ((Below.refl w1.heap.size w1).alloc (Nat.le_refl _) _).trans (b2.mono (by simp))); have o0 := ((bb2.mono sz1).cell (p := ⟨ba, 0, none⟩) hbl).trans o0; have o1 := ((bb2.mono sz1).cell (p := ⟨ba, 1, none⟩) hbl).trans o1; have o2 := ((bb2.mono sz1).cell (p := ⟨ba, 2, none⟩) hbl).trans o2; have o3 := ((bb2.mono sz1).cell (p := ⟨ba, 3, none⟩) hbl).trans o3; have o4 := ((bb2.mono sz1).cell (p := ⟨ba, 4, none⟩) hbl).trans o4; (first | (have hx : w2.heap[wr.heap.size]? = some (.cells #[.int .i64 0, .int .i64 0, .int .u8 0, .int .i64 0, .int .i64 0] 23 (0, 0)) := (bb2.block _ (block_lt HX1.out)).trans HX1.out; obtain ⟨⟨h0, h1, h2, h3, h4⟩, ⟨f0, f1, f2, f3, f4⟩⟩ := cellsF hx; have GX : Hid (MRel w5 w2 wr.heap.size zop) := ⟨hx, BR.out.trans ((BB1.out.trans (bb2.mono sz1)).mono BR.out.size), by have := BR.out.size; omega⟩; have K6 := (show FivP ba ⟨ak, ap, ac, 2, 1⟩ w2 from ⟨o0, o1, o2, o3, o4⟩).set5 (wr.heap.size) ⟨rk, rp, rc, rq, rs⟩ (by omega); clear hx) | (have hx : w2.heap[w1.heap.size]? = some (.cells #[.int .i64 0, .int .i64 0, .int .u8 0, .int .i64 0, .int .i64 0] 23 (0, 0)) := (b2.block _ (by simp)).trans (heap_alloc_new w1 _); obtain ⟨⟨h0, h1, h2, h3, h4⟩, ⟨f0, f1, f2, f3, f4⟩⟩ := cellsF hx; have GX : Hid (MRel w5 w2 w1.heap.size zop) := ⟨hx, BR.out.trans ((BB1.out.trans (bb2.mono sz1)).mono BR.out.size), by have := BR.out.size; omega⟩; have K6 := (show FivP ba ⟨ak, ap, ac, 2, 1⟩ w2 from ⟨o0, o1, o2, o3, o4⟩).set5 (w1.heap.size) ⟨rk, rp, rc, rq, rs⟩ (by omega); clear hx) | skip); have GB : Hid (Below w5.heap.size w5 w2) := BR.out.trans ((BB1.out.trans (bb2.mono sz1)).mono BR.out.size); clear b2 bb2))
          · have Z := hd (show MRel w5 (w2.alloc (.cells #[.int .i64 rk, .int .i64 rp, .int .u8 rc, .int .i64 rq, .int .i64 rs] 23)) w2.heap.size ⟨rk, rp, rc, rq, rs⟩ from ⟨heap_alloc_new w2 _, GB.out.alloc GB.out.size _, GB.out.size⟩)
            go_wp2_with fail
            go_meet
            exact ⟨w2.heap.size, rk, rp, rc, rq, rs, _, rfl, rfl, HR2, Z⟩
          · have Z := hd (GX.out.set (R := ⟨rk, rp, rc, rq, rs⟩))
            go_wp2_with fail
            go_meet
            exact ⟨w1.heap.size, rk, rp, rc, rq, rs, _, rfl, rfl, HR2, Z⟩
          · have Z := hd (GX.out.set (R := ⟨rk, rp, rc, rq, rs⟩))
            go_wp2_with fail
            go_meet
            exact ⟨wr.heap.size, rk, rp, rc, rq, rs, _, rfl, rfl, HR2, Z⟩
        case rest =>
          obtain ⟨bx, rk, rp, rc, rq, rs, f, rfl, rfl, HR, MR⟩ := hcut
          have BW := hd MR.out.2.1
          have KW := hd (K5.out.below BW.out)
          have XB := hd MR.out.1
          have hln : (textP n).length + L.length < 1000000 := by rw [textP_len, K5.out.row.1]; omega
          have h3 : ∀ b ∈ L, b.cl = 3 := by
            intro b hb
            obtain ⟨i, hi, rfl⟩ := List.mem_iff_getElem.mp hb
            exact (HP.out.2 i hi).2.1
          clear o0 o1 o2 o3 o4 hbl KR BR TH
          rcases HA2.out with rfl | rfl
          · obtain ⟨p, rfl, hp⟩ : ∃ p : Nat, ap = p ∧ p ≤ n := by
              rcases HA1.out with ⟨h, -⟩ | ⟨-, p, h1, h2⟩ | ⟨h, -⟩
              · simp at h
              · exact ⟨p, h1, h2⟩
              · simp at h
            have IT := ins_through f L (ins_start (c := ac) (by rw [textP_len]; exact hp) (textP_cl n)) HP.out.1 h3 hln
            rw [HR.out] at IT
            obtain ⟨q', hq', -⟩ := meant_pure IT (textP_nodup n) (textP_cl n)
            injection hq' with e1 e2 e3 e4 e5
            subst e1 e2 e3 e4 e5
            have HI := hd IT
            clear IT hln h3 HR
            obtain ⟨⟨o0, o1, o2, o3, o4⟩, -⟩ := cellsF KW.out.blk
            obtain ⟨⟨x0', x1, x2, x3, x4⟩, -⟩ := cellsF XB.out
            simp only [] at o0 o1 o2 o3 o4 x0' x1 x2 x3 x4
            go_wp2_with fail
            refine (num_any 0 _).mono ?_
            rintro r w7 ⟨rfl, rfl⟩
            go_wp2_with fail
            refine (meant_any _ _ (textP n) (runP (textP n) L) p rc ⟨1, (q' : Int), rc, 2, 1⟩ _ KW.out.txt KW.out.run HI.out (textP_nodup n) (textP_cl n) ?_ (by rw [textP_len]; exact hn)).mono ?_
            · have := runP_len L (textP n) HP.out.1
              rw [textP_len, K5.out.row.1] at this
              omega
            rintro r w8 ⟨rfl, b8⟩
            have B8 := hd (BW.out.trans (b8.mono BW.out.size))
            clear b8
            go_wp2_with fail
            exact ⟨⟨j + 1, by omega, by go_num, B8⟩, by simp [intOf]; omega⟩
          · obtain ⟨p, rfl, hp⟩ : ∃ p : Nat, ap = p ∧ p < n := by
              rcases HA1.out with ⟨h, -⟩ | ⟨h, -⟩ | ⟨-, p, h1, h2⟩
              · simp at h
              · simp at h
              · exact ⟨p, h1, h2⟩
            have pl : p < (textP n).length := by rw [textP_len]; exact hp
            have IT := del_through (textP_cl n _ (List.getElem_mem pl)) f L (del_start (c := ac) pl (textP_nodup n)) HP.out.1 h3 hln
            rw [HR.out] at IT
            obtain ⟨d1, d2, d3, d4, d5⟩ := del_pure IT
            simp only at d2 d3
            subst d2 d3
            have hmem : (textP n)[p] ∈ textP n := List.getElem_mem pl
            obtain ⟨vlt, v0, v1, v2⟩ := KW.out.txt.elm p pl
            generalize (textP n)[p] = Y at *
            obtain ⟨y0, y1, y2⟩ := Y
            simp only [] at v0 v1 v2
            have D1 := hd d1
            have D4 := hd d4
            have HMm := hd hmem
            have ip : (p : Int) < (n : Int) := by omega
            clear IT hln h3 HR d1 d4 hmem HA1 HA2 pl
            generalize eE : runP (textP n) L = E at *
            generalize eP : putP E ⟨rk, rp, rc, 2, 1⟩ = F at *
            have EE := hd eE
            have EP := hd eP
            clear eE eP
            have G : ∃ gone : Bool, Hid (decide ((y0, y1, y2) ∉ E) = gone) ∧ ((gone = true ∧ rk = 0 ∧ F.length = E.length) ∨ (gone = false ∧ rk = 2 ∧ F.length + 1 = E.length)) := by
              rcases d5 with ⟨h1, h2, h3⟩ | ⟨h1, h2, h3⟩
              · exact ⟨true, hd (by simpa using h2), .inl ⟨rfl, h1, h3⟩⟩
              · exact ⟨false, hd (by simpa using h2), .inr ⟨rfl, h1, h3⟩⟩
            obtain ⟨gone, hgo, hGG⟩ := G
            clear d5
            obtain ⟨⟨o0, o1, o2, o3, o4⟩, -⟩ := cellsF KW.out.blk
            obtain ⟨⟨x0', x1, x2, x3, x4⟩, -⟩ := cellsF XB.out
            simp only [] at o0 o1 o2 o3 o4 x0' x1 x2 x3 x4
            have HGG := hd hGG
            clear hGG
            go_wp2_with fail
            refine (num_any 0 _).mono ?_
            rintro r w7 ⟨rfl, rfl⟩
            go_wp2_with fail
            refine (lost_any _ _ m m (y0, y1, y2) (textP n) L _ KW.out.txt KW.out.row HP.out.1 (by rw [textP_len]; omega) HMm.out).mono ?_
            rintro r w8 ⟨rfl, b8⟩
            rw [EE.out, hgo.out]
            have BW8 := hd (BW.out.trans (b8.mono BW.out.size))
            have KW8 := hd (KW.out.below b8)
            have XB8 := hd ((b8.block _ (block_lt XB.out)).trans XB.out)
            have z0 := (b8.cell (p := ⟨vb, vo + p * 3, none⟩) vlt).trans v0
            have z1 := (b8.cell (p := ⟨vb, vo + p * 3 + 1, none⟩) vlt).trans v1
            have z2 := (b8.cell (p := ⟨vb, vo + p * 3 + 2, none⟩) vlt).trans v2
            have vlt8 := Nat.lt_of_lt_of_le vlt b8.size
            clear b8 o0 o1 o2 o3 o4 x0' x1 x2 x3 x4 v0 v1 v2 vlt BW KW XB
            obtain ⟨⟨x0', x1, x2, x3, x4⟩, -⟩ := cellsF XB8.out
            simp only [] at x0' x1 x2 x3 x4
            have RU8 : Hid (AtE w8 (.slice (some ⟨ub, uo, none⟩) eN uc) E) := by have := KW8.out.run; rw [EE.out] at this; exact this
            have TAIL : rk = 0 ∨ rk = 2 := by rcases HGG.out with h | h; exact .inl h.2.1; exact .inr h.2.1
            rcases HGG.out with ⟨rfl, rfl, hl⟩ | ⟨rfl, rfl, hl⟩
            · have HL := hd hl
              clear hl HGG TAIL
              go_wp2_with fail
              refine (put_at _ ⟨0, rp, rc, 2, 1⟩ E _ RU8.out (by have := eNb.out; rw [HE.out]; omega) D1.out).mono ?_
              rintro r w9 ⟨gf, cf, rfl, hF, b9⟩
              rw [EP.out] at hF ⊢
              have hcf := hF
              obtain ⟨_, _, _, ev, hEf⟩ := hcf
              obtain ⟨-, -, rfl⟩ := Value.slice.inj ev
              have fl1 := hEf.2.1
              have fl2 := hEf.2.2.1
              clear hEf ev
              have FF := hd hF
              have BW9 := hd (BW8.out.trans (b9.mono BW8.out.size))
              have KW9 := hd (KW8.out.below b9)
              have t0 := (b9.cell (p := ⟨vb, vo + p * 3, none⟩) vlt8).trans z0
              have t1 := (b9.cell (p := ⟨vb, vo + p * 3 + 1, none⟩) vlt8).trans z1
              have t2 := (b9.cell (p := ⟨vb, vo + p * 3 + 2, none⟩) vlt8).trans z2
              clear b9 z0 z1 z2 x0' x1 x2 x3 x4 vlt8 hF BW8 KW8 XB8
              obtain ⟨⟨o0, o1, o2, o3, o4⟩, -⟩ := cellsF KW9.out.blk
              simp only [] at o0 o1 o2 o3 o4
              go_wp2_with fail
              refine (place_any _ (y0, y1, y2) _ _ FF.out).mono ?_
              rintro r w10 ⟨rfl, b10⟩
              rw [placeP_not D4.out]
              have B10 := hd (BW9.out.trans (b10.mono BW9.out.size))
              clear b10 t0 t1 t2 o0 o1 o2 o3 o4 BW9 KW9 FF
              have hl := HL.out
              rw [HE.out] at hl
              generalize F.length = fl at *
              have hlz : (fl : Int) = (eN : Int) := by omega
              go_wp2_with fail
              exact ⟨⟨j + 1, hlt, by go_num, B10⟩, by simp [intOf]; omega⟩
            · have HL := hd hl
              clear hl HGG TAIL
              go_wp2_with fail
              refine (put_at _ ⟨2, rp, rc, 2, 1⟩ E _ RU8.out (by have := eNb.out; rw [HE.out]; omega) D1.out).mono ?_
              rintro r w9 ⟨gf, cf, rfl, hF, b9⟩
              rw [EP.out] at hF ⊢
              have hcf := hF
              obtain ⟨_, _, _, ev, hEf⟩ := hcf
              obtain ⟨-, -, rfl⟩ := Value.slice.inj ev
              have fl1 := hEf.2.1
              have fl2 := hEf.2.2.1
              clear hEf ev
              have FF := hd hF
              have BW9 := hd (BW8.out.trans (b9.mono BW8.out.size))
              have KW9 := hd (KW8.out.below b9)
              have t0 := (b9.cell (p := ⟨vb, vo + p * 3, none⟩) vlt8).trans z0
              have t1 := (b9.cell (p := ⟨vb, vo + p * 3 + 1, none⟩) vlt8).trans z1
              have t2 := (b9.cell (p := ⟨vb, vo + p * 3 + 2, none⟩) vlt8).trans z2
              clear b9 z0 z1 z2 x0' x1 x2 x3 x4 vlt8 hF BW8 KW8 XB8
              obtain ⟨⟨o0, o1, o2, o3, o4⟩, -⟩ := cellsF KW9.out.blk
              simp only [] at o0 o1 o2 o3 o4
              go_wp2_with fail
              refine (place_any _ (y0, y1, y2) _ _ FF.out).mono ?_
              rintro r w10 ⟨rfl, b10⟩
              rw [placeP_not D4.out]
              have B10 := hd (BW9.out.trans (b10.mono BW9.out.size))
              clear b10 t0 t1 t2 o0 o1 o2 o3 o4 BW9 KW9 FF
              have hl := HL.out
              rw [HE.out] at hl
              generalize F.length = fl at *
              have hlz : (eN : Int) = (fl : Int) + 1 := by omega
              go_wp2_with fail
              exact ⟨⟨j + 1, hlt, by go_num, B10⟩, by simp [intOf]; omega⟩
      · obtain rfl : j = 2 := by omega
        go_wp2_with fail
        go_ret
        exact ⟨rfl, B5.out.trans (BR.out.mono B5.out.size)⟩

end Go.Proofs.YtmkgkgdngjmcmabDoor
