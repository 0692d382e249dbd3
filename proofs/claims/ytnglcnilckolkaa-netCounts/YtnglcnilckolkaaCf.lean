/-
  NetCounts: its walk.
-/
import Derived.Test.YtnglcnilckolkaaCd00
import Derived.Test.YtnglcnilckolkaaCd01
import Derived.Test.YtnglcnilckolkaaCd10
import Derived.Test.YtnglcnilckolkaaCd11
import Derived.Test.YtnglcnilckolkaaCe00
import Derived.Test.YtnglcnilckolkaaCe01
import Derived.Test.YtnglcnilckolkaaCe10
import Derived.Test.YtnglcnilckolkaaCe11
import Derived.Test.YtnglcnilckolkaaNo2
namespace Go.Proofs.Ytnglcnilckolkaa
open Go.RowKit
set_option linter.unusedVariables false

/-- A script, to be read. -/
def IsS (w : World) (al : Option Addr) (nl cl : Nat) (O : Nat → OpV) (A : Nat → Option Addr) (N C : Nat → Nat) : Prop :=
  nl ≤ cl ∧ cl ≤ 9223372036854775807 ∧
  (0 < nl → ∃ b off, al = some ⟨b, off, none⟩ ∧ b < w.heap.size ∧ ∀ i, i < nl →
    w.cell? ⟨b, off + i * 6, none⟩ = some (.int .i64 (O i).kind) ∧ w.cell? ⟨b, off + i * 6 + 1, none⟩ = some (.bool (O i).which) ∧ w.cell? ⟨b, off + i * 6 + 2, none⟩ = some (.int .i64 (O i).i) ∧
    w.cell? ⟨b, off + i * 6 + 3, none⟩ = some (.int .i64 (O i).a) ∧ w.cell? ⟨b, off + i * 6 + 4, none⟩ = some (.int .i64 (O i).b) ∧ w.cell? ⟨b, off + i * 6 + 5, none⟩ = some (.slice (A i) (N i) (C i)) ∧
    IsB w (A i) (N i) (C i) (O i).xs)
theorem IsS.below {w w' : World} {al : Option Addr} {nl cl : Nat} {O : Nat → OpV} {A : Nat → Option Addr} {N C : Nat → Nat} (h : IsS w al nl cl O A N C) (hb : Below w.heap.size w w') : IsS w' al nl cl O A N C := by
  obtain ⟨h1, h2, h3⟩ := h
  refine ⟨h1, h2, fun hn => ?_⟩
  obtain ⟨b, off, e, hlt, hc⟩ := h3 hn
  refine ⟨b, off, e, Nat.lt_of_lt_of_le hlt hb.size, fun i hi => ?_⟩
  obtain ⟨k0, k1, k2, k3, k4, k5, k6⟩ := hc i hi
  exact ⟨(hb.cell (p := ⟨b, off + i * 6, none⟩) hlt).trans k0, (hb.cell (p := ⟨b, off + i * 6 + 1, none⟩) hlt).trans k1, (hb.cell (p := ⟨b, off + i * 6 + 2, none⟩) hlt).trans k2, (hb.cell (p := ⟨b, off + i * 6 + 3, none⟩) hlt).trans k3, (hb.cell (p := ⟨b, off + i * 6 + 4, none⟩) hlt).trans k4, (hb.cell (p := ⟨b, off + i * 6 + 5, none⟩) hlt).trans k5, k6.below hb⟩

theorem isB_three (w : World) (x y z : Int) : IsB (w.alloc (.cells #[.int .u8 x, .int .u8 y, .int .u8 z] 5)) (some ⟨w.heap.size, 0, none⟩) 3 3 [x, y, z] :=
  ⟨rfl, Nat.le_refl _, by omega, fun _ => ⟨w.heap.size, 0, rfl, by simp, fun i hi => by
    rcases (by omega : i = 0 ∨ i = 1 ∨ i = 2) with rfl | rfl | rfl <;>
    · rw [cell_row (heap_alloc_new w _)]
      rfl⟩⟩

theorem cells6 {w : World} {g : Nat} {a b c d e f : Value} {t : TypeId} (h : w.heap[g]? = some (.cells #[a, b, c, d, e, f] t (0, 0))) :
    w.cell? ⟨g, 0, none⟩ = some a ∧ w.cell? ⟨g, 1, none⟩ = some b ∧ w.cell? ⟨g, 2, none⟩ = some c ∧ w.cell? ⟨g, 3, none⟩ = some d ∧ w.cell? ⟨g, 4, none⟩ = some e ∧ w.cell? ⟨g, 5, none⟩ = some f :=
  ⟨cell_row h 0, cell_row h 1, cell_row h 2, cell_row h 3, cell_row h 4, cell_row h 5⟩

theorem set_drop {G : List DG} {j : Nat} {d : DG} (hj : j < G.length) : (G.set j d).drop (j + 1) = G.drop (j + 1) := by
  rw [List.drop_set, if_pos (by omega)]
theorem set_take {G : List DG} {j : Nat} {d : DG} : (G.set j d).take j = G.take j := by
  rw [List.take_set, List.set_eq_of_length_le (by simp; omega)]
theorem without_take {G : List DG} {j : Nat} (hj : j < G.length) : (without G j).take j = G.take j := by
  unfold without
  rw [List.take_append_of_le_length (by simp; omega), List.take_of_length_le (by simp; omega)]
theorem without_drop {G : List DG} {j : Nat} (hj : j < G.length) : (without G j).drop j = G.drop (j + 1) := by
  unfold without
  have : (G.take j).length = j := by simp; omega
  rw [List.drop_append, this]
  simp

/-- others is right, whatever was taken. -/
theorem others_any (al bl n cl n' cl' : Nat) (L L' : List It) (o : OpV) (a : Option Addr) (m c : Nat) (w : World) (h : IsG w (some ⟨al, 0, none⟩) n cl L) (h' : IsG w (some ⟨bl, 0, none⟩) n' cl' L') (hS : Shape (L.map It.d) (L'.map It.d) o.kind o.i) :
    Calls Try.prog 27 #[.slice (some ⟨al, 0, none⟩) n cl, .slice (some ⟨bl, 0, none⟩) n' cl', opv o a m c] w fun e w' => e = .returned (.bool true) ∧ Below w.heap.size w w' := by
  have hl : L.length = n := h.1.1
  have hl' : L'.length = n' := h'.1.1
  have hb1 := h.1.2.1
  have hb2 := h'.1.2.1
  obtain ⟨ok, ow, oi, oa, ob, xs⟩ := o
  rcases hS with ⟨hk, d, he⟩ | ⟨hk, j, hj, hjn, he⟩ | ⟨hk1, hk2, j, d, hj, hjn, he⟩
  · have := congrArg List.length he
    simp at this
    obtain rfl : n' = n + 1 := by omega
    exact others_put _ _ n cl cl' L L' ⟨ok, ow, oi, oa, ob, xs⟩ a m c d w h h' hk he
  · simp only at hk hj
    subst hj
    have hjl : j < L.length := by simpa using hjn
    have hlen := congrArg List.length he
    rw [List.length_map] at hlen
    have hw := without_len hjn
    simp at hw
    have hm1 : moreP ok = -1 := by unfold moreP; rw [if_neg (by unfold isPut; unfold isOut at hk; omega), if_pos hk]
    have e1 : (L.take j).map It.d = (L'.take j).map It.d := by rw [map_take', map_take', he, without_take hjn]
    have e2 : (L.drop (j + 1)).map It.d = (L'.drop j).map It.d := by rw [map_drop', map_drop', he, without_drop hjn]
    unfold opv
    by_cases hA : cl = j + 1 <;> by_cases hB : cl' = j
    · obtain rfl : n = j + 1 := by omega
      subst hA
      obtain rfl : n' = j := by omega
      subst hB
      exact others_out_11 al 0 bl 0 L L' ok ow oa ob a m c _ w h h' hm1 e1 e2
    · obtain rfl : n = j + 1 := by omega
      subst hA
      exact others_out_10 al 0 bl 0 n' cl' L L' ok ow oa ob a m c _ w h h' hm1 (by omega) hB e1 e2
    · obtain rfl : n' = j := by omega
      subst hB
      exact others_out_01 al 0 bl 0 n cl L L' ok ow oa ob a m c _ w h h' hm1 (by omega) hA e1 e2
    · exact others_out_00 al 0 bl 0 n cl n' cl' L L' ok ow oa ob a m c _ w h h' hm1 (by omega) hA (by omega) hB e1 e2
  · simp only at hk1 hk2 hj
    subst hj
    have hjl : j < L.length := by simpa using hjn
    have hlen := congrArg List.length he
    simp at hlen
    have hm1 : moreP ok = 0 := by unfold moreP; rw [if_neg hk1, if_neg hk2]
    have e1 : (L.take j).map It.d = (L'.take j).map It.d := by rw [map_take', map_take', he, set_take]
    have e2 : (L.drop (j + 1)).map It.d = (L'.drop (j + 1)).map It.d := by rw [map_drop', map_drop', he, set_drop hjn]
    unfold opv
    by_cases hA : cl = j + 1 <;> by_cases hB : cl' = j + 1
    · obtain rfl : n = j + 1 := by omega
      subst hA
      obtain rfl : n' = j + 1 := by omega
      subst hB
      exact others_at_11 al 0 bl 0 L L' ok ow oa ob a m c _ w h h' hm1 e1 e2
    · obtain rfl : n = j + 1 := by omega
      subst hA
      exact others_at_10 al 0 bl 0 n' cl' L L' ok ow oa ob a m c _ w h h' hm1 (by omega) hB e1 e2
    · obtain rfl : n' = j + 1 := by omega
      subst hB
      exact others_at_01 al 0 bl 0 n cl L L' ok ow oa ob a m c _ w h h' hm1 (by omega) hA e1 e2
    · exact others_at_00 al 0 bl 0 n cl n' cl' L L' ok ow oa ob a m c _ w h h' hm1 (by omega) hA (by omega) hB e1 e2

set_option maxRecDepth 100000 in
set_option maxHeartbeats 8000000 in
theorem netCounts_any (n0 : Int) (al : Option Addr) (nl cl : Nat) (O : Nat → OpV) (A : Nat → Option Addr) (N C : Nat → Nat) (w : World) (hS : IsS w al nl cl O A N C) :
    Calls Try.prog 7 #[.int .i64 n0, .slice al nl cl] w fun e w' => e = .returned (.bool true) ∧ Below w.heap.size w w' := by
  obtain ⟨p, hp⟩ : ∃ p, intoP n0 64 = p := ⟨_, rfl⟩
  have hp3 : p < 64 := by rw [← hp]; exact intoP_lt n0 64 (by omega)
  have HP := hd hp
  have HS := hd hS
  have hn2 : nl ≤ cl ∧ cl ≤ 9223372036854775807 := ⟨hS.1, hS.2.1⟩
  clear hp hS
  go_enter Try.func7, Try.ntmps7
  go_wp2_with fail
  refine (into_any n0 64 w (by omega) (by omega)).mono ?_
  rintro e w0 ⟨rfl, rfl⟩
  rw [HP.out]
  go_wp2_with fail
  refine (st_new (1 + (p : Int)) w0 (by omega)).mono ?_
  rintro e w1 ⟨x, rfl, h1⟩
  have H1 := hd h1
  clear h1
  go_wp2_with fail
  refine (st_send (H1.out.below ((Below.refl _ _).alloc (Nat.le_refl _) _)) (by omega) (1 + (p : Int)) 0 _ 3 3 [1, 2, 3] (isB_three w1 1 2 3)).mono ?_
  rintro e w2 ⟨rfl, h2, -⟩
  have e2 : sendE (1 + (p : Int)) ([] : List DG).length (1 + (p : Int)) 0 ([1, 2, 3] : List Int).length = 0 := sendE_ok (decide_eq_true (.inr ⟨rfl, by omega, by omega⟩)) (by simp) (by simp)
  rw [sendG_yes e2] at h2
  rw [show sendE (1 + (p : Int)) ([] : List DG).length (1 + (p : Int)) 0 3 = 0 from e2]
  have S0 : Hid (∃ G : List DG, G.length = 1 ∧ ST w0 w2 x (1 + (p : Int)) G 1) := ⟨_, rfl, h2⟩
  clear h2 e2
  obtain ⟨G1, hl1, hS1⟩ := S0.out
  have HC0 := st_count hS1
  rw [hl1] at HC0
  have HC := hd HC0
  clear HC0 hl1 hS1
  go_wp2_with fail
  refine HC.out.mono ?_
  clear HC
  rintro e w3 ⟨rfl, hw3⟩
  subst hw3
  go_wp2_with fail
  go_loopw [8, 9] (fun vc vi wr => ∃ gl i : Nat, i ≤ nl ∧ i ≤ 60 ∧ vc = .int .i64 gl ∧ vi = .int .i64 i ∧ Hid (∃ G : List DG, G.length = gl ∧ ST w0 wr x (1 + (p : Int)) G (i + 1))) (fun _ vi _ => 60 - (intOf vi).toNat)
  case atStart => exact ⟨1, 0, Nat.zero_le _, by omega, rfl, rfl, S0⟩
  case round =>
  obtain ⟨gl, i, hin, hi6, rfl, rfl, HG⟩ := hrel
  clear S0
  obtain ⟨G, hgl, hST⟩ := HG.out
  have HGL := hd hgl
  have H := hd hST
  have hfew : gl ≤ 2048 := by rw [← hgl]; exact hST.few
  clear hgl hST
  by_cases hlt : i < nl
  · by_cases h60 : i < 60
    · have i1 : (i : Int) < (nl : Int) := by omega
      have i2 : (i : Int) < 60 := by omega
      have L1 := HS.out.below H.out.base
      obtain ⟨b, off, rfl, hb, hc⟩ := L1.2.2 (by omega)
      obtain ⟨k0, k1, k2, k3, k4, k5, kB⟩ := hc i hlt
      have KB := hd kB
      clear L1 hc kB
      generalize O i = o at *
      generalize A i = oad at *
      generalize N i = on at *
      generalize C i = oc at *
      obtain ⟨ok, ow, oi, oa, ob, oxs⟩ := o
      simp only at k0 k1 k2 k3 k4 k5 KB
      obtain ⟨wb, hwb⟩ : ∃ wb, wb = wr.alloc (.cells #[.int .i64 ok, .bool ow, .int .i64 oi, .int .i64 oa, .int .i64 ob, .slice oad on oc] 53) := ⟨_, rfl⟩
      have bb : Below wr.heap.size wr wb := by rw [hwb]; exact (Below.refl _ _).alloc (Nat.le_refl _) _
      have rb : wb.heap[wr.heap.size]? = some (.cells #[.int .i64 ok, .bool ow, .int .i64 oi, .int .i64 oa, .int .i64 ob, .slice oad on oc] 53 (0, 0)) := by rw [hwb]; exact heap_alloc_new _ _
      obtain ⟨S, N0, hlo, hbase⟩ := H.out
      have hold := N0.old
      have N1 := hd (N0.below bb)
      have HK := hd (And.intro hold (And.intro hlo (And.intro hbase (And.intro bb rb))))
      clear N0 hlo hbase bb rb hold
      go_wp2_with fail
      rw [← hwb]
      clear hwb k0 k1 k2 k3 k4 k5
      refine (flight_some x _ G _ S wb N1.out).mono ?_
      rintro e wf ⟨g1, c1, L1, rfl, hF1, hL1, bf⟩
      obtain ⟨hold, hlo, hbase, bb, rb⟩ := HK.out
      have hbs := bb.size
      have rbf := (bf.block _ (block_lt rb)).trans rb
      have rlt := block_lt rb
      obtain ⟨j0, j1, j2, j3, j4, j5⟩ := cells6 rbf
      have AS := asked_any x _ G _ S wf (N1.out.below bf) (by omega) ⟨ok, ow, oi, oa, ob, oxs⟩ oad on oc (KB.out.below (bb.trans (bf.mono hbs)))
      have HAS := hd AS
      have HF1 := hd (And.intro hF1 hL1)
      have HBF := hd bf
      have HRF := hd rbf
      have HX := hd (And.intro hbs rlt)
      rw [HGL.out]
      clear AS hF1 hL1 bf rbf rb bb hold hlo hbase hbs rlt
      go_wp2_with fail
      refine HAS.out.mono ?_
      clear HAS
      obtain ⟨ev, hev⟩ : ∃ ev, askE (1 + (p : Int)) G ⟨ok, ow, oi, oa, ob, oxs⟩ = ev := ⟨_, rfl⟩
      obtain ⟨G', hG'⟩ : ∃ G', askG (1 + (p : Int)) G ⟨ok, ow, oi, oa, ob, oxs⟩ = G' := ⟨_, rfl⟩
      rw [hev, hG']
      have HEV := hd (And.intro hev hG')
      clear hev hG'
      rintro e wk ⟨rfl, ⟨S', N2, hgr, hfr⟩⟩
      obtain ⟨hold, hlo, hbase, bb, rb⟩ := HK.out
      obtain ⟨hbs, rlt⟩ := HX.out
      have hfs := HBF.out.size
      have rbk := hfr.keeps HRF.out (fun hs => by have := hold _ hs; omega)
      have FK := HF1.out.1.fr hfr (fun k h1 h2 hs => by have := hold _ hs; omega)
      have f1 : Fr S wr wk := ((Fr.of_below bb).trans (Fr.of_below HBF.out)).trans hfr
      have baseK : Below w0.heap.size w0 wk := hbase.trans (f1.below hbase.size hlo)
      have HN2 := hd N2
      have HBK := hd (And.intro baseK (And.intro hgr hlo))
      have HFK := hd FK
      have HRK := hd rbk
      clear N2 hgr hfr rbk FK baseK f1 hold hlo hbase bb rb hbs rlt hfs j0 j1 j2 j3 j4 j5
      go_wp2_with fail
      refine (flight_some x _ G' _ S' wk HN2.out).mono ?_
      rintro e wg ⟨g2, c2, L2, rfl, hF2, hL2, bg⟩
      obtain ⟨a1, cc1, hv1, I1⟩ := (HFK.out.below bg).isG
      obtain ⟨a2, cc2, hv2, I2⟩ := hF2.isG
      have l1 : L1.length = gl := by have := congrArg List.length HF1.out.2; simp at this; rw [this]; exact HGL.out
      obtain ⟨gl', hgl'⟩ : ∃ gl', G'.length = gl' := ⟨_, rfl⟩
      have l2 : L2.length = gl' := by have := congrArg List.length hL2; simp at this; rw [this]; exact hgl'
      have hfew' : gl' ≤ 2048 := by rw [← hgl']; exact HN2.out.few
      rw [l1] at hv1 I1
      rw [l2] at hv2 I2
      rw [hgl'] at hv2 ⊢
      rw [HGL.out] at hv1
      injection hv1 with q1 q2 q3
      injection hv2 with q4 q5 q6
      subst q1 q3 q4 q6
      have rbg := (bg.block _ (block_lt HRK.out)).trans HRK.out
      obtain ⟨j0, j1, j2, j3, j4, j5⟩ := cells6 rbg
      have ST2 : Hid (∀ W, Below wg.heap.size wg W → ST w0 W x (1 + (p : Int)) G' (i + 1 + 1)) := fun W bW => by
        obtain ⟨bK, hgr, hlo⟩ := HBK.out
        have b1 := bg.trans (bW.mono bg.size)
        have := HK.out.2.2.1.size
        have := HX.out.1
        have := HBF.out.size
        exact ⟨S', HN2.out.below b1, fun k hk => (hgr k hk).elim (hlo k) (fun h => by omega), bK.trans (b1.mono bK.size)⟩
      have HI1 := hd I1
      have HI2 := hd I2
      have HLs := hd (And.intro HF1.out.2 hL2)
      have HGL' := hd hgl'
      clear I1 I2 hF2 hL2 bg rbg l1 l2 hgl' q2 q5
      by_cases hev0 : ev = 0
      · subst hev0
        have SH := ask_ok HEV.out.1
        rw [HEV.out.2] at SH
        have hlen := SH.len
        simp only at hlen
        rw [HGL'.out, HGL.out] at hlen
        have OT := others_any g1 g2 gl c1 gl' c2 L1 L2 ⟨ok, ow, oi, oa, ob, oxs⟩ oad on oc wg HI1.out HI2.out (by rw [HLs.out.1, HLs.out.2]; exact SH)
        have HOT := hd OT
        obtain ⟨mp, hmp⟩ : ∃ mp, moreP ok = mp := ⟨_, rfl⟩
        rw [hmp] at hlen
        have HMP := hd hmp
        have CT := hd (st_count (ST2.out wg (Below.refl _ _)))
        clear SH OT hmp
        go_wp2_with fail
        refine (more_any ok _).mono ?_
        rintro e wm ⟨rfl, rfl⟩
        rw [HMP.out]
        have hadd : (gl : Int) + mp = (gl' : Int) := hlen.symm
        clear hlen
        go_wp2_with fail
        refine CT.out.mono ?_
        rintro e wn ⟨rfl, rfl⟩
        rw [HGL'.out]
        unfold opv at HOT
        go_wp2_with fail
        refine HOT.out.mono ?_
        rintro e wo ⟨rfl, bo⟩
        have Z : Hid (∃ G : List DG, G.length = gl' ∧ ST w0 wo x (1 + (p : Int)) G (i + 1 + 1)) := ⟨G', HGL'.out, ST2.out wo bo⟩
        clear bo HOT CT
        go_wp2_with fail
        go_roundw
        case rel => exact ⟨gl', i + 1, by omega, by omega, by first | rfl | go_num | (congr 1), by go_num, Z⟩
        case measure => simp [intOf]; omega
      · have hgg : G' = G := by
          have := HEV.out.2
          rw [ask_no (by rw [HEV.out.1]; exact hev0)] at this
          exact this.symm
        have hll : gl' = gl := by rw [← HGL'.out, ← HGL.out, hgg]
        subst hll
        have FT := hd (flights_true _ _ gl' c1 c2 L1 L2 wg HI1.out HI2.out (by rw [HLs.out.1, HLs.out.2, hgg]))
        go_wp2_with fail
        refine FT.out.mono ?_
        rintro e wo ⟨rfl, bo⟩
        have Z : Hid (∃ G : List DG, G.length = gl' ∧ ST w0 wo x (1 + (p : Int)) G (i + 1 + 1)) := ⟨G', HGL'.out, ST2.out wo bo⟩
        clear bo FT
        go_wp2_with fail
        go_roundw
        case rel => exact ⟨gl', i + 1, by omega, by omega, rfl, by go_num, Z⟩
        case measure => simp [intOf]; omega
    · have i1 : (i : Int) < (nl : Int) := by omega
      have i2 : ¬ (i : Int) < 60 := by omega
      have CT := hd (st_count H.out)
      go_wp2_with fail
      refine CT.out.mono ?_
      rintro e wn ⟨rfl, rfl⟩
      rw [HGL.out]
      go_wp2
      go_ret
      exact ⟨rfl, H.out.base⟩
  · have i1 : ¬ (i : Int) < (nl : Int) := by omega
    have CT := hd (st_count H.out)
    go_wp2_with fail
    refine CT.out.mono ?_
    rintro e wn ⟨rfl, rfl⟩
    rw [HGL.out]
    go_wp2
    go_ret
    exact ⟨rfl, H.out.base⟩

end Go.Proofs.Ytnglcnilckolkaa
