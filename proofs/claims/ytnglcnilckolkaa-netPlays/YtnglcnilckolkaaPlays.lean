/-
  NetPlays.
-/
import Derived.Test.YtnglcnilckolkaaPe
namespace Go.Proofs.Ytnglcnilckolkaa
open Go.RowKit
set_option linter.unusedVariables false

set_option maxRecDepth 100000 in
set_option maxHeartbeats 16000000 in
theorem netPlays_any (na nb : Int) (al : Option Addr) (nl cl : Nat) (O : Nat → OpV) (A : Nat → Option Addr) (N C : Nat → Nat) (w : World) (hS : IsS w al nl cl O A N C) :
    Calls Try.prog 8 #[.int .i64 na, .int .i64 nb, .slice al nl cl] w fun e w' => e = .returned (.bool true) ∧ Below w.heap.size w w' := by
  have HS := hd hS
  have hn2 : nl ≤ cl ∧ cl ≤ 9223372036854775807 := ⟨hS.1, hS.2.1⟩
  clear hS
  go_enter Try.func8, Try.ntmps8
  go_wp2_with fail
  refine (news_any na w).mono ?_
  rintro e w1 ⟨p1, ev1, rfl, b1, hR1⟩
  have HR1 := hd hR1
  clear hR1 b1
  go_wp2_with fail
  refine HR1.out.mono ?_
  clear HR1
  rintro e w2 ⟨q1, rfl, b2, hA1⟩
  have H1 := hd (And.intro b2 hA1)
  clear b2 hA1
  go_wp2_with fail
  refine (news_any nb w2).mono ?_
  rintro e w3 ⟨p2, ev2, rfl, b3, hR2⟩
  have HR2 := hd hR2
  clear hR2 b3
  go_wp2_with fail
  refine HR2.out.mono ?_
  clear HR2
  rintro e w4 ⟨q2, rfl, b4, hA2⟩
  have LL : Hid (PL w w4 p1 q1 p2 q2 0) := by
    obtain ⟨b2, hA1⟩ := H1.out
    have hs2 := b2.size
    have hs4 := b4.size
    have b24 : Below w.heap.size w w4 := b2.trans (b4.mono hs2)
    obtain ⟨T1, a1, a2, a3⟩ : ∃ T1, AP w4 p1 q1 0 T1 ∧ (∀ k, T1 k → w.heap.size ≤ k) ∧ (∀ k, T1 k → k < w2.heap.size) := by
      rcases hA1 with h | ⟨x, y, h1, h2, h3, T, h4, h5⟩
      · exact ⟨fun _ => False, .inl h, fun _ h => h.elim, fun _ h => h.elim⟩
      · exact ⟨T, .inr ⟨x, y, na, [], h1, h2, h3, h4.below b4⟩, h5, h4.old⟩
    obtain ⟨T2, d1, d2, d3⟩ : ∃ T2, AP w4 p2 q2 0 T2 ∧ (∀ k, T2 k → w2.heap.size ≤ k) ∧ (∀ k, T2 k → k < w4.heap.size) := by
      rcases hA2 with h | ⟨x, y, h1, h2, h3, T, h4, h5⟩
      · exact ⟨fun _ => False, .inl h, fun _ h => h.elim, fun _ h => h.elim⟩
      · exact ⟨T, .inr ⟨x, y, nb, [], h1, h2, h3, h4⟩, h5, h4.old⟩
    refine ⟨T1, T2, a1, d1, fun k h1 h2 => ?_, ?_, b24⟩
    · have := a3 k h1
      have := d2 k h2
      omega
    · rintro k (hk | hk)
      · exact ⟨a2 k hk, by have := a3 k hk; omega⟩
      · exact ⟨by have := d2 k hk; omega, d3 k hk⟩
  have H2 := hd hA2
  clear b4 hA2
  have Hp : Hid ((p1 = none ↔ q1 = none) ∧ (p2 = none ↔ q2 = none)) := by
    constructor
    · rcases H1.out.2 with ⟨rfl, rfl⟩ | ⟨x, y, rfl, rfl, -⟩ <;> simp
    · rcases H2.out with ⟨rfl, rfl⟩ | ⟨x, y, rfl, rfl, -⟩ <;> simp
  clear H1 H2
  go_upto_region 5 with fail
  go_cut [59] (fun v wx => v = .bool false ∧ wx = w4)
  case first =>
    obtain ⟨hp, hq⟩ := Hp.out
    cases p1 <;> cases q1 <;> simp at hp <;> cases p2 <;> cases q2 <;> simp at hq
    all_goals
      clear LL Hp HS
      go_wp2_with fail
      go_meet
      exact ⟨rfl, rfl⟩
  case rest =>
  obtain ⟨rfl, hwx⟩ := hcut
  subst hwx
  clear Hp
  go_wp2_with fail
  go_loopw [15, 16] (fun vb vi wr => ∃ bu i : Nat, i ≤ nl ∧ i ≤ 400 ∧ bu ≤ i ∧ vb = .int .i64 bu ∧ vi = .int .i64 i ∧ Hid (PL w wr p1 q1 p2 q2 (i * 3000))) (fun _ vi _ => 400 - (intOf vi).toNat)
  case atStart => exact ⟨0, 0, Nat.zero_le _, by omega, by omega, rfl, rfl, LL⟩
  case round =>
  obtain ⟨bu, i, hin, hi4, hbu, rfl, rfl, HL⟩ := hrel
  clear LL
  by_cases hlt : i < nl
  · by_cases h400 : i < 400
    · have i1 : (i : Int) < (nl : Int) := by omega
      have i2 : (i : Int) < 400 := by omega
      have hbase := HL.out.choose_spec.choose_spec.2.2.2.2
      have L1 := HS.out.below hbase
      have L0 := HS.out
      obtain ⟨b, off, rfl, hb, hc⟩ := L1.2.2 (by omega)
      obtain ⟨b', off', hal, -, hc0⟩ := L0.2.2 (by omega)
      obtain ⟨k0, k1, k2, k3, k4, k5, -⟩ := hc i hlt
      obtain ⟨-, -, -, -, -, -, kB⟩ := hc0 i hlt
      have KB := hd kB
      clear L1 L0 hc hc0 kB hal
      generalize O i = o at *
      generalize A i = oad at *
      generalize N i = on at *
      generalize C i = oc at *
      obtain ⟨ok, ow, oi, oa, ob, oxs⟩ := o
      simp only at k0 k1 k2 k3 k4 k5 KB
      obtain ⟨wb, hwb⟩ : ∃ wb, wb = wr.alloc (.cells #[.int .i64 ok, .bool ow, .int .i64 oi, .int .i64 oa, .int .i64 ob, .slice oad on oc] 53) := ⟨_, rfl⟩
      have bb : Below wr.heap.size wr wb := by rw [hwb]; exact (Below.refl _ _).alloc (Nat.le_refl _) _
      have rb : wb.heap[wr.heap.size]? = some (.cells #[.int .i64 ok, .bool ow, .int .i64 oi, .int .i64 oa, .int .i64 ob, .slice oad on oc] 53 (0, 0)) := by rw [hwb]; exact heap_alloc_new _ _
      obtain ⟨d0, d1, d2, d3, d4, d5⟩ := cells6 rb
      have RB0 := hd rb
      have HLb := hd (HL.out.below bb)
      have HLT : Hid (∃ T1 T2, AP wb p1 q1 (i * 3000) T1 ∧ AP wb p2 q2 (i * 3000) T2 ∧ (∀ k, T1 k → ¬ T2 k) ∧ (∀ k, T1 k ∨ T2 k → w.heap.size ≤ k ∧ k < wb.heap.size) ∧ Below w.heap.size w wb ∧ ∀ k, wr.heap.size ≤ k → T1 k ∨ T2 k → False) := by
        obtain ⟨T1, T2, h1, h2, h3, h4, h5⟩ := HL.out
        have hs := bb.size
        exact ⟨T1, T2, h1.fr (Q := fun _ => False) (Fr.of_below bb) (fun _ _ h => h), h2.fr (Q := fun _ => False) (Fr.of_below bb) (fun _ _ h => h), h3, fun k hk => ⟨(h4 k hk).1, by have := (h4 k hk).2; omega⟩, h5.trans (bb.mono h5.size), fun k h1 h2 => by have := (h4 k h2).2; omega⟩
      clear bb rb hbase HL
      by_cases hk8 : ok = 8
      · subst hk8
        by_cases hb3 : 3 < bu + 1
        · have i3 : (3 : Int) < (bu : Int) + 1 := by omega
          have Z : Hid (PL w wb p1 q1 p2 q2 ((i + 1) * 3000)) := HLb.out.mono (by omega)
          go_wp2_with fail
          rw [← hwb]
          go_roundw
          case rel => exact ⟨bu + 1, i + 1, by omega, by omega, by omega, by go_num, by go_num, Z⟩
          case measure => simp [intOf]; omega
        · have i3 : ¬ (3 : Int) < (bu : Int) + 1 := by omega
          go_upto_region 15 with fail
          rw [← hwb]
          clear hwb k0 k1 k2 k3 k4 k5
          obtain ⟨T1, T2, P1, P2, h3, h4, h5, hnt⟩ := HLT.out
          have HNT := hd hnt
          clear hnt
          cases ow
          · rcases P1 with P1 | P1
            · obtain ⟨h1x, h1y⟩ := P1
              subst h1x
              subst h1y
              have Z : Hid (PL w wb _ _ _ _ ((i + 1) * 3000)) := (HLb.out.mono (by omega))
              clear HLb
              go_wp2_with fail
              go_roundw
              case rel => exact ⟨bu + 1, i + 1, by omega, by omega, by omega, by go_num, by go_num, Z⟩
              case measure => simp [intOf]; omega
            · obtain ⟨x1, y1, cl1, G1, h1x, h1y, hcl1, hPS⟩ := P1
              subst h1x
              subst h1y
              have ST := hd (step_any w wb x1 y1 cl1 G1 (i * 3000) T1 hPS hcl1 (fun k hk => (h4 k (.inl hk)).1) h5 8 false oi oa ob oxs oad on oc KB.out (by omega))
              have hnb := fun hk => (HNT.out wr.heap.size (Nat.le_refl _) (.inl hk))
              have HH := hd (And.intro P2 (And.intro h3 (And.intro h4 (And.intro h5 hnb))))
              clear hPS P2 h3 h4 h5 hnb HLb
              go_wp2_with fail
              refine ST.out.mono ?_
              clear ST
              rintro e u ⟨rfl, G', hN⟩
              have ru := (show Fr T1 wb u from by obtain ⟨-, -, -, q⟩ := hN; exact q).keeps RB0.out HH.out.2.2.2.2
              obtain ⟨e0, e1, e2, e3, e4, e5⟩ := cells6 ru
              have Z : Hid (PL w u (some ⟨x1, 0, none⟩) (some ⟨y1, 0, none⟩) p2 q2 ((i + 1) * 3000)) := by
                have := PL.step (w := w) hcl1 HH.out.1 HH.out.2.1 HH.out.2.2.1 HH.out.2.2.2.1 hN
                exact (PL.mono this (by omega))
              clear ru hN
              go_wp2_with fail
              go_roundw
              case rel => exact ⟨bu + 1, i + 1, by omega, by omega, by omega, by go_num, by go_num, Z⟩
              case measure => simp [intOf]; omega
          · rcases P2 with P2 | P2
            · obtain ⟨h1x, h1y⟩ := P2
              subst h1x
              subst h1y
              have Z : Hid (PL w wb _ _ _ _ ((i + 1) * 3000)) := (HLb.out.mono (by omega))
              clear HLb
              go_wp2_with fail
              go_roundw
              case rel => exact ⟨bu + 1, i + 1, by omega, by omega, by omega, by go_num, by go_num, Z⟩
              case measure => simp [intOf]; omega
            · obtain ⟨x2, y2, cl2, G2, h1x, h1y, hcl2, hPS⟩ := P2
              subst h1x
              subst h1y
              have ST := hd (step_any w wb x2 y2 cl2 G2 (i * 3000) T2 hPS hcl2 (fun k hk => (h4 k (.inr hk)).1) h5 8 true oi oa ob oxs oad on oc KB.out (by omega))
              have hnb := fun hk => (HNT.out wr.heap.size (Nat.le_refl _) (.inr hk))
              have HH := hd (And.intro P1 (And.intro h3 (And.intro h4 (And.intro h5 hnb))))
              clear hPS P1 h3 h4 h5 hnb HLb
              go_wp2_with fail
              refine ST.out.mono ?_
              clear ST
              rintro e u ⟨rfl, G', hN⟩
              have ru := (show Fr T2 wb u from by obtain ⟨-, -, -, q⟩ := hN; exact q).keeps RB0.out HH.out.2.2.2.2
              obtain ⟨e0, e1, e2, e3, e4, e5⟩ := cells6 ru
              have Z : Hid (PL w u p1 q1 (some ⟨x2, 0, none⟩) (some ⟨y2, 0, none⟩) ((i + 1) * 3000)) := by
                have := PL.step (w := w) hcl2 HH.out.1 (fun k h h2 => HH.out.2.1 k h2 h) (fun k hk => HH.out.2.2.1 k hk.symm) HH.out.2.2.2.1 hN
                exact (PL.mono this.swap (by omega))
              clear ru hN
              go_wp2_with fail
              go_roundw
              case rel => exact ⟨bu + 1, i + 1, by omega, by omega, by omega, by go_num, by go_num, Z⟩
              case measure => simp [intOf]; omega
      · go_upto_region 15 with fail
        rw [← hwb]
        clear hwb k0 k1 k2 k3 k4 k5
        obtain ⟨T1, T2, P1, P2, h3, h4, h5, hnt⟩ := HLT.out
        have HNT := hd hnt
        clear hnt
        cases ow
        · rcases P1 with P1 | P1
          · obtain ⟨h1x, h1y⟩ := P1
            subst h1x
            subst h1y
            have Z : Hid (PL w wb _ _ _ _ ((i + 1) * 3000)) := (HLb.out.mono (by omega))
            clear HLb
            go_wp2_with fail
            go_roundw
            case rel => exact ⟨bu, i + 1, by omega, by omega, by omega, rfl, by go_num, Z⟩
            case measure => simp [intOf]; omega
          · obtain ⟨x1, y1, cl1, G1, h1x, h1y, hcl1, hPS⟩ := P1
            subst h1x
            subst h1y
            have ST := hd (step_any w wb x1 y1 cl1 G1 (i * 3000) T1 hPS hcl1 (fun k hk => (h4 k (.inl hk)).1) h5 ok false oi oa ob oxs oad on oc KB.out (by omega))
            have hnb := fun hk => (HNT.out wr.heap.size (Nat.le_refl _) (.inl hk))
            have HH := hd (And.intro P2 (And.intro h3 (And.intro h4 (And.intro h5 hnb))))
            clear hPS P2 h3 h4 h5 hnb HLb
            go_wp2_with fail
            refine ST.out.mono ?_
            clear ST
            rintro e u ⟨rfl, G', hN⟩
            have ru := (show Fr T1 wb u from by obtain ⟨-, -, -, q⟩ := hN; exact q).keeps RB0.out HH.out.2.2.2.2
            obtain ⟨e0, e1, e2, e3, e4, e5⟩ := cells6 ru
            have Z : Hid (PL w u (some ⟨x1, 0, none⟩) (some ⟨y1, 0, none⟩) p2 q2 ((i + 1) * 3000)) := by
              have := PL.step (w := w) hcl1 HH.out.1 HH.out.2.1 HH.out.2.2.1 HH.out.2.2.2.1 hN
              exact (PL.mono this (by omega))
            clear ru hN
            go_wp2_with fail
            go_roundw
            case rel => exact ⟨bu, i + 1, by omega, by omega, by omega, rfl, by go_num, Z⟩
            case measure => simp [intOf]; omega
        · rcases P2 with P2 | P2
          · obtain ⟨h1x, h1y⟩ := P2
            subst h1x
            subst h1y
            have Z : Hid (PL w wb _ _ _ _ ((i + 1) * 3000)) := (HLb.out.mono (by omega))
            clear HLb
            go_wp2_with fail
            go_roundw
            case rel => exact ⟨bu, i + 1, by omega, by omega, by omega, rfl, by go_num, Z⟩
            case measure => simp [intOf]; omega
          · obtain ⟨x2, y2, cl2, G2, h1x, h1y, hcl2, hPS⟩ := P2
            subst h1x
            subst h1y
            have ST := hd (step_any w wb x2 y2 cl2 G2 (i * 3000) T2 hPS hcl2 (fun k hk => (h4 k (.inr hk)).1) h5 ok true oi oa ob oxs oad on oc KB.out (by omega))
            have hnb := fun hk => (HNT.out wr.heap.size (Nat.le_refl _) (.inr hk))
            have HH := hd (And.intro P1 (And.intro h3 (And.intro h4 (And.intro h5 hnb))))
            clear hPS P1 h3 h4 h5 hnb HLb
            go_wp2_with fail
            refine ST.out.mono ?_
            clear ST
            rintro e u ⟨rfl, G', hN⟩
            have ru := (show Fr T2 wb u from by obtain ⟨-, -, -, q⟩ := hN; exact q).keeps RB0.out HH.out.2.2.2.2
            obtain ⟨e0, e1, e2, e3, e4, e5⟩ := cells6 ru
            have Z : Hid (PL w u p1 q1 (some ⟨x2, 0, none⟩) (some ⟨y2, 0, none⟩) ((i + 1) * 3000)) := by
              have := PL.step (w := w) hcl2 HH.out.1 (fun k h h2 => HH.out.2.1 k h2 h) (fun k hk => HH.out.2.2.1 k hk.symm) HH.out.2.2.2.1 hN
              exact (PL.mono this.swap (by omega))
            clear ru hN
            go_wp2_with fail
            go_roundw
            case rel => exact ⟨bu, i + 1, by omega, by omega, by omega, rfl, by go_num, Z⟩
            case measure => simp [intOf]; omega
    · have i1 : (i : Int) < (nl : Int) := by omega
      have i2 : ¬ (i : Int) < 400 := by omega
      obtain ⟨T1, T2, P1, P2, -, -, hbr⟩ := HL.out
      have HBR := hd hbr
      clear hbr
      rcases P1 with P1 | P1
      · rcases P2 with P2 | P2
        · obtain ⟨h1x, h1y⟩ := P1
          subst h1x
          subst h1y
          obtain ⟨h1x, h1y⟩ := P2
          subst h1x
          subst h1y
          have B0 := hd (Below.refl wr.heap.size wr)
          clear HL
          go_wp2
          go_ret
          exact ⟨rfl, HBR.out.trans (B0.out.mono HBR.out.size)⟩
        · obtain ⟨h1x, h1y⟩ := P1
          subst h1x
          subst h1y
          obtain ⟨x2, y2, cl2, G2, h1x, h1y, hcl2, S2, S2', hx2, hy2, -, -⟩ := P2
          subst h1x
          subst h1y
          have HX2 := hd hx2
          have HY2 := hd hy2
          clear hx2 hy2
          have B0 := hd (Below.refl wr.heap.size wr)
          clear HL
          go_wp2_with fail
          refine (count_any x2 cl2 G2 _ S2 _ (HX2.out.below B0.out)).mono ?_
          rintro e u2 ⟨rfl, hu2⟩
          subst hu2
          go_wp2_with fail
          refine (rcount_any y2 cl2 G2 S2' _ (HY2.out.below B0.out)).mono ?_
          rintro e v2 ⟨rfl, hv2⟩
          subst hv2
          generalize hgl2 : (G2.length : Int) = gl2
          clear hgl2
          go_wp2_with fail
          refine (flight_any x2 cl2 G2 _ S2 _ (HX2.out.below B0.out)).mono ?_
          rintro e f2 ⟨vv, rfl, ⟨βf, L2, hF, hL⟩, bf⟩
          obtain ⟨a2, c2, hvv, I⟩ := hF.isG
          have ll : L2.length = G2.length := by rw [← hL]; simp
          rw [ll] at hvv I
          subst hvv
          have BF2 := hd (B0.out.trans (bf.mono B0.out.size))
          have HI2 := hd (And.intro I hL)
          clear hF hL bf I ll
          go_wp2_with fail
          refine (rflight_any y2 cl2 G2 S2' f2 (HY2.out.below BF2.out)).mono ?_
          rintro e r2 ⟨a2', c2', L2', rfl, I', hL', br⟩
          have BR2 := hd (BF2.out.trans (br.mono BF2.out.size))
          have HQ2 := hd (And.intro (HI2.out.1.below br) (And.intro I' (show L2.map It.d = L2'.map It.d by rw [HI2.out.2, hL'])))
          clear I' hL' br
          go_wp2_with fail
          refine (flights_true a2 a2' G2.length c2 c2' L2 L2' r2 HQ2.out.1 HQ2.out.2.1 HQ2.out.2.2).mono ?_
          rintro e t2 ⟨rfl, bt⟩
          have BT2 := hd (BR2.out.trans (bt.mono BR2.out.size))
          clear bt
          go_wp2
          go_ret
          exact ⟨rfl, HBR.out.trans (BT2.out.mono HBR.out.size)⟩
      · rcases P2 with P2 | P2
        · obtain ⟨x1, y1, cl1, G1, h1x, h1y, hcl1, S1, S1', hx1, hy1, -, -⟩ := P1
          subst h1x
          subst h1y
          have HX1 := hd hx1
          have HY1 := hd hy1
          clear hx1 hy1
          obtain ⟨h1x, h1y⟩ := P2
          subst h1x
          subst h1y
          have B0 := hd (Below.refl wr.heap.size wr)
          clear HL
          go_wp2_with fail
          refine (count_any x1 cl1 G1 _ S1 _ (HX1.out.below B0.out)).mono ?_
          rintro e u1 ⟨rfl, hu1⟩
          subst hu1
          go_wp2_with fail
          refine (rcount_any y1 cl1 G1 S1' _ (HY1.out.below B0.out)).mono ?_
          rintro e v1 ⟨rfl, hv1⟩
          subst hv1
          generalize hgl1 : (G1.length : Int) = gl1
          clear hgl1
          go_wp2_with fail
          refine (flight_any x1 cl1 G1 _ S1 _ (HX1.out.below B0.out)).mono ?_
          rintro e f1 ⟨vv, rfl, ⟨βf, L1, hF, hL⟩, bf⟩
          obtain ⟨a1, c1, hvv, I⟩ := hF.isG
          have ll : L1.length = G1.length := by rw [← hL]; simp
          rw [ll] at hvv I
          subst hvv
          have BF1 := hd (B0.out.trans (bf.mono B0.out.size))
          have HI1 := hd (And.intro I hL)
          clear hF hL bf I ll
          go_wp2_with fail
          refine (rflight_any y1 cl1 G1 S1' f1 (HY1.out.below BF1.out)).mono ?_
          rintro e r1 ⟨a1', c1', L1', rfl, I', hL', br⟩
          have BR1 := hd (BF1.out.trans (br.mono BF1.out.size))
          have HQ1 := hd (And.intro (HI1.out.1.below br) (And.intro I' (show L1.map It.d = L1'.map It.d by rw [HI1.out.2, hL'])))
          clear I' hL' br
          go_wp2_with fail
          refine (flights_true a1 a1' G1.length c1 c1' L1 L1' r1 HQ1.out.1 HQ1.out.2.1 HQ1.out.2.2).mono ?_
          rintro e t1 ⟨rfl, bt⟩
          have BT1 := hd (BR1.out.trans (bt.mono BR1.out.size))
          clear bt
          go_wp2
          go_ret
          exact ⟨rfl, HBR.out.trans (BT1.out.mono HBR.out.size)⟩
        · obtain ⟨x1, y1, cl1, G1, h1x, h1y, hcl1, S1, S1', hx1, hy1, -, -⟩ := P1
          subst h1x
          subst h1y
          have HX1 := hd hx1
          have HY1 := hd hy1
          clear hx1 hy1
          obtain ⟨x2, y2, cl2, G2, h1x, h1y, hcl2, S2, S2', hx2, hy2, -, -⟩ := P2
          subst h1x
          subst h1y
          have HX2 := hd hx2
          have HY2 := hd hy2
          clear hx2 hy2
          have B0 := hd (Below.refl wr.heap.size wr)
          clear HL
          go_wp2_with fail
          refine (count_any x1 cl1 G1 _ S1 _ (HX1.out.below B0.out)).mono ?_
          rintro e u1 ⟨rfl, hu1⟩
          subst hu1
          go_wp2_with fail
          refine (rcount_any y1 cl1 G1 S1' _ (HY1.out.below B0.out)).mono ?_
          rintro e v1 ⟨rfl, hv1⟩
          subst hv1
          generalize hgl1 : (G1.length : Int) = gl1
          clear hgl1
          go_wp2_with fail
          refine (flight_any x1 cl1 G1 _ S1 _ (HX1.out.below B0.out)).mono ?_
          rintro e f1 ⟨vv, rfl, ⟨βf, L1, hF, hL⟩, bf⟩
          obtain ⟨a1, c1, hvv, I⟩ := hF.isG
          have ll : L1.length = G1.length := by rw [← hL]; simp
          rw [ll] at hvv I
          subst hvv
          have BF1 := hd (B0.out.trans (bf.mono B0.out.size))
          have HI1 := hd (And.intro I hL)
          clear hF hL bf I ll
          go_wp2_with fail
          refine (rflight_any y1 cl1 G1 S1' f1 (HY1.out.below BF1.out)).mono ?_
          rintro e r1 ⟨a1', c1', L1', rfl, I', hL', br⟩
          have BR1 := hd (BF1.out.trans (br.mono BF1.out.size))
          have HQ1 := hd (And.intro (HI1.out.1.below br) (And.intro I' (show L1.map It.d = L1'.map It.d by rw [HI1.out.2, hL'])))
          clear I' hL' br
          go_wp2_with fail
          refine (flights_true a1 a1' G1.length c1 c1' L1 L1' r1 HQ1.out.1 HQ1.out.2.1 HQ1.out.2.2).mono ?_
          rintro e t1 ⟨rfl, bt⟩
          have BT1 := hd (BR1.out.trans (bt.mono BR1.out.size))
          clear bt
          go_wp2_with fail
          refine (count_any x2 cl2 G2 _ S2 _ (HX2.out.below BT1.out)).mono ?_
          rintro e u2 ⟨rfl, hu2⟩
          subst hu2
          go_wp2_with fail
          refine (rcount_any y2 cl2 G2 S2' _ (HY2.out.below BT1.out)).mono ?_
          rintro e v2 ⟨rfl, hv2⟩
          subst hv2
          generalize hgl2 : (G2.length : Int) = gl2
          clear hgl2
          go_wp2_with fail
          refine (flight_any x2 cl2 G2 _ S2 _ (HX2.out.below BT1.out)).mono ?_
          rintro e f2 ⟨vv, rfl, ⟨βf, L2, hF, hL⟩, bf⟩
          obtain ⟨a2, c2, hvv, I⟩ := hF.isG
          have ll : L2.length = G2.length := by rw [← hL]; simp
          rw [ll] at hvv I
          subst hvv
          have BF2 := hd (BT1.out.trans (bf.mono BT1.out.size))
          have HI2 := hd (And.intro I hL)
          clear hF hL bf I ll
          go_wp2_with fail
          refine (rflight_any y2 cl2 G2 S2' f2 (HY2.out.below BF2.out)).mono ?_
          rintro e r2 ⟨a2', c2', L2', rfl, I', hL', br⟩
          have BR2 := hd (BF2.out.trans (br.mono BF2.out.size))
          have HQ2 := hd (And.intro (HI2.out.1.below br) (And.intro I' (show L2.map It.d = L2'.map It.d by rw [HI2.out.2, hL'])))
          clear I' hL' br
          go_wp2_with fail
          refine (flights_true a2 a2' G2.length c2 c2' L2 L2' r2 HQ2.out.1 HQ2.out.2.1 HQ2.out.2.2).mono ?_
          rintro e t2 ⟨rfl, bt⟩
          have BT2 := hd (BR2.out.trans (bt.mono BR2.out.size))
          clear bt
          go_wp2
          go_ret
          exact ⟨rfl, HBR.out.trans (BT2.out.mono HBR.out.size)⟩
  · have i1 : ¬ (i : Int) < (nl : Int) := by omega
    obtain ⟨T1, T2, P1, P2, -, -, hbr⟩ := HL.out
    have HBR := hd hbr
    clear hbr
    rcases P1 with P1 | P1
    · rcases P2 with P2 | P2
      · obtain ⟨h1x, h1y⟩ := P1
        subst h1x
        subst h1y
        obtain ⟨h1x, h1y⟩ := P2
        subst h1x
        subst h1y
        have B0 := hd (Below.refl wr.heap.size wr)
        clear HL
        go_wp2
        go_ret
        exact ⟨rfl, HBR.out.trans (B0.out.mono HBR.out.size)⟩
      · obtain ⟨h1x, h1y⟩ := P1
        subst h1x
        subst h1y
        obtain ⟨x2, y2, cl2, G2, h1x, h1y, hcl2, S2, S2', hx2, hy2, -, -⟩ := P2
        subst h1x
        subst h1y
        have HX2 := hd hx2
        have HY2 := hd hy2
        clear hx2 hy2
        have B0 := hd (Below.refl wr.heap.size wr)
        clear HL
        go_wp2_with fail
        refine (count_any x2 cl2 G2 _ S2 _ (HX2.out.below B0.out)).mono ?_
        rintro e u2 ⟨rfl, hu2⟩
        subst hu2
        go_wp2_with fail
        refine (rcount_any y2 cl2 G2 S2' _ (HY2.out.below B0.out)).mono ?_
        rintro e v2 ⟨rfl, hv2⟩
        subst hv2
        generalize hgl2 : (G2.length : Int) = gl2
        clear hgl2
        go_wp2_with fail
        refine (flight_any x2 cl2 G2 _ S2 _ (HX2.out.below B0.out)).mono ?_
        rintro e f2 ⟨vv, rfl, ⟨βf, L2, hF, hL⟩, bf⟩
        obtain ⟨a2, c2, hvv, I⟩ := hF.isG
        have ll : L2.length = G2.length := by rw [← hL]; simp
        rw [ll] at hvv I
        subst hvv
        have BF2 := hd (B0.out.trans (bf.mono B0.out.size))
        have HI2 := hd (And.intro I hL)
        clear hF hL bf I ll
        go_wp2_with fail
        refine (rflight_any y2 cl2 G2 S2' f2 (HY2.out.below BF2.out)).mono ?_
        rintro e r2 ⟨a2', c2', L2', rfl, I', hL', br⟩
        have BR2 := hd (BF2.out.trans (br.mono BF2.out.size))
        have HQ2 := hd (And.intro (HI2.out.1.below br) (And.intro I' (show L2.map It.d = L2'.map It.d by rw [HI2.out.2, hL'])))
        clear I' hL' br
        go_wp2_with fail
        refine (flights_true a2 a2' G2.length c2 c2' L2 L2' r2 HQ2.out.1 HQ2.out.2.1 HQ2.out.2.2).mono ?_
        rintro e t2 ⟨rfl, bt⟩
        have BT2 := hd (BR2.out.trans (bt.mono BR2.out.size))
        clear bt
        go_wp2
        go_ret
        exact ⟨rfl, HBR.out.trans (BT2.out.mono HBR.out.size)⟩
    · rcases P2 with P2 | P2
      · obtain ⟨x1, y1, cl1, G1, h1x, h1y, hcl1, S1, S1', hx1, hy1, -, -⟩ := P1
        subst h1x
        subst h1y
        have HX1 := hd hx1
        have HY1 := hd hy1
        clear hx1 hy1
        obtain ⟨h1x, h1y⟩ := P2
        subst h1x
        subst h1y
        have B0 := hd (Below.refl wr.heap.size wr)
        clear HL
        go_wp2_with fail
        refine (count_any x1 cl1 G1 _ S1 _ (HX1.out.below B0.out)).mono ?_
        rintro e u1 ⟨rfl, hu1⟩
        subst hu1
        go_wp2_with fail
        refine (rcount_any y1 cl1 G1 S1' _ (HY1.out.below B0.out)).mono ?_
        rintro e v1 ⟨rfl, hv1⟩
        subst hv1
        generalize hgl1 : (G1.length : Int) = gl1
        clear hgl1
        go_wp2_with fail
        refine (flight_any x1 cl1 G1 _ S1 _ (HX1.out.below B0.out)).mono ?_
        rintro e f1 ⟨vv, rfl, ⟨βf, L1, hF, hL⟩, bf⟩
        obtain ⟨a1, c1, hvv, I⟩ := hF.isG
        have ll : L1.length = G1.length := by rw [← hL]; simp
        rw [ll] at hvv I
        subst hvv
        have BF1 := hd (B0.out.trans (bf.mono B0.out.size))
        have HI1 := hd (And.intro I hL)
        clear hF hL bf I ll
        go_wp2_with fail
        refine (rflight_any y1 cl1 G1 S1' f1 (HY1.out.below BF1.out)).mono ?_
        rintro e r1 ⟨a1', c1', L1', rfl, I', hL', br⟩
        have BR1 := hd (BF1.out.trans (br.mono BF1.out.size))
        have HQ1 := hd (And.intro (HI1.out.1.below br) (And.intro I' (show L1.map It.d = L1'.map It.d by rw [HI1.out.2, hL'])))
        clear I' hL' br
        go_wp2_with fail
        refine (flights_true a1 a1' G1.length c1 c1' L1 L1' r1 HQ1.out.1 HQ1.out.2.1 HQ1.out.2.2).mono ?_
        rintro e t1 ⟨rfl, bt⟩
        have BT1 := hd (BR1.out.trans (bt.mono BR1.out.size))
        clear bt
        go_wp2
        go_ret
        exact ⟨rfl, HBR.out.trans (BT1.out.mono HBR.out.size)⟩
      · obtain ⟨x1, y1, cl1, G1, h1x, h1y, hcl1, S1, S1', hx1, hy1, -, -⟩ := P1
        subst h1x
        subst h1y
        have HX1 := hd hx1
        have HY1 := hd hy1
        clear hx1 hy1
        obtain ⟨x2, y2, cl2, G2, h1x, h1y, hcl2, S2, S2', hx2, hy2, -, -⟩ := P2
        subst h1x
        subst h1y
        have HX2 := hd hx2
        have HY2 := hd hy2
        clear hx2 hy2
        have B0 := hd (Below.refl wr.heap.size wr)
        clear HL
        go_wp2_with fail
        refine (count_any x1 cl1 G1 _ S1 _ (HX1.out.below B0.out)).mono ?_
        rintro e u1 ⟨rfl, hu1⟩
        subst hu1
        go_wp2_with fail
        refine (rcount_any y1 cl1 G1 S1' _ (HY1.out.below B0.out)).mono ?_
        rintro e v1 ⟨rfl, hv1⟩
        subst hv1
        generalize hgl1 : (G1.length : Int) = gl1
        clear hgl1
        go_wp2_with fail
        refine (flight_any x1 cl1 G1 _ S1 _ (HX1.out.below B0.out)).mono ?_
        rintro e f1 ⟨vv, rfl, ⟨βf, L1, hF, hL⟩, bf⟩
        obtain ⟨a1, c1, hvv, I⟩ := hF.isG
        have ll : L1.length = G1.length := by rw [← hL]; simp
        rw [ll] at hvv I
        subst hvv
        have BF1 := hd (B0.out.trans (bf.mono B0.out.size))
        have HI1 := hd (And.intro I hL)
        clear hF hL bf I ll
        go_wp2_with fail
        refine (rflight_any y1 cl1 G1 S1' f1 (HY1.out.below BF1.out)).mono ?_
        rintro e r1 ⟨a1', c1', L1', rfl, I', hL', br⟩
        have BR1 := hd (BF1.out.trans (br.mono BF1.out.size))
        have HQ1 := hd (And.intro (HI1.out.1.below br) (And.intro I' (show L1.map It.d = L1'.map It.d by rw [HI1.out.2, hL'])))
        clear I' hL' br
        go_wp2_with fail
        refine (flights_true a1 a1' G1.length c1 c1' L1 L1' r1 HQ1.out.1 HQ1.out.2.1 HQ1.out.2.2).mono ?_
        rintro e t1 ⟨rfl, bt⟩
        have BT1 := hd (BR1.out.trans (bt.mono BR1.out.size))
        clear bt
        go_wp2_with fail
        refine (count_any x2 cl2 G2 _ S2 _ (HX2.out.below BT1.out)).mono ?_
        rintro e u2 ⟨rfl, hu2⟩
        subst hu2
        go_wp2_with fail
        refine (rcount_any y2 cl2 G2 S2' _ (HY2.out.below BT1.out)).mono ?_
        rintro e v2 ⟨rfl, hv2⟩
        subst hv2
        generalize hgl2 : (G2.length : Int) = gl2
        clear hgl2
        go_wp2_with fail
        refine (flight_any x2 cl2 G2 _ S2 _ (HX2.out.below BT1.out)).mono ?_
        rintro e f2 ⟨vv, rfl, ⟨βf, L2, hF, hL⟩, bf⟩
        obtain ⟨a2, c2, hvv, I⟩ := hF.isG
        have ll : L2.length = G2.length := by rw [← hL]; simp
        rw [ll] at hvv I
        subst hvv
        have BF2 := hd (BT1.out.trans (bf.mono BT1.out.size))
        have HI2 := hd (And.intro I hL)
        clear hF hL bf I ll
        go_wp2_with fail
        refine (rflight_any y2 cl2 G2 S2' f2 (HY2.out.below BF2.out)).mono ?_
        rintro e r2 ⟨a2', c2', L2', rfl, I', hL', br⟩
        have BR2 := hd (BF2.out.trans (br.mono BF2.out.size))
        have HQ2 := hd (And.intro (HI2.out.1.below br) (And.intro I' (show L2.map It.d = L2'.map It.d by rw [HI2.out.2, hL'])))
        clear I' hL' br
        go_wp2_with fail
        refine (flights_true a2 a2' G2.length c2 c2' L2 L2' r2 HQ2.out.1 HQ2.out.2.1 HQ2.out.2.2).mono ?_
        rintro e t2 ⟨rfl, bt⟩
        have BT2 := hd (BR2.out.trans (bt.mono BR2.out.size))
        clear bt
        go_wp2
        go_ret
        exact ⟨rfl, HBR.out.trans (BT2.out.mono HBR.out.size)⟩

end Go.Proofs.Ytnglcnilckolkaa
