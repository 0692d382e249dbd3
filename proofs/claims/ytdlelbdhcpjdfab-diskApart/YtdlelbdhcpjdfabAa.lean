/-
  DiskApart: the walk.
-/
import Derived.Test.YtdlelbdhcpjdfabApart
namespace Go.Proofs.Ytdlelbdhcpjdfab
open Go.RowKit
set_option linter.unusedVariables false

theorem runS_yes {O : Nat → OpV} {t : Int} {z : FS} {k : Nat} (h : siteP (O k).site = t) : runS O t z (k + 1) = stepS (O k) (runS O t z k) := by
  show (if _ then _ else _) = _
  rw [if_pos h]
theorem runS_no {O : Nat → OpV} {t : Int} {z : FS} {k : Nat} (h : ¬ siteP (O k).site = t) : runS O t z (k + 1) = runS O t z k := by
  show (if _ then _ else _) = _
  rw [if_neg h]

set_option maxRecDepth 100000 in
set_option maxHeartbeats 4000000 in
theorem apart_in (a : Option Addr) (n c : Nat) (xs : List Int) (a' : Option Addr) (m c' : Nat) (zs : List Int) (al : Option Addr) (nl cl : Nat) (O : Nat → OpV) (A : Nat → Option Addr) (N C : Nat → Nat) (w : World) (hx : IsB w a n c xs) (hz : IsB w a' m c' zs) (hb : n ≤ 262144) (hbm : m ≤ 262144) (hl : IsOps w al nl cl O A N C) :
    Calls Try.prog 3 #[.slice a n c, .slice a' m c', .slice al nl cl] w fun x w' => x = .returned (.bool true) ∧ Below w.heap.size w w' := by
  obtain ⟨l1, l2, l3⟩ := hl
  have L3 := hd l3
  have X := hd hx
  have Z := hd hz
  have j1 : ¬ (262144 : Int) < (n : Int) := by omega
  have j2 : ¬ (262144 : Int) < (m : Int) := by omega
  clear hx hz l3
  go_enter Try.func3, Try.ntmps3
  go_wp2_with fail
  refine (born_any a n c xs _ X.out hb).mono ?_
  rintro e w1 ⟨ra, ρa, rfl, hD, hb1⟩
  have DA := hd hD
  have B1 := hd hb1
  clear hD hb1
  go_wp2_with fail
  refine (born_any a' m c' zs _ (Z.out.below B1.out) hbm).mono ?_
  rintro e w2 ⟨rb, ρb, rfl, hD, hb2⟩
  have Dab : Hid (Dis rb ρb ra ρa) := Dis.fresh (base := 0) DA.out.1 hD.2
  have DB : Hid (DN w2 w.heap.size rb ρb zs m) := ⟨hD.1, fun k hk => Nat.le_trans B1.out.size (hD.2 k hk)⟩
  have DA2 := hd (DA.out.below hb2)
  have B2 := hd (B1.out.trans (hb2.mono B1.out.size))
  clear hD hb2 DA B1
  go_wp2_with fail
  refine (born_any a n c xs _ (X.out.below B2.out) hb).mono ?_
  rintro e w3 ⟨rx, ρx, rfl, hD, hb3⟩
  have S0 : Hid (Ap3 w w3 ra rb rx (runS O 0 ⟨xs, n⟩ 0) (runS O 1 ⟨zs, m⟩ 0) ⟨xs, n⟩) :=
    ⟨ρa, ρb, ρx, DA2.out.below hb3, DB.out.below hb3, ⟨hD.1, fun k hk => Nat.le_trans B2.out.size (hD.2 k hk)⟩, Dab.out.symm, (Dis.fresh (base := 0) DA2.out.1 hD.2).symm, (Dis.fresh (base := 0) DB.out.1 hD.2).symm, B2.out.trans (hb3.mono B2.out.size)⟩
  clear hD hb3 DA2 DB Dab B2
  go_wp2
  go_loopw [11] (fun i wr => ∃ k : Nat, k ≤ nl ∧ i = .int .i64 k ∧ Hid (Ap3 w wr ra rb rx (runS O 0 ⟨xs, n⟩ k) (runS O 1 ⟨zs, m⟩ k) ⟨xs, n⟩)) (fun i _ => nl - (intOf i).toNat)
  case atStart => exact ⟨0, Nat.zero_le _, rfl, S0⟩
  case round =>
    obtain ⟨k, hk, rfl, hr⟩ := hrel
    clear S0
    by_cases hlt : k < nl
    · have hbl : Below w.heap.size w wr := by
        obtain ⟨_, _, _, _, _, _, _, _, _, h⟩ := hr.out
        exact h
      obtain ⟨b, off, rfl, hbb, hc⟩ := L3.out (by omega)
      obtain ⟨c0, c1, c2, c3, c4, c5, hX, hXn⟩ := hc k hlt
      have d0 := (hbl.cell (p := ⟨b, off + k * 6, none⟩) hbb).trans c0
      have d1 := (hbl.cell (p := ⟨b, off + k * 6 + 1, none⟩) hbb).trans c1
      have d2 := (hbl.cell (p := ⟨b, off + k * 6 + 2, none⟩) hbb).trans c2
      have d3 := (hbl.cell (p := ⟨b, off + k * 6 + 3, none⟩) hbb).trans c3
      have d4 := (hbl.cell (p := ⟨b, off + k * 6 + 4, none⟩) hbb).trans c4
      have d5 := (hbl.cell (p := ⟨b, off + k * 6 + 5, none⟩) hbb).trans c5
      have XO := hd (hX.below hbl)
      have i1 : (k : Int) < (nl : Int) := by omega
      clear hc c0 c1 c2 c3 c4 c5 hX hbb hbl
      have Y0 := hd (fun h => runS_yes (O := O) (t := 0) (z := ⟨xs, n⟩) (k := k) h)
      have N0 := hd (fun h => runS_no (O := O) (t := 0) (z := ⟨xs, n⟩) (k := k) h)
      have Y1 := hd (fun h => runS_yes (O := O) (t := 1) (z := ⟨zs, m⟩) (k := k) h)
      have N1 := hd (fun h => runS_no (O := O) (t := 1) (z := ⟨zs, m⟩) (k := k) h)
      obtain ⟨sa1, hs1⟩ : ∃ x, x = runS O 0 ⟨xs, n⟩ (k + 1) := ⟨_, rfl⟩
      obtain ⟨sb1, hs2⟩ : ∃ x, x = runS O 1 ⟨zs, m⟩ (k + 1) := ⟨_, rfl⟩
      rw [← hs1] at Y0 N0
      rw [← hs2] at Y1 N1
      have HS1 := hd hs1
      have HS2 := hd hs2
      clear hs1 hs2
      generalize runS O 0 ⟨xs, n⟩ k = sa at *
      generalize runS O 1 ⟨zs, m⟩ k = sb at *
      generalize O k = o at *
      generalize A k = xa at *
      generalize N k = xn at *
      generalize C k = xc at *
      obtain ⟨kind, site, oa, ob, oc, ys⟩ := o
      simp only [] at d0 d1 d2 d3 d4
      go_wp2_with fail
      refine (site_any site _).mono ?_
      rintro e w4 ⟨rfl, rfl⟩
      rcases siteP_or site with h0 | h1
      · have ea := Y0.out h0
        have eb := N1.out (by omega)
        rw [h0]
        go_wp2_with fail
        refine (hr.out.act ⟨kind, site, oa, ob, oc, ys⟩ xa xn xc XO.out hXn).mono ?_
        rintro e w4 ⟨⟨v, rfl⟩, hA⟩
        have S9 : Hid (Ap3 w w4 ra rb rx sa1 sb1 ⟨xs, n⟩) := by
          rw [ea, eb]
          exact hA
        rw [HS1.out, HS2.out] at S9
        clear hA hr ea eb Y0 N0 Y1 N1
        go_wp2
        exact ⟨⟨k + 1, by omega, by go_num, S9⟩, by simp [intOf]; omega⟩
      · have ea := N0.out (by omega)
        have eb := Y1.out h1
        rw [h1]
        go_wp2_with fail
        refine (hr.out.swap.act ⟨kind, site, oa, ob, oc, ys⟩ xa xn xc XO.out hXn).mono ?_
        rintro e w4 ⟨⟨v, rfl⟩, hA⟩
        have S9 : Hid (Ap3 w w4 ra rb rx sa1 sb1 ⟨xs, n⟩) := by
          rw [ea, eb]
          exact hA.swap
        rw [HS1.out, HS2.out] at S9
        clear hA hr ea eb Y0 N0 Y1 N1
        go_wp2
        exact ⟨⟨k + 1, by omega, by go_num, S9⟩, by simp [intOf]; omega⟩
    · obtain rfl : k = nl := by omega
      have T0 : Hid (Ap3 w wr ra rb rx (runS O 0 ⟨xs, n⟩ k) (runS O 1 ⟨zs, m⟩ k) (runS O 0 ⟨xs, n⟩ 0)) := hr.out
      clear hr
      obtain ⟨fa, hfa⟩ : ∃ fa, fa = runS O 0 ⟨xs, n⟩ k := ⟨_, rfl⟩
      obtain ⟨fb, hfb⟩ : ∃ fb, fb = runS O 1 ⟨zs, m⟩ k := ⟨_, rfl⟩
      rw [← hfa, ← hfb] at T0
      have FA := hd hfa
      have FB := hd hfb
      clear hfa hfb hlt hk
      generalize hnl : k = nl at *
      go_wp2
      go_loopw [12] (fun i wr => ∃ k : Nat, k ≤ nl ∧ i = .int .i64 k ∧ Hid (Ap3 w wr ra rb rx fa fb (runS O 0 ⟨xs, n⟩ k))) (fun i _ => nl - (intOf i).toNat)
      case atStart => exact ⟨0, Nat.zero_le _, rfl, T0⟩
      case round =>
        obtain ⟨k, hk, rfl, hr⟩ := hrel
        clear T0
        by_cases hlt : k < nl
        · have hbl : Below w.heap.size w wr := by
            obtain ⟨_, _, _, _, _, _, _, _, _, h⟩ := hr.out
            exact h
          obtain ⟨b, off, rfl, hbb, hc⟩ := L3.out (by omega)
          obtain ⟨c0, c1, c2, c3, c4, c5, hX, hXn⟩ := hc k hlt
          have d0 := (hbl.cell (p := ⟨b, off + k * 6, none⟩) hbb).trans c0
          have d1 := (hbl.cell (p := ⟨b, off + k * 6 + 1, none⟩) hbb).trans c1
          have d2 := (hbl.cell (p := ⟨b, off + k * 6 + 2, none⟩) hbb).trans c2
          have d3 := (hbl.cell (p := ⟨b, off + k * 6 + 3, none⟩) hbb).trans c3
          have d4 := (hbl.cell (p := ⟨b, off + k * 6 + 4, none⟩) hbb).trans c4
          have d5 := (hbl.cell (p := ⟨b, off + k * 6 + 5, none⟩) hbb).trans c5
          have XO := hd (hX.below hbl)
          have i1 : (k : Int) < (nl : Int) := by omega
          clear hc c0 c1 c2 c3 c4 c5 hX hbb hbl
          have Y0 := hd (fun h => runS_yes (O := O) (t := 0) (z := ⟨xs, n⟩) (k := k) h)
          have N0 := hd (fun h => runS_no (O := O) (t := 0) (z := ⟨xs, n⟩) (k := k) h)
          obtain ⟨sa1, hs1⟩ : ∃ x, x = runS O 0 ⟨xs, n⟩ (k + 1) := ⟨_, rfl⟩
          rw [← hs1] at Y0 N0
          have HS1 := hd hs1
          clear hs1
          generalize runS O 0 ⟨xs, n⟩ k = sa at *
          generalize O k = o at *
          generalize A k = xa at *
          generalize N k = xn at *
          generalize C k = xc at *
          obtain ⟨kind, site, oa, ob, oc, ys⟩ := o
          simp only [] at d0 d1 d2 d3 d4
          go_wp2_with fail
          refine (site_any site _).mono ?_
          rintro e w4 ⟨rfl, rfl⟩
          rcases siteP_or site with h0 | h1
          · have ea := Y0.out h0
            rw [h0]
            go_wp2_with fail
            refine (hr.out.swap2.act ⟨kind, site, oa, ob, oc, ys⟩ xa xn xc XO.out hXn).mono ?_
            rintro e w4 ⟨⟨v, rfl⟩, hA⟩
            have S9 : Hid (Ap3 w w4 ra rb rx fa fb sa1) := by
              rw [ea]
              exact hA.swap2
            rw [HS1.out] at S9
            clear hA hr ea Y0 N0
            go_wp2
            exact ⟨⟨k + 1, by omega, by go_num, S9⟩, by simp [intOf]; omega⟩
          · have ea := N0.out (by omega)
            have S9 : Hid (Ap3 w wr ra rb rx fa fb sa1) := by
              rw [ea]
              exact hr.out
            rw [HS1.out] at S9
            rw [h1]
            clear hr ea Y0 N0
            go_wp2
            exact ⟨⟨k + 1, by omega, by go_num, S9⟩, by simp [intOf]; omega⟩
        · obtain rfl : k = nl := by omega
          rw [← FA.out] at hr
          have HR := hd hr.out
          clear hr FA
          generalize hnl : k = nl at *
          have hbl0 : Hid (Below w.heap.size w wr) := by
            obtain ⟨_, _, _, _, _, _, _, _, _, h⟩ := HR.out
            exact h
          go_wp2_with fail
          refine (born_any a' m c' zs _ (Z.out.below hbl0.out) hbm).mono ?_
          rintro e w5 ⟨ry, ρy, rfl, hD, hb5⟩
          have U0 : Hid (Ap4 w w5 ra rb rx ry fa fb fa (runS O 1 ⟨zs, m⟩ 0)) := by
            obtain ⟨ρa, ρb, ρx, h1, h2, h3, h4, h5, h6, h7⟩ := HR.out
            exact ⟨ρa, ρb, ρx, ρy, h1.below hb5, h2.below hb5, h3.below hb5, ⟨hD.1, fun k hk => Nat.le_trans h7.size (hD.2 k hk)⟩, Dis.fresh (base := 0) h1.1 hD.2, Dis.fresh (base := 0) h2.1 hD.2, Dis.fresh (base := 0) h3.1 hD.2, h7.trans (hb5.mono h7.size)⟩
          clear hD hb5 HR hbl0
          go_wp2
          go_loopw [14] (fun i wr => ∃ k : Nat, k ≤ nl ∧ i = .int .i64 k ∧ Hid (Ap4 w wr ra rb rx ry fa fb fa (runS O 1 ⟨zs, m⟩ k))) (fun i _ => nl - (intOf i).toNat)
          case atStart => exact ⟨0, Nat.zero_le _, rfl, U0⟩
          case round =>
            obtain ⟨k, hk, rfl, hr⟩ := hrel
            clear U0
            by_cases hlt : k < nl
            · have hbl : Below w.heap.size w wr := by
                obtain ⟨_, _, _, _, _, _, _, _, _, _, _, h⟩ := hr.out
                exact h
              obtain ⟨b, off, rfl, hbb, hc⟩ := L3.out (by omega)
              obtain ⟨c0, c1, c2, c3, c4, c5, hX, hXn⟩ := hc k hlt
              have d0 := (hbl.cell (p := ⟨b, off + k * 6, none⟩) hbb).trans c0
              have d1 := (hbl.cell (p := ⟨b, off + k * 6 + 1, none⟩) hbb).trans c1
              have d2 := (hbl.cell (p := ⟨b, off + k * 6 + 2, none⟩) hbb).trans c2
              have d3 := (hbl.cell (p := ⟨b, off + k * 6 + 3, none⟩) hbb).trans c3
              have d4 := (hbl.cell (p := ⟨b, off + k * 6 + 4, none⟩) hbb).trans c4
              have d5 := (hbl.cell (p := ⟨b, off + k * 6 + 5, none⟩) hbb).trans c5
              have XO := hd (hX.below hbl)
              have i1 : (k : Int) < (nl : Int) := by omega
              clear hc c0 c1 c2 c3 c4 c5 hX hbb hbl
              have Y0 := hd (fun h => runS_yes (O := O) (t := 1) (z := ⟨zs, m⟩) (k := k) h)
              have N0 := hd (fun h => runS_no (O := O) (t := 1) (z := ⟨zs, m⟩) (k := k) h)
              obtain ⟨sa1, hs1⟩ : ∃ x, x = runS O 1 ⟨zs, m⟩ (k + 1) := ⟨_, rfl⟩
              rw [← hs1] at Y0 N0
              have HS1 := hd hs1
              clear hs1
              generalize runS O 1 ⟨zs, m⟩ k = sa at *
              generalize O k = o at *
              generalize A k = xa at *
              generalize N k = xn at *
              generalize C k = xc at *
              obtain ⟨kind, site, oa, ob, oc, ys⟩ := o
              simp only [] at d0 d1 d2 d3 d4
              go_wp2_with fail
              refine (site_any site _).mono ?_
              rintro e w4 ⟨rfl, rfl⟩
              rcases siteP_or site with h0 | h1
              · have ea := N0.out (by omega)
                have S9 : Hid (Ap4 w wr ra rb rx ry fa fb fa sa1) := by
                  rw [ea]
                  exact hr.out
                rw [HS1.out] at S9
                rw [h0]
                clear hr ea Y0 N0
                go_wp2
                exact ⟨⟨k + 1, by omega, by go_num, S9⟩, by simp [intOf]; omega⟩
              · have ea := Y0.out h1
                rw [h1]
                go_wp2_with fail
                refine (hr.out.act ⟨kind, site, oa, ob, oc, ys⟩ xa xn xc XO.out hXn).mono ?_
                rintro e w4 ⟨⟨v, rfl⟩, hA⟩
                have S9 : Hid (Ap4 w w4 ra rb rx ry fa fb fa sa1) := by
                  rw [ea]
                  exact hA
                rw [HS1.out] at S9
                clear hA hr ea Y0 N0
                go_wp2
                exact ⟨⟨k + 1, by omega, by go_num, S9⟩, by simp [intOf]; omega⟩
            · obtain rfl : k = nl := by omega
              rw [← FB.out] at hr
              obtain ⟨ρa, ρb, ρx, ρy, h1, h2, h3, h4, -, -, -, h8⟩ := hr.out
              have QA := hd h1
              have QB := hd h2
              have QX := hd h3
              have QY := hd h4
              have BB := hd h8
              have za := h1.1.size_le
              have zb := h2.1.size_le
              clear h1 h2 h3 h4 h8 hr FB
              obtain ⟨fab, fas⟩ := fa
              obtain ⟨fbb, fbs⟩ := fb
              simp only [] at QA QB QX QY za zb
              go_wp2_with fail
              refine (bytes_any ra ρa fab fas _ QA.out.1).mono ?_
              rintro e v1 ⟨u1, rfl, hN, hb⟩
              obtain ⟨g1, rfl, -, hG⟩ := hN.isB (by omega)
              have G1 := hd hG
              have QA1 := hd (QA.out.below hb)
              have QB1 := hd (QB.out.below hb)
              have QX1 := hd (QX.out.below hb)
              have QY1 := hd (QY.out.below hb)
              have BB1 := hd (BB.out.trans (hb.mono BB.out.size))
              clear hN hG hb QA QB QX QY BB
              go_wp2_with fail
              refine (bytes_any rx ρx fab fas _ QX1.out.1).mono ?_
              rintro e v2 ⟨u2, rfl, hN, hb⟩
              obtain ⟨g2, rfl, -, hG⟩ := hN.isB (by omega)
              have G2 := hd hG
              have G12 := hd (G1.out.below hb)
              have QA2 := hd (QA1.out.below hb)
              have QB2 := hd (QB1.out.below hb)
              have QX2 := hd (QX1.out.below hb)
              have QY2 := hd (QY1.out.below hb)
              have BB2 := hd (BB1.out.trans (hb.mono BB1.out.size))
              clear hN hG hb QA1 QB1 QX1 QY1 BB1 G1
              go_wp2_with fail
              refine (same_true _ _ _ _ _ fab _ G12.out G2.out).mono ?_
              rintro e v3 ⟨rfl, m3, rfl⟩
              have QA3 := hd (QA2.out.drewN m3)
              have QB3 := hd (QB2.out.drewN m3)
              have QX3 := hd (QX2.out.drewN m3)
              have QY3 := hd (QY2.out.drewN m3)
              have BB3 := hd (below_drewN BB2.out m3)
              clear QA2 QB2 QX2 QY2 BB2 G2 G12
              generalize v2.drewN m3 = v3 at *
              go_wp2_with fail
              refine (synced_any ra ρa fab fas _ QA3.out.1).mono ?_
              rintro e v4 ⟨rfl, rfl⟩
              go_wp2_with fail
              refine (synced_any rx ρx fab fas _ QX3.out.1).mono ?_
              rintro e v4 ⟨rfl, rfl⟩
              go_wp2_with fail
              refine (bytes_any rb ρb fbb fbs _ QB3.out.1).mono ?_
              rintro e v4 ⟨u4, rfl, hN, hb⟩
              obtain ⟨g4, rfl, -, hG⟩ := hN.isB (by omega)
              have G4 := hd hG
              have QB4 := hd (QB3.out.below hb)
              have QY4 := hd (QY3.out.below hb)
              have BB4 := hd (BB3.out.trans (hb.mono BB3.out.size))
              clear hN hG hb QA3 QB3 QX3 QY3 BB3
              go_wp2_with fail
              refine (bytes_any ry ρy fbb fbs _ QY4.out.1).mono ?_
              rintro e v5 ⟨u5, rfl, hN, hb⟩
              obtain ⟨g5, rfl, -, hG⟩ := hN.isB (by omega)
              have G5 := hd hG
              have G45 := hd (G4.out.below hb)
              have QB5 := hd (QB4.out.below hb)
              have QY5 := hd (QY4.out.below hb)
              have BB5 := hd (BB4.out.trans (hb.mono BB4.out.size))
              clear hN hG hb QB4 QY4 BB4 G4
              go_wp2_with fail
              refine (same_true _ _ _ _ _ fbb _ G45.out G5.out).mono ?_
              rintro e v6 ⟨rfl, m6, rfl⟩
              have QB6 := hd (QB5.out.drewN m6)
              have QY6 := hd (QY5.out.drewN m6)
              have BB6 := hd (below_drewN BB5.out m6)
              clear QB5 QY5 BB5 G5 G45
              generalize v5.drewN m6 = v6 at *
              go_wp2_with fail
              refine (synced_any rb ρb fbb fbs _ QB6.out.1).mono ?_
              rintro e v7 ⟨rfl, rfl⟩
              go_wp2_with fail
              refine (synced_any ry ρy fbb fbs _ QY6.out.1).mono ?_
              rintro e v7 ⟨rfl, rfl⟩
              go_wp2
              go_ret
              exact ⟨rfl, BB6.out⟩

end Go.Proofs.Ytdlelbdhcpjdfab
