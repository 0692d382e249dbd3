/-
  ClientMakes.
-/
import Derived.Test.YtjgpibajndlhaaaCk
namespace Go.Proofs.Ytjgpibajndlhaaa
open Go.RowKit
set_option linter.unusedVariables false

theorem cells3s {w : World} {g : Nat} {a b c : Value} {t : TypeId} (h : w.heap[g]? = some (.cells #[a, b, c] t (0, 0))) :
    w.cell? ⟨g, 0, none⟩ = some a ∧ w.cell? ⟨g, 1, none⟩ = some b ∧ w.cell? ⟨g, 2, none⟩ = some c := by
  simp [World.cell?, h]

theorem IV.start {w w1 : World} {x z : Nat} {id : Int} (hC : CL (TG w.heap.size) w1 x z id [] [] none ⟨false, [], 0⟩) (hB : Below w.heap.size w w1) : IV w w1 x z id (.slice none 0 0) (.slice none 0 0) 0 0 :=
  ⟨_, [], [], none, _, none, none, hC.cut, fun k hk => hk, ⟨rfl, rfl⟩, ⟨rfl, rfl⟩, fun g hg => (by cases hg), fun g hg => (by cases hg), rfl, rfl, rfl, by omega, by omega, hB⟩

set_option maxRecDepth 100000 in
set_option maxHeartbeats 16000000 in
theorem clientMakes_any (x0 : Int) (a : Option Addr) (N c : Nat) (M : Nat → Bool × Int × Int) (w : World) (hM : IsMd w a N c M) :
    Calls Try.prog 3 #[.int .i64 x0, .slice a N c] w fun e w' => e = .returned (.bool true) ∧ Below w.heap.size w w' := by
  have hN1 := hM.1
  have hN2 := hM.2.1
  have HM := hd hM
  clear hM
  go_enter Try.func3, Try.ntmps3
  go_wp2_with fail
  refine (rest64 x0 _).mono ?_
  rintro e w' ⟨r, rfl, hr, rfl⟩
  have hid1 : 1 ≤ (r : Int) + 1 := by omega
  have hid2 : (r : Int) + 1 ≤ 64 := by omega
  go_wp2_with fail
  refine (cnew_any ((r : Int) + 1) w hid1 hid2).mono ?_
  rintro e w1 ⟨x, z, rfl, hC, hB⟩
  have S0 := hd (IV.start hC hB)
  clear hC hB
  generalize (r : Int) + 1 = id at *
  clear hr
  go_wp2_with (go_at_call 6; refine (num_any _ _).mono ?_; rintro e w' ⟨rfl, rfl⟩)
  go_loopw [7, 8, 9] (fun vd va i wr => ∃ k nd ne : Nat, k ≤ N ∧ i = .int .i64 k ∧ Hid (IV w wr x z id vd va nd ne)) (fun _ _ i _ => N - (intOf i).toNat)
  case atStart => exact ⟨0, 0, 0, Nat.zero_le _, rfl, S0⟩
  case round =>
    obtain ⟨k, nd, ne, hk, rfl, hI⟩ := hrel
    clear S0
    by_cases hlt : k < N
    · obtain ⟨b, off, rfl, hbl, hcs⟩ := HM.out.2.2 (by omega)
      obtain ⟨m0, m1, m2⟩ := hcs k hlt
      obtain ⟨T, ds, es, βp, p, βd, βa, hc⟩ := hI.out
      have n0 := (hc.bel.cell (p := ⟨b, off + k * 3, none⟩) hbl).trans m0
      have n1 := (hc.bel.cell (p := ⟨b, off + k * 3 + 1, none⟩) hbl).trans m1
      have n2 := (hc.bel.cell (p := ⟨b, off + k * 3 + 2, none⟩) hbl).trans m2
      have hbr := Nat.lt_of_lt_of_le hbl hc.bel.size
      obtain ⟨⟨ad, cd, rfl, hd1, hd2⟩, ⟨aa, ca, rfl, ha1, ha2⟩, hne, hnd⟩ := hI.out.form
      have HC := hd hc
      generalize M k = mk at *
      obtain ⟨del, pos, ch⟩ := mk
      simp only [] at n0 n1 n2
      clear hcs m0 m1 m2 hc hbl hI
      have i1 : (k : Int) < (N : Int) := by omega
      cases del with
      | false =>
        by_cases c1 : ch < 32
        ·
            go_wp2_with fail
            refine (ins_ch1 x z id ds es βp p pos ch _ (HC.out.cl.below (three_below wr _ _ _)) c1).mono ?_
            rintro e w2 ⟨rfl, hb⟩
            obtain ⟨hO, hZ⟩ := three hb
            have hB : Below wr.heap.size wr w2 := (three_below wr _ _ _).trans (hb.mono (three_below wr _ _ _).size)
            obtain ⟨⟨r0, r1, r2, r3, r4, r5⟩, ⟨t0, t1, t2, t3, t4, t5⟩⟩ := cells6 hZ
            have lt := block_lt hZ
            obtain ⟨hZ3, hF3⟩ := set6 hZ (.int .i64 0) (.int .i64 0) (.int .i64 0) (.int .u8 0) (.int .i64 0) (.int .i64 0)
            obtain ⟨W3, hW3⟩ : ∃ W, W = ((((((w2.setCell ⟨wr.heap.size + 1 + 1, 0, none⟩ (.int .i64 0)).setCell ⟨wr.heap.size + 1 + 1, 1, none⟩ (.int .i64 0)).setCell ⟨wr.heap.size + 1 + 1, 2, none⟩ (.int .i64 0)).setCell ⟨wr.heap.size + 1 + 1, 3, none⟩ (.int .u8 0)).setCell ⟨wr.heap.size + 1 + 1, 4, none⟩ (.int .i64 0)).setCell ⟨wr.heap.size + 1 + 1, 5, none⟩ (.int .i64 0)) := ⟨_, rfl⟩
            rw [← hW3] at hZ3 hF3
            have I3 : Hid (IV w W3 x z id (.slice ad nd cd) (.slice aa ne ca) nd ne) := ⟨_, _, _, _, _, _, _, HC.out.below (hB.trans (hF3.below hB.size (fun j h => by omega)))⟩
            have HW3 := hd hW3
            clear hb hO hZ hB hF3 hW3
            go_wp2_with fail
            rw [← HW3.out]
            refine (num_any _ _).mono ?_
            rintro e W3 ⟨rfl, rfl⟩
            clear r0 r1 r2 r3 r4 r5 t0 t1 t2 t3 t4 t5 lt HW3
            obtain ⟨⟨r0, r1, r2, r3, r4, r5⟩, -⟩ := cells6 hZ3
            have lt := block_lt hZ3
            clear hZ3
            go_wp2_with fail
            obtain ⟨T', ds', es', βp', p', βd', βa', hc'⟩ := I3.out
            have HC' := hd hc'
            have nl1 : ds'.length ≤ 4096 := by have := hc'.ld; have := hc'.dle; have := hc'.few; omega
            have nl2 : es'.length ≤ 4096 := by have := hc'.le; have := hc'.few; omega
            clear hc'
            refine (cdoc_any x z id ds' es' βp' p' _ HC'.out.cl nl1).mono ?_
            rintro e w7 ⟨u7, β7, rfl, h7, b7⟩
            have H7 := hd h7
            have HC7 := hd (HC'.out.below b7)
            clear h7 b7 I3
            go_wp2_with fail
            refine (sameDoc_true u7 _ β7 βd' ds' w7 H7.out HC7.out.d).mono ?_
            rintro e w8 ⟨rfl, m8, rfl⟩
            have HC8 := hd (HC7.out.below (below_drewN (Below.refl _ _) m8))
            clear HC7 H7
            go_wp2_with fail
            refine (cpending_any x z id ds' es' βp' p' _ HC8.out.cl nl2).mono ?_
            rintro e w9 ⟨u9, β9, rfl, h9, b9⟩
            have H9 := hd h9
            have HC9 := hd (HC8.out.below b9)
            clear h9 b9 HC8
            go_wp2_with fail
            refine (sameEdits_true u9 _ β9 βa' es' w9 H9.out HC9.out.a).mono ?_
            rintro e w10 ⟨rfl, m10, rfl⟩
            have HC10 := hd (HC9.out.below (below_drewN (Below.refl _ _) m10))
            clear HC9 H9 nl1 nl2
            go_wp2
            exact ⟨⟨k + 1, _, _, by omega, by go_num, T', ds', es', βp', p', βd', βa', HC10.out⟩, by simp [intOf]; omega⟩
        · skip
          by_cases c2 : 126 < ch
          ·
              go_wp2_with fail
              refine (ins_ch2 x z id ds es βp p pos ch _ (HC.out.cl.below (three_below wr _ _ _)) c2).mono ?_
              rintro e w2 ⟨rfl, hb⟩
              obtain ⟨hO, hZ⟩ := three hb
              have hB : Below wr.heap.size wr w2 := (three_below wr _ _ _).trans (hb.mono (three_below wr _ _ _).size)
              obtain ⟨⟨r0, r1, r2, r3, r4, r5⟩, ⟨t0, t1, t2, t3, t4, t5⟩⟩ := cells6 hZ
              have lt := block_lt hZ
              obtain ⟨hZ3, hF3⟩ := set6 hZ (.int .i64 0) (.int .i64 0) (.int .i64 0) (.int .u8 0) (.int .i64 0) (.int .i64 0)
              obtain ⟨W3, hW3⟩ : ∃ W, W = ((((((w2.setCell ⟨wr.heap.size + 1 + 1, 0, none⟩ (.int .i64 0)).setCell ⟨wr.heap.size + 1 + 1, 1, none⟩ (.int .i64 0)).setCell ⟨wr.heap.size + 1 + 1, 2, none⟩ (.int .i64 0)).setCell ⟨wr.heap.size + 1 + 1, 3, none⟩ (.int .u8 0)).setCell ⟨wr.heap.size + 1 + 1, 4, none⟩ (.int .i64 0)).setCell ⟨wr.heap.size + 1 + 1, 5, none⟩ (.int .i64 0)) := ⟨_, rfl⟩
              rw [← hW3] at hZ3 hF3
              have I3 : Hid (IV w W3 x z id (.slice ad nd cd) (.slice aa ne ca) nd ne) := ⟨_, _, _, _, _, _, _, HC.out.below (hB.trans (hF3.below hB.size (fun j h => by omega)))⟩
              have HW3 := hd hW3
              clear hb hO hZ hB hF3 hW3
              go_wp2_with fail
              rw [← HW3.out]
              refine (num_any _ _).mono ?_
              rintro e W3 ⟨rfl, rfl⟩
              clear r0 r1 r2 r3 r4 r5 t0 t1 t2 t3 t4 t5 lt HW3
              obtain ⟨⟨r0, r1, r2, r3, r4, r5⟩, -⟩ := cells6 hZ3
              have lt := block_lt hZ3
              clear hZ3
              go_wp2_with fail
              obtain ⟨T', ds', es', βp', p', βd', βa', hc'⟩ := I3.out
              have HC' := hd hc'
              have nl1 : ds'.length ≤ 4096 := by have := hc'.ld; have := hc'.dle; have := hc'.few; omega
              have nl2 : es'.length ≤ 4096 := by have := hc'.le; have := hc'.few; omega
              clear hc'
              refine (cdoc_any x z id ds' es' βp' p' _ HC'.out.cl nl1).mono ?_
              rintro e w7 ⟨u7, β7, rfl, h7, b7⟩
              have H7 := hd h7
              have HC7 := hd (HC'.out.below b7)
              clear h7 b7 I3
              go_wp2_with fail
              refine (sameDoc_true u7 _ β7 βd' ds' w7 H7.out HC7.out.d).mono ?_
              rintro e w8 ⟨rfl, m8, rfl⟩
              have HC8 := hd (HC7.out.below (below_drewN (Below.refl _ _) m8))
              clear HC7 H7
              go_wp2_with fail
              refine (cpending_any x z id ds' es' βp' p' _ HC8.out.cl nl2).mono ?_
              rintro e w9 ⟨u9, β9, rfl, h9, b9⟩
              have H9 := hd h9
              have HC9 := hd (HC8.out.below b9)
              clear h9 b9 HC8
              go_wp2_with fail
              refine (sameEdits_true u9 _ β9 βa' es' w9 H9.out HC9.out.a).mono ?_
              rintro e w10 ⟨rfl, m10, rfl⟩
              have HC10 := hd (HC9.out.below (below_drewN (Below.refl _ _) m10))
              clear HC9 H9 nl1 nl2
              go_wp2
              exact ⟨⟨k + 1, _, _, by omega, by go_num, T', ds', es', βp', p', βd', βa', HC10.out⟩, by simp [intOf]; omega⟩
          · skip
            by_cases p1 : pos < 0
            ·
                go_wp2_with fail
                refine (ins_p1 x z id ds es βp p pos ch _ (HC.out.cl.below (three_below wr _ _ _)) (by omega) (by omega) p1).mono ?_
                rintro e w2 ⟨rfl, hb⟩
                obtain ⟨hO, hZ⟩ := three hb
                have hB : Below wr.heap.size wr w2 := (three_below wr _ _ _).trans (hb.mono (three_below wr _ _ _).size)
                obtain ⟨⟨r0, r1, r2, r3, r4, r5⟩, ⟨t0, t1, t2, t3, t4, t5⟩⟩ := cells6 hZ
                have lt := block_lt hZ
                obtain ⟨hZ3, hF3⟩ := set6 hZ (.int .i64 0) (.int .i64 0) (.int .i64 0) (.int .u8 0) (.int .i64 0) (.int .i64 0)
                obtain ⟨W3, hW3⟩ : ∃ W, W = ((((((w2.setCell ⟨wr.heap.size + 1 + 1, 0, none⟩ (.int .i64 0)).setCell ⟨wr.heap.size + 1 + 1, 1, none⟩ (.int .i64 0)).setCell ⟨wr.heap.size + 1 + 1, 2, none⟩ (.int .i64 0)).setCell ⟨wr.heap.size + 1 + 1, 3, none⟩ (.int .u8 0)).setCell ⟨wr.heap.size + 1 + 1, 4, none⟩ (.int .i64 0)).setCell ⟨wr.heap.size + 1 + 1, 5, none⟩ (.int .i64 0)) := ⟨_, rfl⟩
                rw [← hW3] at hZ3 hF3
                have I3 : Hid (IV w W3 x z id (.slice ad nd cd) (.slice aa ne ca) nd ne) := ⟨_, _, _, _, _, _, _, HC.out.below (hB.trans (hF3.below hB.size (fun j h => by omega)))⟩
                have HW3 := hd hW3
                clear hb hO hZ hB hF3 hW3
                go_wp2_with fail
                rw [← HW3.out]
                refine (num_any _ _).mono ?_
                rintro e W3 ⟨rfl, rfl⟩
                clear r0 r1 r2 r3 r4 r5 t0 t1 t2 t3 t4 t5 lt HW3
                obtain ⟨⟨r0, r1, r2, r3, r4, r5⟩, -⟩ := cells6 hZ3
                have lt := block_lt hZ3
                clear hZ3
                go_wp2_with fail
                obtain ⟨T', ds', es', βp', p', βd', βa', hc'⟩ := I3.out
                have HC' := hd hc'
                have nl1 : ds'.length ≤ 4096 := by have := hc'.ld; have := hc'.dle; have := hc'.few; omega
                have nl2 : es'.length ≤ 4096 := by have := hc'.le; have := hc'.few; omega
                clear hc'
                refine (cdoc_any x z id ds' es' βp' p' _ HC'.out.cl nl1).mono ?_
                rintro e w7 ⟨u7, β7, rfl, h7, b7⟩
                have H7 := hd h7
                have HC7 := hd (HC'.out.below b7)
                clear h7 b7 I3
                go_wp2_with fail
                refine (sameDoc_true u7 _ β7 βd' ds' w7 H7.out HC7.out.d).mono ?_
                rintro e w8 ⟨rfl, m8, rfl⟩
                have HC8 := hd (HC7.out.below (below_drewN (Below.refl _ _) m8))
                clear HC7 H7
                go_wp2_with fail
                refine (cpending_any x z id ds' es' βp' p' _ HC8.out.cl nl2).mono ?_
                rintro e w9 ⟨u9, β9, rfl, h9, b9⟩
                have H9 := hd h9
                have HC9 := hd (HC8.out.below b9)
                clear h9 b9 HC8
                go_wp2_with fail
                refine (sameEdits_true u9 _ β9 βa' es' w9 H9.out HC9.out.a).mono ?_
                rintro e w10 ⟨rfl, m10, rfl⟩
                have HC10 := hd (HC9.out.below (below_drewN (Below.refl _ _) m10))
                clear HC9 H9 nl1 nl2
                go_wp2
                exact ⟨⟨k + 1, _, _, by omega, by go_num, T', ds', es', βp', p', βd', βa', HC10.out⟩, by simp [intOf]; omega⟩
            · skip
              by_cases p2 : (nd : Int) < pos
              ·
                  go_wp2_with fail
                  refine (ins_p2 x z id ds es βp p pos ch _ (HC.out.cl.below (three_below wr _ _ _)) (by omega) (by omega) (by have := HC.out.ld; omega)).mono ?_
                  rintro e w2 ⟨rfl, hb⟩
                  obtain ⟨hO, hZ⟩ := three hb
                  have hB : Below wr.heap.size wr w2 := (three_below wr _ _ _).trans (hb.mono (three_below wr _ _ _).size)
                  obtain ⟨⟨r0, r1, r2, r3, r4, r5⟩, ⟨t0, t1, t2, t3, t4, t5⟩⟩ := cells6 hZ
                  have lt := block_lt hZ
                  obtain ⟨hZ3, hF3⟩ := set6 hZ (.int .i64 0) (.int .i64 0) (.int .i64 0) (.int .u8 0) (.int .i64 0) (.int .i64 0)
                  obtain ⟨W3, hW3⟩ : ∃ W, W = ((((((w2.setCell ⟨wr.heap.size + 1 + 1, 0, none⟩ (.int .i64 0)).setCell ⟨wr.heap.size + 1 + 1, 1, none⟩ (.int .i64 0)).setCell ⟨wr.heap.size + 1 + 1, 2, none⟩ (.int .i64 0)).setCell ⟨wr.heap.size + 1 + 1, 3, none⟩ (.int .u8 0)).setCell ⟨wr.heap.size + 1 + 1, 4, none⟩ (.int .i64 0)).setCell ⟨wr.heap.size + 1 + 1, 5, none⟩ (.int .i64 0)) := ⟨_, rfl⟩
                  rw [← hW3] at hZ3 hF3
                  have I3 : Hid (IV w W3 x z id (.slice ad nd cd) (.slice aa ne ca) nd ne) := ⟨_, _, _, _, _, _, _, HC.out.below (hB.trans (hF3.below hB.size (fun j h => by omega)))⟩
                  have HW3 := hd hW3
                  clear hb hO hZ hB hF3 hW3
                  go_wp2_with fail
                  rw [← HW3.out]
                  refine (num_any _ _).mono ?_
                  rintro e W3 ⟨rfl, rfl⟩
                  clear r0 r1 r2 r3 r4 r5 t0 t1 t2 t3 t4 t5 lt HW3
                  obtain ⟨⟨r0, r1, r2, r3, r4, r5⟩, -⟩ := cells6 hZ3
                  have lt := block_lt hZ3
                  clear hZ3
                  go_wp2_with fail
                  obtain ⟨T', ds', es', βp', p', βd', βa', hc'⟩ := I3.out
                  have HC' := hd hc'
                  have nl1 : ds'.length ≤ 4096 := by have := hc'.ld; have := hc'.dle; have := hc'.few; omega
                  have nl2 : es'.length ≤ 4096 := by have := hc'.le; have := hc'.few; omega
                  clear hc'
                  refine (cdoc_any x z id ds' es' βp' p' _ HC'.out.cl nl1).mono ?_
                  rintro e w7 ⟨u7, β7, rfl, h7, b7⟩
                  have H7 := hd h7
                  have HC7 := hd (HC'.out.below b7)
                  clear h7 b7 I3
                  go_wp2_with fail
                  refine (sameDoc_true u7 _ β7 βd' ds' w7 H7.out HC7.out.d).mono ?_
                  rintro e w8 ⟨rfl, m8, rfl⟩
                  have HC8 := hd (HC7.out.below (below_drewN (Below.refl _ _) m8))
                  clear HC7 H7
                  go_wp2_with fail
                  refine (cpending_any x z id ds' es' βp' p' _ HC8.out.cl nl2).mono ?_
                  rintro e w9 ⟨u9, β9, rfl, h9, b9⟩
                  have H9 := hd h9
                  have HC9 := hd (HC8.out.below b9)
                  clear h9 b9 HC8
                  go_wp2_with fail
                  refine (sameEdits_true u9 _ β9 βa' es' w9 H9.out HC9.out.a).mono ?_
                  rintro e w10 ⟨rfl, m10, rfl⟩
                  have HC10 := hd (HC9.out.below (below_drewN (Below.refl _ _) m10))
                  clear HC9 H9 nl1 nl2
                  go_wp2
                  exact ⟨⟨k + 1, _, _, by omega, by go_num, T', ds', es', βp', p', βd', βa', HC10.out⟩, by simp [intOf]; omega⟩
              · skip
                by_cases hf' : 64 ≤ ne
                ·
                    go_wp2_with fail
                    refine (ins_full x z id ds es βp p pos ch _ (HC.out.cl.below (three_below wr _ _ _)) (by omega) (by omega) (by omega) (by have := HC.out.ld; omega) (by have := HC.out.last; omega)).mono ?_
                    rintro e w2 ⟨rfl, hb⟩
                    obtain ⟨hO, hZ⟩ := three hb
                    have hB : Below wr.heap.size wr w2 := (three_below wr _ _ _).trans (hb.mono (three_below wr _ _ _).size)
                    obtain ⟨⟨r0, r1, r2, r3, r4, r5⟩, ⟨t0, t1, t2, t3, t4, t5⟩⟩ := cells6 hZ
                    have lt := block_lt hZ
                    obtain ⟨hZ3, hF3⟩ := set6 hZ (.int .i64 0) (.int .i64 0) (.int .i64 0) (.int .u8 0) (.int .i64 0) (.int .i64 0)
                    obtain ⟨W3, hW3⟩ : ∃ W, W = ((((((w2.setCell ⟨wr.heap.size + 1 + 1, 0, none⟩ (.int .i64 0)).setCell ⟨wr.heap.size + 1 + 1, 1, none⟩ (.int .i64 0)).setCell ⟨wr.heap.size + 1 + 1, 2, none⟩ (.int .i64 0)).setCell ⟨wr.heap.size + 1 + 1, 3, none⟩ (.int .u8 0)).setCell ⟨wr.heap.size + 1 + 1, 4, none⟩ (.int .i64 0)).setCell ⟨wr.heap.size + 1 + 1, 5, none⟩ (.int .i64 0)) := ⟨_, rfl⟩
                    rw [← hW3] at hZ3 hF3
                    have I3 : Hid (IV w W3 x z id (.slice ad nd cd) (.slice aa ne ca) nd ne) := ⟨_, _, _, _, _, _, _, HC.out.below (hB.trans (hF3.below hB.size (fun j h => by omega)))⟩
                    have HW3 := hd hW3
                    clear hb hO hZ hB hF3 hW3
                    go_wp2_with fail
                    rw [← HW3.out]
                    refine (num_any _ _).mono ?_
                    rintro e W3 ⟨rfl, rfl⟩
                    clear r0 r1 r2 r3 r4 r5 t0 t1 t2 t3 t4 t5 lt HW3
                    obtain ⟨⟨r0, r1, r2, r3, r4, r5⟩, -⟩ := cells6 hZ3
                    have lt := block_lt hZ3
                    clear hZ3
                    go_wp2_with fail
                    obtain ⟨T', ds', es', βp', p', βd', βa', hc'⟩ := I3.out
                    have HC' := hd hc'
                    have nl1 : ds'.length ≤ 4096 := by have := hc'.ld; have := hc'.dle; have := hc'.few; omega
                    have nl2 : es'.length ≤ 4096 := by have := hc'.le; have := hc'.few; omega
                    clear hc'
                    refine (cdoc_any x z id ds' es' βp' p' _ HC'.out.cl nl1).mono ?_
                    rintro e w7 ⟨u7, β7, rfl, h7, b7⟩
                    have H7 := hd h7
                    have HC7 := hd (HC'.out.below b7)
                    clear h7 b7 I3
                    go_wp2_with fail
                    refine (sameDoc_true u7 _ β7 βd' ds' w7 H7.out HC7.out.d).mono ?_
                    rintro e w8 ⟨rfl, m8, rfl⟩
                    have HC8 := hd (HC7.out.below (below_drewN (Below.refl _ _) m8))
                    clear HC7 H7
                    go_wp2_with fail
                    refine (cpending_any x z id ds' es' βp' p' _ HC8.out.cl nl2).mono ?_
                    rintro e w9 ⟨u9, β9, rfl, h9, b9⟩
                    have H9 := hd h9
                    have HC9 := hd (HC8.out.below b9)
                    clear h9 b9 HC8
                    go_wp2_with fail
                    refine (sameEdits_true u9 _ β9 βa' es' w9 H9.out HC9.out.a).mono ?_
                    rintro e w10 ⟨rfl, m10, rfl⟩
                    have HC10 := hd (HC9.out.below (below_drewN (Below.refl _ _) m10))
                    clear HC9 H9 nl1 nl2
                    go_wp2
                    exact ⟨⟨k + 1, _, _, by omega, by go_num, T', ds', es', βp', p', βd', βa', HC10.out⟩, by simp [intOf]; omega⟩
                · skip
                  obtain ⟨q, rfl⟩ : ∃ q : Nat, pos = q := ⟨pos.toNat, by omega⟩
                  have hf : ne < 64 := by omega
                  have hw : IntKind.u8.wrap ch = ch := by rw [IntKind.wrap_u8]; omega
                  have q1 : ¬ ch < 32 := c1
                  have q2 : ¬ 126 < ch := c2
                  have q3 : ¬ (q : Int) < 0 := p1
                  have q4 : ¬ (nd : Int) < q := p2
                  have q5 : ¬ (64 : Int) ≤ ne := by omega
                  go_wp2_with fail
                  refine (ins_good x z id ds es βp p ne q ch _ (HC.out.cl.below (three_below wr _ _ _)) hid1 hid2 HC.out.last hf (by have := HC.out.ld; omega) (by have := HC.out.le; omega) (by omega) (by omega) (by have := HC.out.ld; omega)).mono ?_
                  rintro e w2 ⟨rfl, hD⟩
                  obtain ⟨hO0, hZ0⟩ := three (Below.refl _ (((wr.alloc (.cells #[.bool false, .int .i64 q, .int .i64 ch] 32)).alloc (.cells #[.int .i64 1, .int .i64 q, .int .u8 ch, .int .i64 id, .int .i64 ((ne : Int) + 1)] 34)).alloc (.cells #[.int .i64 0, .int .i64 0, .int .i64 0, .int .u8 0, .int .i64 0, .int .i64 0] 36)))
                  obtain ⟨kp, hs2, hG⟩ := GD.make HC.out (three_below wr _ _ _) hf hD
                  have hO := (kp _ (by omega) (block_lt hO0)).trans hO0
                  have hZ := (kp _ (by omega) (block_lt hZ0)).trans hZ0
                  obtain ⟨⟨r0, r1, r2, r3, r4, r5⟩, ⟨t0, t1, t2, t3, t4, t5⟩⟩ := cells6 hZ
                  have lt := block_lt hZ
                  obtain ⟨hZ3, hF3⟩ := set6 hZ (.int .i64 0) (.int .i64 1) (.int .i64 q) (.int .u8 ch) (.int .i64 id) (.int .i64 ((ne : Int) + 1))
                  obtain ⟨W3, hW3⟩ : ∃ W, W = ((((((w2.setCell ⟨wr.heap.size + 1 + 1, 0, none⟩ (.int .i64 0)).setCell ⟨wr.heap.size + 1 + 1, 1, none⟩ (.int .i64 1)).setCell ⟨wr.heap.size + 1 + 1, 2, none⟩ (.int .i64 q)).setCell ⟨wr.heap.size + 1 + 1, 3, none⟩ (.int .u8 ch)).setCell ⟨wr.heap.size + 1 + 1, 4, none⟩ (.int .i64 id)).setCell ⟨wr.heap.size + 1 + 1, 5, none⟩ (.int .i64 ((ne : Int) + 1))) := ⟨_, rfl⟩
                  rw [← hW3] at hZ3 hF3
                  have hO3 := hF3.keeps hO (by omega)
                  have G3 := hG _ W3 _ (by omega) (block_lt hZ0) hZ0 hF3
                  have hlw : w.heap.size ≤ wr.heap.size := HC.out.bel.size
                  have G4 := G3.below ((Below.refl _ _).alloc (Nat.le_refl _) (.cells #[.int .i64 0, .int .i64 1, .int .i64 q, .int .u8 ch, .int .i64 id, .int .i64 ((ne : Int) + 1)] 36))
                  obtain ⟨a5, n5, c5, w5, hr, kp5, sz5, T5, ds5, es5, βp5, p5, βd5, βa5, j1, j2, j3, j4, j5, j6, j7, j8, j9, j10, j11, j12⟩ := GD.push G4 (heap_alloc_new W3 _)
                  have hO4 : (W3.alloc (.cells #[.int .i64 0, .int .i64 1, .int .i64 q, .int .u8 ch, .int .i64 id, .int .i64 ((ne : Int) + 1)] 36)).heap[wr.heap.size + 1]? = _ := (((Below.refl W3.heap.size W3).alloc (Nat.le_refl _) _).block _ (block_lt hO3)).trans hO3
                  have hO5 := (kp5 _ (by omega) (block_lt hO4) (fun ht => ht.ne ⟨_, hO4⟩ (by decide) rfl)).trans hO4
                  have J := hd (And.intro j1 (And.intro j2 (And.intro j3 (And.intro j4 (And.intro j5 (And.intro j6 (And.intro j7 (And.intro j8 (And.intro j9 (And.intro j11 j12))))))))))
                  have HW3 := hd hW3
                  have HO5 := hd hO5
                  have HZ3 := hd hZ3
                  have HO3 := hd hO3
                  clear hD hO0 hZ0 kp hs2 hG hO hZ hF3 hW3 G3 G4 kp5 sz5 j1 j2 j3 j4 j5 j6 j7 j8 j9 j10 j11 j12 hO4 hO5 hZ3 hO3 hlw
                  go_wp2_with fail
                  rw [← HW3.out]
                  refine (num_any _ _).mono ?_
                  rintro e W3 ⟨rfl, rfl⟩
                  clear r0 r1 r2 r3 r4 r5 t0 t1 t2 t3 t4 t5 lt HW3
                  obtain ⟨⟨r0, r1, r2, r3, r4, r5⟩, -⟩ := cells6 HZ3.out
                  obtain ⟨⟨o0, o1, o2, o3, o4⟩, -⟩ := cells5 HO3.out
                  have lt := block_lt HZ3.out
                  have lto := block_lt HO3.out
                  go_wp2_with (first | (at_builtin; refine wpList_append_k _ rfl _ _ 30 30 rfl _ _ rfl rfl (hr _) ?_; clear hr r0 r1 r2 r3 r4 r5 o0 o1 o2 o3 o4 lt lto; obtain ⟨⟨o0, o1, o2, o3, o4⟩, -⟩ := cells5 HO5.out; have lto := block_lt HO5.out) | fail)
                  refine (put_se βd5 _ ds5 ⟨1, (q : Int), ch, id, (ne : Int) + 1⟩ w5 J.out.2.2.1 (by have := J.out.2.2.2.2.2.2.2.2.1; omega) (.inl ⟨rfl, q, rfl, by have := J.out.2.2.2.2.2.2.2.2.1; omega⟩)).mono ?_
                  rintro e w6 ⟨v6, g6, rfl, hS6, hg6, b6⟩
                  have I3 : Hid (IV w w6 x z id v6 (.slice a5 n5 c5) (nd + 1) (ne + 1)) := by
                    obtain ⟨j1, j2, j3, j4, j5, j6, j7, j8, j9, j11, j12⟩ := J.out
                    refine ⟨T5, _, es5, βp5, p5, some g6, βa5, j1.below b6, fun k hk => ⟨(j2 k hk).1, Nat.lt_of_lt_of_le (j2 k hk).2 b6.size⟩, hS6, j4.fr (S := fun _ => False) (Fr.of_below b6) (fun _ _ h => h), j5, j6, j7, j8, ?_, by omega, by omega, j12.trans (b6.mono j12.size)⟩
                    rw [applyP_ins_len _ _ _ _ _ (by omega), j9]
                  clear hS6 hg6 b6 J HO5 HZ3 HO3 o0 o1 o2 o3 o4 lto
                  go_wp2_with fail
                  obtain ⟨T', ds', es', βp', p', βd', βa', hc'⟩ := I3.out
                  have HC' := hd hc'
                  have nl1 : ds'.length ≤ 4096 := by have := hc'.ld; have := hc'.dle; have := hc'.few; omega
                  have nl2 : es'.length ≤ 4096 := by have := hc'.le; have := hc'.few; omega
                  clear hc'
                  refine (cdoc_any x z id ds' es' βp' p' _ HC'.out.cl nl1).mono ?_
                  rintro e w7 ⟨u7, β7, rfl, h7, b7⟩
                  have H7 := hd h7
                  have HC7 := hd (HC'.out.below b7)
                  clear h7 b7 I3
                  go_wp2_with fail
                  refine (sameDoc_true u7 _ β7 βd' ds' w7 H7.out HC7.out.d).mono ?_
                  rintro e w8 ⟨rfl, m8, rfl⟩
                  have HC8 := hd (HC7.out.below (below_drewN (Below.refl _ _) m8))
                  clear HC7 H7
                  go_wp2_with fail
                  refine (cpending_any x z id ds' es' βp' p' _ HC8.out.cl nl2).mono ?_
                  rintro e w9 ⟨u9, β9, rfl, h9, b9⟩
                  have H9 := hd h9
                  have HC9 := hd (HC8.out.below b9)
                  clear h9 b9 HC8
                  go_wp2_with fail
                  refine (sameEdits_true u9 _ β9 βa' es' w9 H9.out HC9.out.a).mono ?_
                  rintro e w10 ⟨rfl, m10, rfl⟩
                  have HC10 := hd (HC9.out.below (below_drewN (Below.refl _ _) m10))
                  clear HC9 H9 nl1 nl2
                  go_wp2
                  exact ⟨⟨k + 1, _, _, by omega, by go_num, T', ds', es', βp', p', βd', βa', HC10.out⟩, by simp [intOf]; omega⟩
      | true =>
        by_cases p1 : pos < 0
        ·
            go_wp2_with fail
            refine (del_p1 x z id ds es βp p pos _ (HC.out.cl.below (three_below wr _ _ _)) p1).mono ?_
            rintro e w2 ⟨rfl, hb⟩
            obtain ⟨hO, hZ⟩ := three hb
            have hB : Below wr.heap.size wr w2 := (three_below wr _ _ _).trans (hb.mono (three_below wr _ _ _).size)
            obtain ⟨⟨r0, r1, r2, r3, r4, r5⟩, ⟨t0, t1, t2, t3, t4, t5⟩⟩ := cells6 hZ
            have lt := block_lt hZ
            obtain ⟨hZ3, hF3⟩ := set6 hZ (.int .i64 0) (.int .i64 0) (.int .i64 0) (.int .u8 0) (.int .i64 0) (.int .i64 0)
            obtain ⟨W3, hW3⟩ : ∃ W, W = ((((((w2.setCell ⟨wr.heap.size + 1 + 1, 0, none⟩ (.int .i64 0)).setCell ⟨wr.heap.size + 1 + 1, 1, none⟩ (.int .i64 0)).setCell ⟨wr.heap.size + 1 + 1, 2, none⟩ (.int .i64 0)).setCell ⟨wr.heap.size + 1 + 1, 3, none⟩ (.int .u8 0)).setCell ⟨wr.heap.size + 1 + 1, 4, none⟩ (.int .i64 0)).setCell ⟨wr.heap.size + 1 + 1, 5, none⟩ (.int .i64 0)) := ⟨_, rfl⟩
            rw [← hW3] at hZ3 hF3
            have I3 : Hid (IV w W3 x z id (.slice ad nd cd) (.slice aa ne ca) nd ne) := ⟨_, _, _, _, _, _, _, HC.out.below (hB.trans (hF3.below hB.size (fun j h => by omega)))⟩
            have HW3 := hd hW3
            clear hb hO hZ hB hF3 hW3
            go_wp2_with fail
            rw [← HW3.out]
            refine (num_any _ _).mono ?_
            rintro e W3 ⟨rfl, rfl⟩
            clear r0 r1 r2 r3 r4 r5 t0 t1 t2 t3 t4 t5 lt HW3
            obtain ⟨⟨r0, r1, r2, r3, r4, r5⟩, -⟩ := cells6 hZ3
            have lt := block_lt hZ3
            clear hZ3
            go_wp2_with fail
            obtain ⟨T', ds', es', βp', p', βd', βa', hc'⟩ := I3.out
            have HC' := hd hc'
            have nl1 : ds'.length ≤ 4096 := by have := hc'.ld; have := hc'.dle; have := hc'.few; omega
            have nl2 : es'.length ≤ 4096 := by have := hc'.le; have := hc'.few; omega
            clear hc'
            refine (cdoc_any x z id ds' es' βp' p' _ HC'.out.cl nl1).mono ?_
            rintro e w7 ⟨u7, β7, rfl, h7, b7⟩
            have H7 := hd h7
            have HC7 := hd (HC'.out.below b7)
            clear h7 b7 I3
            go_wp2_with fail
            refine (sameDoc_true u7 _ β7 βd' ds' w7 H7.out HC7.out.d).mono ?_
            rintro e w8 ⟨rfl, m8, rfl⟩
            have HC8 := hd (HC7.out.below (below_drewN (Below.refl _ _) m8))
            clear HC7 H7
            go_wp2_with fail
            refine (cpending_any x z id ds' es' βp' p' _ HC8.out.cl nl2).mono ?_
            rintro e w9 ⟨u9, β9, rfl, h9, b9⟩
            have H9 := hd h9
            have HC9 := hd (HC8.out.below b9)
            clear h9 b9 HC8
            go_wp2_with fail
            refine (sameEdits_true u9 _ β9 βa' es' w9 H9.out HC9.out.a).mono ?_
            rintro e w10 ⟨rfl, m10, rfl⟩
            have HC10 := hd (HC9.out.below (below_drewN (Below.refl _ _) m10))
            clear HC9 H9 nl1 nl2
            go_wp2
            exact ⟨⟨k + 1, _, _, by omega, by go_num, T', ds', es', βp', p', βd', βa', HC10.out⟩, by simp [intOf]; omega⟩
        · skip
          by_cases p2 : (nd : Int) < pos
          ·
              go_wp2_with fail
              refine (del_p2 x z id ds es βp p pos _ (HC.out.cl.below (three_below wr _ _ _)) (by have := HC.out.ld; omega)).mono ?_
              rintro e w2 ⟨rfl, hb⟩
              obtain ⟨hO, hZ⟩ := three hb
              have hB : Below wr.heap.size wr w2 := (three_below wr _ _ _).trans (hb.mono (three_below wr _ _ _).size)
              obtain ⟨⟨r0, r1, r2, r3, r4, r5⟩, ⟨t0, t1, t2, t3, t4, t5⟩⟩ := cells6 hZ
              have lt := block_lt hZ
              obtain ⟨hZ3, hF3⟩ := set6 hZ (.int .i64 0) (.int .i64 0) (.int .i64 0) (.int .u8 0) (.int .i64 0) (.int .i64 0)
              obtain ⟨W3, hW3⟩ : ∃ W, W = ((((((w2.setCell ⟨wr.heap.size + 1 + 1, 0, none⟩ (.int .i64 0)).setCell ⟨wr.heap.size + 1 + 1, 1, none⟩ (.int .i64 0)).setCell ⟨wr.heap.size + 1 + 1, 2, none⟩ (.int .i64 0)).setCell ⟨wr.heap.size + 1 + 1, 3, none⟩ (.int .u8 0)).setCell ⟨wr.heap.size + 1 + 1, 4, none⟩ (.int .i64 0)).setCell ⟨wr.heap.size + 1 + 1, 5, none⟩ (.int .i64 0)) := ⟨_, rfl⟩
              rw [← hW3] at hZ3 hF3
              have I3 : Hid (IV w W3 x z id (.slice ad nd cd) (.slice aa ne ca) nd ne) := ⟨_, _, _, _, _, _, _, HC.out.below (hB.trans (hF3.below hB.size (fun j h => by omega)))⟩
              have HW3 := hd hW3
              clear hb hO hZ hB hF3 hW3
              go_wp2_with fail
              rw [← HW3.out]
              refine (num_any _ _).mono ?_
              rintro e W3 ⟨rfl, rfl⟩
              clear r0 r1 r2 r3 r4 r5 t0 t1 t2 t3 t4 t5 lt HW3
              obtain ⟨⟨r0, r1, r2, r3, r4, r5⟩, -⟩ := cells6 hZ3
              have lt := block_lt hZ3
              clear hZ3
              go_wp2_with fail
              obtain ⟨T', ds', es', βp', p', βd', βa', hc'⟩ := I3.out
              have HC' := hd hc'
              have nl1 : ds'.length ≤ 4096 := by have := hc'.ld; have := hc'.dle; have := hc'.few; omega
              have nl2 : es'.length ≤ 4096 := by have := hc'.le; have := hc'.few; omega
              clear hc'
              refine (cdoc_any x z id ds' es' βp' p' _ HC'.out.cl nl1).mono ?_
              rintro e w7 ⟨u7, β7, rfl, h7, b7⟩
              have H7 := hd h7
              have HC7 := hd (HC'.out.below b7)
              clear h7 b7 I3
              go_wp2_with fail
              refine (sameDoc_true u7 _ β7 βd' ds' w7 H7.out HC7.out.d).mono ?_
              rintro e w8 ⟨rfl, m8, rfl⟩
              have HC8 := hd (HC7.out.below (below_drewN (Below.refl _ _) m8))
              clear HC7 H7
              go_wp2_with fail
              refine (cpending_any x z id ds' es' βp' p' _ HC8.out.cl nl2).mono ?_
              rintro e w9 ⟨u9, β9, rfl, h9, b9⟩
              have H9 := hd h9
              have HC9 := hd (HC8.out.below b9)
              clear h9 b9 HC8
              go_wp2_with fail
              refine (sameEdits_true u9 _ β9 βa' es' w9 H9.out HC9.out.a).mono ?_
              rintro e w10 ⟨rfl, m10, rfl⟩
              have HC10 := hd (HC9.out.below (below_drewN (Below.refl _ _) m10))
              clear HC9 H9 nl1 nl2
              go_wp2
              exact ⟨⟨k + 1, _, _, by omega, by go_num, T', ds', es', βp', p', βd', βa', HC10.out⟩, by simp [intOf]; omega⟩
          · skip
            by_cases p3 : pos = (nd : Int)
            ·
                subst p3
                go_wp2_with fail
                refine (del_p2 x z id ds es βp p (nd : Int) _ (HC.out.cl.below (three_below wr _ _ _)) (by have := HC.out.ld; omega)).mono ?_
                rintro e w2 ⟨rfl, hb⟩
                obtain ⟨hO, hZ⟩ := three hb
                have hB : Below wr.heap.size wr w2 := (three_below wr _ _ _).trans (hb.mono (three_below wr _ _ _).size)
                obtain ⟨⟨r0, r1, r2, r3, r4, r5⟩, ⟨t0, t1, t2, t3, t4, t5⟩⟩ := cells6 hZ
                have lt := block_lt hZ
                obtain ⟨hZ3, hF3⟩ := set6 hZ (.int .i64 0) (.int .i64 0) (.int .i64 0) (.int .u8 0) (.int .i64 0) (.int .i64 0)
                obtain ⟨W3, hW3⟩ : ∃ W, W = ((((((w2.setCell ⟨wr.heap.size + 1 + 1, 0, none⟩ (.int .i64 0)).setCell ⟨wr.heap.size + 1 + 1, 1, none⟩ (.int .i64 0)).setCell ⟨wr.heap.size + 1 + 1, 2, none⟩ (.int .i64 0)).setCell ⟨wr.heap.size + 1 + 1, 3, none⟩ (.int .u8 0)).setCell ⟨wr.heap.size + 1 + 1, 4, none⟩ (.int .i64 0)).setCell ⟨wr.heap.size + 1 + 1, 5, none⟩ (.int .i64 0)) := ⟨_, rfl⟩
                rw [← hW3] at hZ3 hF3
                have I3 : Hid (IV w W3 x z id (.slice ad nd cd) (.slice aa ne ca) nd ne) := ⟨_, _, _, _, _, _, _, HC.out.below (hB.trans (hF3.below hB.size (fun j h => by omega)))⟩
                have HW3 := hd hW3
                clear hb hO hZ hB hF3 hW3
                go_wp2_with fail
                rw [← HW3.out]
                refine (num_any _ _).mono ?_
                rintro e W3 ⟨rfl, rfl⟩
                clear r0 r1 r2 r3 r4 r5 t0 t1 t2 t3 t4 t5 lt HW3
                obtain ⟨⟨r0, r1, r2, r3, r4, r5⟩, -⟩ := cells6 hZ3
                have lt := block_lt hZ3
                clear hZ3
                go_wp2_with fail
                obtain ⟨T', ds', es', βp', p', βd', βa', hc'⟩ := I3.out
                have HC' := hd hc'
                have nl1 : ds'.length ≤ 4096 := by have := hc'.ld; have := hc'.dle; have := hc'.few; omega
                have nl2 : es'.length ≤ 4096 := by have := hc'.le; have := hc'.few; omega
                clear hc'
                refine (cdoc_any x z id ds' es' βp' p' _ HC'.out.cl nl1).mono ?_
                rintro e w7 ⟨u7, β7, rfl, h7, b7⟩
                have H7 := hd h7
                have HC7 := hd (HC'.out.below b7)
                clear h7 b7 I3
                go_wp2_with fail
                refine (sameDoc_true u7 _ β7 βd' ds' w7 H7.out HC7.out.d).mono ?_
                rintro e w8 ⟨rfl, m8, rfl⟩
                have HC8 := hd (HC7.out.below (below_drewN (Below.refl _ _) m8))
                clear HC7 H7
                go_wp2_with fail
                refine (cpending_any x z id ds' es' βp' p' _ HC8.out.cl nl2).mono ?_
                rintro e w9 ⟨u9, β9, rfl, h9, b9⟩
                have H9 := hd h9
                have HC9 := hd (HC8.out.below b9)
                clear h9 b9 HC8
                go_wp2_with fail
                refine (sameEdits_true u9 _ β9 βa' es' w9 H9.out HC9.out.a).mono ?_
                rintro e w10 ⟨rfl, m10, rfl⟩
                have HC10 := hd (HC9.out.below (below_drewN (Below.refl _ _) m10))
                clear HC9 H9 nl1 nl2
                go_wp2
                exact ⟨⟨k + 1, _, _, by omega, by go_num, T', ds', es', βp', p', βd', βa', HC10.out⟩, by simp [intOf]; omega⟩
            · skip
              by_cases hf' : 64 ≤ ne
              ·
                  go_wp2_with fail
                  refine (del_full x z id ds es βp p pos _ (HC.out.cl.below (three_below wr _ _ _)) (by omega) (by have := HC.out.ld; omega) (by have := HC.out.last; omega)).mono ?_
                  rintro e w2 ⟨rfl, hb⟩
                  obtain ⟨hO, hZ⟩ := three hb
                  have hB : Below wr.heap.size wr w2 := (three_below wr _ _ _).trans (hb.mono (three_below wr _ _ _).size)
                  obtain ⟨⟨r0, r1, r2, r3, r4, r5⟩, ⟨t0, t1, t2, t3, t4, t5⟩⟩ := cells6 hZ
                  have lt := block_lt hZ
                  obtain ⟨hZ3, hF3⟩ := set6 hZ (.int .i64 0) (.int .i64 0) (.int .i64 0) (.int .u8 0) (.int .i64 0) (.int .i64 0)
                  obtain ⟨W3, hW3⟩ : ∃ W, W = ((((((w2.setCell ⟨wr.heap.size + 1 + 1, 0, none⟩ (.int .i64 0)).setCell ⟨wr.heap.size + 1 + 1, 1, none⟩ (.int .i64 0)).setCell ⟨wr.heap.size + 1 + 1, 2, none⟩ (.int .i64 0)).setCell ⟨wr.heap.size + 1 + 1, 3, none⟩ (.int .u8 0)).setCell ⟨wr.heap.size + 1 + 1, 4, none⟩ (.int .i64 0)).setCell ⟨wr.heap.size + 1 + 1, 5, none⟩ (.int .i64 0)) := ⟨_, rfl⟩
                  rw [← hW3] at hZ3 hF3
                  have I3 : Hid (IV w W3 x z id (.slice ad nd cd) (.slice aa ne ca) nd ne) := ⟨_, _, _, _, _, _, _, HC.out.below (hB.trans (hF3.below hB.size (fun j h => by omega)))⟩
                  have HW3 := hd hW3
                  clear hb hO hZ hB hF3 hW3
                  go_wp2_with fail
                  rw [← HW3.out]
                  refine (num_any _ _).mono ?_
                  rintro e W3 ⟨rfl, rfl⟩
                  clear r0 r1 r2 r3 r4 r5 t0 t1 t2 t3 t4 t5 lt HW3
                  obtain ⟨⟨r0, r1, r2, r3, r4, r5⟩, -⟩ := cells6 hZ3
                  have lt := block_lt hZ3
                  clear hZ3
                  go_wp2_with fail
                  obtain ⟨T', ds', es', βp', p', βd', βa', hc'⟩ := I3.out
                  have HC' := hd hc'
                  have nl1 : ds'.length ≤ 4096 := by have := hc'.ld; have := hc'.dle; have := hc'.few; omega
                  have nl2 : es'.length ≤ 4096 := by have := hc'.le; have := hc'.few; omega
                  clear hc'
                  refine (cdoc_any x z id ds' es' βp' p' _ HC'.out.cl nl1).mono ?_
                  rintro e w7 ⟨u7, β7, rfl, h7, b7⟩
                  have H7 := hd h7
                  have HC7 := hd (HC'.out.below b7)
                  clear h7 b7 I3
                  go_wp2_with fail
                  refine (sameDoc_true u7 _ β7 βd' ds' w7 H7.out HC7.out.d).mono ?_
                  rintro e w8 ⟨rfl, m8, rfl⟩
                  have HC8 := hd (HC7.out.below (below_drewN (Below.refl _ _) m8))
                  clear HC7 H7
                  go_wp2_with fail
                  refine (cpending_any x z id ds' es' βp' p' _ HC8.out.cl nl2).mono ?_
                  rintro e w9 ⟨u9, β9, rfl, h9, b9⟩
                  have H9 := hd h9
                  have HC9 := hd (HC8.out.below b9)
                  clear h9 b9 HC8
                  go_wp2_with fail
                  refine (sameEdits_true u9 _ β9 βa' es' w9 H9.out HC9.out.a).mono ?_
                  rintro e w10 ⟨rfl, m10, rfl⟩
                  have HC10 := hd (HC9.out.below (below_drewN (Below.refl _ _) m10))
                  clear HC9 H9 nl1 nl2
                  go_wp2
                  exact ⟨⟨k + 1, _, _, by omega, by go_num, T', ds', es', βp', p', βd', βa', HC10.out⟩, by simp [intOf]; omega⟩
              · skip
                obtain ⟨q, rfl⟩ : ∃ q : Nat, pos = q := ⟨pos.toNat, by omega⟩
                have hf : ne < 64 := by omega
                have q3 : ¬ (q : Int) < 0 := p1
                have q4 : ¬ (nd : Int) < q := p2
                have q6 : ¬ (q : Int) = nd := p3
                have q5 : ¬ (64 : Int) ≤ ne := by omega
                go_wp2_with fail
                refine (del_good x z id ds es βp p ne q _ (HC.out.cl.below (three_below wr _ _ _)) hid1 hid2 HC.out.last hf (by have := HC.out.ld; omega) (by have := HC.out.le; omega) (by have := HC.out.ld; omega)).mono ?_
                rintro e w2 ⟨rfl, hD⟩
                obtain ⟨hO0, hZ0⟩ := three (Below.refl _ (((wr.alloc (.cells #[.bool true, .int .i64 q, .int .i64 ch] 32)).alloc (.cells #[.int .i64 2, .int .i64 q, .int .u8 0, .int .i64 id, .int .i64 ((ne : Int) + 1)] 34)).alloc (.cells #[.int .i64 0, .int .i64 0, .int .i64 0, .int .u8 0, .int .i64 0, .int .i64 0] 36)))
                obtain ⟨kp, hs2, hG⟩ := GD.make HC.out (three_below wr _ _ _) hf hD
                have hO := (kp _ (by omega) (block_lt hO0)).trans hO0
                have hZ := (kp _ (by omega) (block_lt hZ0)).trans hZ0
                obtain ⟨⟨r0, r1, r2, r3, r4, r5⟩, ⟨t0, t1, t2, t3, t4, t5⟩⟩ := cells6 hZ
                have lt := block_lt hZ
                obtain ⟨hZ3, hF3⟩ := set6 hZ (.int .i64 0) (.int .i64 2) (.int .i64 q) (.int .u8 0) (.int .i64 id) (.int .i64 ((ne : Int) + 1))
                obtain ⟨W3, hW3⟩ : ∃ W, W = ((((((w2.setCell ⟨wr.heap.size + 1 + 1, 0, none⟩ (.int .i64 0)).setCell ⟨wr.heap.size + 1 + 1, 1, none⟩ (.int .i64 2)).setCell ⟨wr.heap.size + 1 + 1, 2, none⟩ (.int .i64 q)).setCell ⟨wr.heap.size + 1 + 1, 3, none⟩ (.int .u8 0)).setCell ⟨wr.heap.size + 1 + 1, 4, none⟩ (.int .i64 id)).setCell ⟨wr.heap.size + 1 + 1, 5, none⟩ (.int .i64 ((ne : Int) + 1))) := ⟨_, rfl⟩
                rw [← hW3] at hZ3 hF3
                have hO3 := hF3.keeps hO (by omega)
                have G3 := hG _ W3 _ (by omega) (block_lt hZ0) hZ0 hF3
                have hlw : w.heap.size ≤ wr.heap.size := HC.out.bel.size
                have G4 := G3.below ((Below.refl _ _).alloc (Nat.le_refl _) (.cells #[.int .i64 0, .int .i64 2, .int .i64 q, .int .u8 0, .int .i64 id, .int .i64 ((ne : Int) + 1)] 36))
                obtain ⟨a5, n5, c5, w5, hr, kp5, sz5, T5, ds5, es5, βp5, p5, βd5, βa5, j1, j2, j3, j4, j5, j6, j7, j8, j9, j10, j11, j12⟩ := GD.push G4 (heap_alloc_new W3 _)
                have hO4 : (W3.alloc (.cells #[.int .i64 0, .int .i64 2, .int .i64 q, .int .u8 0, .int .i64 id, .int .i64 ((ne : Int) + 1)] 36)).heap[wr.heap.size + 1]? = _ := (((Below.refl W3.heap.size W3).alloc (Nat.le_refl _) _).block _ (block_lt hO3)).trans hO3
                have hO5 := (kp5 _ (by omega) (block_lt hO4) (fun ht => ht.ne ⟨_, hO4⟩ (by decide) rfl)).trans hO4
                have J := hd (And.intro j1 (And.intro j2 (And.intro j3 (And.intro j4 (And.intro j5 (And.intro j6 (And.intro j7 (And.intro j8 (And.intro j9 (And.intro j11 j12))))))))))
                have HW3 := hd hW3
                have HO5 := hd hO5
                have HZ3 := hd hZ3
                have HO3 := hd hO3
                clear hD hO0 hZ0 kp hs2 hG hO hZ hF3 hW3 G3 G4 kp5 sz5 j1 j2 j3 j4 j5 j6 j7 j8 j9 j10 j11 j12 hO4 hO5 hZ3 hO3 hlw
                go_wp2_with fail
                rw [← HW3.out]
                refine (num_any _ _).mono ?_
                rintro e W3 ⟨rfl, rfl⟩
                clear r0 r1 r2 r3 r4 r5 t0 t1 t2 t3 t4 t5 lt HW3
                obtain ⟨⟨r0, r1, r2, r3, r4, r5⟩, -⟩ := cells6 HZ3.out
                obtain ⟨⟨o0, o1, o2, o3, o4⟩, -⟩ := cells5 HO3.out
                have lt := block_lt HZ3.out
                have lto := block_lt HO3.out
                go_wp2_with (first | (at_builtin; refine wpList_append_k _ rfl _ _ 30 30 rfl _ _ rfl rfl (hr _) ?_; clear hr r0 r1 r2 r3 r4 r5 o0 o1 o2 o3 o4 lt lto; obtain ⟨⟨o0, o1, o2, o3, o4⟩, -⟩ := cells5 HO5.out; have lto := block_lt HO5.out) | fail)
                refine (put_se βd5 _ ds5 ⟨2, (q : Int), 0, id, (ne : Int) + 1⟩ w5 J.out.2.2.1 (by have := J.out.2.2.2.2.2.2.2.2.1; omega) (.inr ⟨rfl, q, rfl, by have := J.out.2.2.2.2.2.2.2.2.1; omega⟩)).mono ?_
                rintro e w6 ⟨v6, g6, rfl, hS6, hg6, b6⟩
                have I3 : Hid (IV w w6 x z id v6 (.slice a5 n5 c5) (nd - 1) (ne + 1)) := by
                  obtain ⟨j1, j2, j3, j4, j5, j6, j7, j8, j9, j11, j12⟩ := J.out
                  refine ⟨T5, _, es5, βp5, p5, some g6, βa5, j1.below b6, fun k hk => ⟨(j2 k hk).1, Nat.lt_of_lt_of_le (j2 k hk).2 b6.size⟩, hS6, j4.fr (S := fun _ => False) (Fr.of_below b6) (fun _ _ h => h), j5, j6, j7, j8, ?_, by omega, by omega, j12.trans (b6.mono j12.size)⟩
                  rw [applyP_del_len _ _ _ _ _ (by omega), j9]
                clear hS6 hg6 b6 J HO5 HZ3 HO3 o0 o1 o2 o3 o4 lto
                go_wp2_with fail
                obtain ⟨T', ds', es', βp', p', βd', βa', hc'⟩ := I3.out
                have HC' := hd hc'
                have nl1 : ds'.length ≤ 4096 := by have := hc'.ld; have := hc'.dle; have := hc'.few; omega
                have nl2 : es'.length ≤ 4096 := by have := hc'.le; have := hc'.few; omega
                clear hc'
                refine (cdoc_any x z id ds' es' βp' p' _ HC'.out.cl nl1).mono ?_
                rintro e w7 ⟨u7, β7, rfl, h7, b7⟩
                have H7 := hd h7
                have HC7 := hd (HC'.out.below b7)
                clear h7 b7 I3
                go_wp2_with fail
                refine (sameDoc_true u7 _ β7 βd' ds' w7 H7.out HC7.out.d).mono ?_
                rintro e w8 ⟨rfl, m8, rfl⟩
                have HC8 := hd (HC7.out.below (below_drewN (Below.refl _ _) m8))
                clear HC7 H7
                go_wp2_with fail
                refine (cpending_any x z id ds' es' βp' p' _ HC8.out.cl nl2).mono ?_
                rintro e w9 ⟨u9, β9, rfl, h9, b9⟩
                have H9 := hd h9
                have HC9 := hd (HC8.out.below b9)
                clear h9 b9 HC8
                go_wp2_with fail
                refine (sameEdits_true u9 _ β9 βa' es' w9 H9.out HC9.out.a).mono ?_
                rintro e w10 ⟨rfl, m10, rfl⟩
                have HC10 := hd (HC9.out.below (below_drewN (Below.refl _ _) m10))
                clear HC9 H9 nl1 nl2
                go_wp2
                exact ⟨⟨k + 1, _, _, by omega, by go_num, T', ds', es', βp', p', βd', βa', HC10.out⟩, by simp [intOf]; omega⟩
    · obtain rfl : k = N := by omega
      obtain ⟨T, ds, es, βp, p, βd, βa, hc⟩ := hI.out
      obtain ⟨⟨ad, cd, rfl, hd1, hd2⟩, ⟨aa, ca, rfl, ha1, ha2⟩, hne, hnd⟩ := hI.out.form
      have HC := hd hc
      have hl := hc.last
      have HL := hd hl
      clear hc hI hl
      have hfd : ∀ (W : World) (p0 p3 : Int) (a d : Option Addr) (b c f g : Nat), (Instr.field 47 (.agg #[.int .i64 p0, .int .i64 0, .bool false, .int .i64 p3, .int .i64 0, .slice a b c, .slice d f g]) 3).run Try.prog W = .ok (.int .i64 p3) W := fun _ _ _ _ _ _ _ _ _ => by kernel_rfl
      go_wp2_with fail
      refine (view_any x z id ds es βp p _ HC.out.cl (by have := HC.out.ld; omega) (by have := HC.out.le; omega)).mono ?_
      rintro e w2 ⟨y1, y2, y3, y4, y5, y6, rfl, hb⟩
      rw [HL.out]
      have HB := hd (HC.out.bel.trans (hb.mono HC.out.bel.size))
      clear hb
      go_wp2
      go_ret
      exact ⟨rfl, HB.out⟩

end Go.Proofs.Ytjgpibajndlhaaa
