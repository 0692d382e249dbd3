/-
  DocParts: the walk.
-/
import Derived.Test.YtbgpmekjcepmaaaDLib
import Derived.Test.YtbgpmekjcepmaaaShort
import Derived.Test.YtbgpmekjcepmaaaEq
import Derived.Test.YtbgpmekjcepmaaaApp
namespace Go.Proofs.Ytbgpmekjcepmaaa
open Go.RowKit
set_option linter.unusedVariables false

theorem LRel.facts {w wr : World} {line : Value} {nv k : Nat} {L : List OpE} {xs : List El} (h : LRel w wr line nv k L xs) : xs.length = nv ∧ nv ≤ k ∧ OkO L ∧ replayP L [] 0 = (xs, k, 0) ∧ L.length = k ∧ Below w.heap.size w wr := by
  obtain ⟨β, h1, h2, h3, h4, h5, h6, h7, h8⟩ := h
  exact ⟨h5, h6, h7, h4, h3, h8⟩

/-- What holds while both is made: the row of operations, and the text beside it. -/
def CRel (w wr : World) (both dv : Value) (Q : List OpE) (xs : List El) : Prop :=
  ∃ β δ, SO wr β both Q ∧ (∀ g, β = some g → w.heap.size ≤ g) ∧ SE wr δ dv xs ∧ (∀ g, δ = some g → β ≠ some g) ∧ Below w.heap.size w wr

theorem CRel.push {w wr : World} {both dv : Value} {Q : List OpE} {xs : List El} (h : CRel w wr both dv Q xs) (o : OpE) (hQ : Q.length ≤ 360) :
    ∃ v' w3, (∀ ty, (Builtin.append_ #[43, 43] ty #[both, .slice (some ⟨wr.heap.size, 0, none⟩) 1 1]).run Try.prog (wr.alloc (.cells (opc o).toArray 23)) = .ok v' w3) ∧ CRel w w3 v' dv (Q ++ [o]) xs := by
  obtain ⟨β, δ, h1, h2, h3, h4, h5⟩ := h
  have B1 : Below wr.heap.size wr (wr.alloc (.cells (opc o).toArray 23)) := (Below.refl _ _).alloc (Nat.le_refl _) _
  obtain ⟨v', w3, hr, β', g1, g2, g3⟩ := run_pushO _ β both Q (h1.below B1) wr.heap.size o (heap_alloc_new _ _) (by omega)
  refine ⟨v', w3, hr, β', δ, g1, ?_, (h3.below B1).fr g3 (fun g hg => h4 g hg), ?_, ?_⟩
  · intro g hg
    rcases g2 with g2 | ⟨g', g2, g4⟩
    · exact h2 g (g2 ▸ hg)
    · obtain rfl : g' = g := Option.some.inj (g2.symm.trans hg)
      have := B1.size
      have := h5.size
      omega
  · intro g hg
    rcases g2 with g2 | ⟨g', g2, g4⟩
    · rw [g2]; exact h4 g hg
    · rw [g2]
      intro e
      obtain rfl := Option.some.inj e
      have := h3.lt _ hg
      have := B1.size
      omega
  · exact (h5.trans (B1.mono h5.size)).trans (g3.below (Nat.le_trans h5.size B1.size) (fun g h => h2 g h))

/-- What holds while the second operations are applied. -/
def DRel (w wr : World) (dv : Value) (ta : Option Addr) (tc : Nat) (os : List OpE) (k : Nat) (T : List El) (M : Nat) (F : Int) (q : Nat) : Prop :=
  ∃ ys ya yc, dv = .slice ya ys.length yc ∧ IsE wr ya ys.length yc ys ∧ IsE wr ta T.length tc T ∧ (T, M, F) = replayP (os.drop q) ys (k + q) ∧ Below w.heap.size w wr

set_option maxRecDepth 100000 in
set_option maxHeartbeats 8000000 in
theorem parts_in (sa : Option Addr) (N c : Nat) (ao : Option Addr) (no co : Nat) (S : Nat → Bool × Int × Int) (os0 : List OpE) (w : World) (hE : IsS w sa N c S) (hk : OkS S) (hO : IsO w ao no co os0) (hK : OkO os0) (hN : N ≤ 60) :
    Calls Try.prog 7 #[.slice sa N c, .slice ao no co] w fun e w' => e = .returned (.bool true) ∧ Below w.heap.size w w' := by
  have HE := hd hE
  have HS := hd hk
  have HO := hd hO
  have HK := hd hK
  have i0 : ¬ (N : Int) > 60 := by omega
  clear hE hO hK hk
  go_enter Try.func7, Try.ntmps7
  go_wp2_with fail
  refine (short_any ao no co os0 _ HO.out).mono ?_
  rintro e w1 ⟨m, rfl, hm, hI, rfl⟩
  have E1 := hd hI
  have K1 := hd (HK.out.take m)
  clear hI HO HK
  generalize os0.take m = os at *
  go_wp2
  go_loopw [5, 6, 7] (fun line nn i wr => ∃ k nv : Nat, k ≤ N ∧ i = .int .i64 k ∧ nn = .int .i64 nv ∧ Hid (∃ L xs, LRel w wr line nv k L xs)) (fun _ _ i _ => N - (intOf i).toNat)
  case atStart => exact ⟨0, 0, Nat.zero_le _, rfl, rfl, ⟨[], [], LRel.start w⟩⟩
  case round =>
    obtain ⟨k, nv, hk, rfl, rfl, hr⟩ := hrel
    obtain ⟨L, xs, hL⟩ := hr.out
    have HL := hd hL
    obtain ⟨la, lc, rfl, hIO⟩ := hL.form
    obtain ⟨hx, hnv, hOk, hRP, hLk, hB⟩ := hL.facts
    have HB := hd hB
    have RP := hd hRP
    have IOq := hd hIO
    have OK := hd hOk
    have LK := hd hLk
    have HX := hd hx
    clear hr hL hIO hOk hRP hLk hx
    by_cases hlt : k < N
    · obtain ⟨b, off, rfl, hb, hc⟩ := (HE.out.below hB).2.2 (by omega)
      obtain ⟨e0, e1, e2⟩ := hc k hlt
      have SK := hd (HS.out k)
      have i1 : (k : Int) < (N : Int) := by omega
      generalize S k = sk at *
      obtain ⟨so, sn, sc⟩ := sk
      simp only [] at e0 e1 e2 SK
      clear hB hc
      go_wp2_with fail
      refine (made_any so sn sc k nv _ (by omega) (by omega) SK.out.1 SK.out.2).mono ?_
      rintro e w2 ⟨k', p', c', l', s', rfl, hmd, hc0, hc1, b2⟩
      obtain ⟨v', w3, hap, hL3, c0, -, -⟩ := HL.out.push b2 ⟨k', p', c', l', s'⟩ hmd ⟨hc0, hc1⟩ (by omega)
      have hkk : k' = 2 ∨ k' = 1 := by
        rcases hmd.1 with ⟨h, _⟩ | ⟨h, _⟩
        · exact .inl h
        · exact .inr h
      have hnz : k' = 2 → 0 < nv := by
        intro h
        rcases hmd.1 with ⟨_, ⟨p, _, hp⟩, _⟩ | ⟨h2, _⟩
        · omega
        · simp only at h2; omega
      simp only [opc] at hap c0
      have L3 := hd hL3
      have HNZ := hd hnz
      clear hmd hc0 hc1 b2 hL3 HL HB RP IOq OK LK HX hnz
      rcases hkk with rfl | rfl
      · have hpos := HNZ.out rfl
        obtain ⟨nv', rfl⟩ : ∃ nv', nv = nv' + 1 := ⟨nv - 1, by omega⟩
        have L4 : Hid (∃ L xs, LRel w w3 v' nv' (k + 1) L xs) := ⟨_, _, by simpa using L3.out⟩
        clear L3
        go_wp2_with (at_builtin; refine wpList_append_k _ rfl _ _ 43 43 rfl _ _ rfl rfl (hap _) ?_)
        exact ⟨⟨k + 1, nv', by omega, by go_num, by go_num, L4⟩, by simp [intOf]; omega⟩
      · have L4 : Hid (∃ L xs, LRel w w3 v' (nv + 1) (k + 1) L xs) := ⟨_, _, by simpa using L3.out⟩
        clear L3
        go_wp2_with (at_builtin; refine wpList_append_k _ rfl _ _ 43 43 rfl _ _ rfl rfl (hap _) ?_)
        exact ⟨⟨k + 1, nv + 1, by omega, by go_num, by go_num, L4⟩, by simp [intOf]; omega⟩
    · obtain rfl : k = N := by omega
      go_wp2_with fail
      refine (replay_any _ _ _ L _ IOq.out OK.out).mono ?_
      rintro e w2 ⟨v2, rfl, hM2, b2⟩
      rw [RP.out] at hM2 ⊢
      obtain ⟨δ, da, dc, rfl, hI2, hS2, hδ⟩ := hM2.formN HX.out
      have C2 : Hid (CRel w w2 (.slice la k lc) (.slice da nv dc) L xs) := by
        obtain ⟨β, g1, g2, g3, -⟩ := HL.out
        refine ⟨β, δ, g1.below b2, g2, hS2, ?_, hB.trans (b2.mono hB.size)⟩
        intro g hg hβ
        have := hδ g hg
        have := g1.lt _ hβ
        omega
      clear hM2 hI2 hS2 hδ b2 HL HB IOq hB
      go_wp2
      go_loopw [12, 13] (fun both i wr => ∃ j : Nat, j ≤ m ∧ i = .int .i64 j ∧ Hid (CRel w wr both (.slice da nv dc) (L ++ os.take j) xs)) (fun _ i _ => m - (intOf i).toNat)
      case atStart => exact ⟨0, Nat.zero_le _, rfl, by simpa using C2⟩
      case round =>
        obtain ⟨j, hj, rfl, hr⟩ := hrel
        clear C2
        have OL := hd E1.out.1
        have HQ : Hid ((L ++ os.take j).length = k + j) := by
          have := OL.out
          have := LK.out
          show _ = _
          simp; omega
        obtain ⟨β, δ, g1, g2, g3, g4, g5⟩ := hr.out
        obtain ⟨qa, qc, rfl, hQO⟩ := g1.formN HQ.out
        have QO := hd hQO
        have B5 := hd g5
        clear g1 g2 g3 g4 hQO
        by_cases hjm : j < m
        · have kx : j < os.length := by have := OL.out; omega
          have HE2 := E1.out.below g5
          obtain ⟨b, off, rfl, hb⟩ := HE2.addr (by omega)
          obtain ⟨e0, e1, e2, e3, e4⟩ := HE2.at j hjm kx
          have i1 : (j : Int) < (m : Int) := by omega
          have TS : Hid (os.take (j + 1) = os.take j ++ [os[j]]) := List.take_succ_eq_append_getElem kx
          generalize os[j] = o at *
          obtain ⟨v', w3, hap, hC3⟩ := hr.out.push o (by have := HQ.out; omega)
          have C3 : Hid (CRel w w3 v' (.slice da nv dc) (L ++ os.take (j + 1)) xs) := by
            rw [TS.out, ← List.append_assoc]
            exact hC3
          obtain ⟨ok, op, oc, ol, oq⟩ := o
          simp only [] at e0 e1 e2 e3 e4
          simp only [opc] at hap
          clear HE2 kx g5 hC3 hr B5 QO TS HQ
          go_wp2_with (at_builtin; refine wpList_append_k _ rfl _ _ 43 43 rfl _ _ rfl rfl (hap _) ?_)
          exact ⟨⟨j + 1, by omega, by go_num, C3⟩, by simp [intOf]; omega⟩
        · obtain rfl : j = m := by omega
          have hall : os.take j = os := List.take_of_length_le (by have := OL.out; omega)
          rw [hall] at hr QO
          have KO : Hid (OkO (L ++ os)) := by
            intro q hq
            rcases List.mem_append.1 hq with hq | hq
            · exact OK.out q hq
            · exact K1.out q hq
          have RO := hd (replayP_on (M := os) RP.out)
          obtain ⟨δ', g6, g7⟩ : ∃ δ', SE wr δ' (.slice da nv dc) xs ∧ True := by
            obtain ⟨β, δ, g1, g2, g3, g4, g5⟩ := hr.out
            exact ⟨δ, g3, trivial⟩
          obtain ⟨da', dc', he, hID, -⟩ := g6.form
          have ID : Hid (IsE wr da nv dc xs) := by
            obtain ⟨rfl, -, rfl⟩ := Value.slice.inj he
            rw [HX.out] at hID
            exact hID
          clear hall hr g6 g7 he hID HQ
          go_wp2_with fail
          refine (replay_any _ _ _ (L ++ os) _ QO.out KO.out).mono ?_
          rintro e w4 ⟨v4, rfl, hM4, b4⟩
          rw [RO.out] at hM4 ⊢
          obtain ⟨R, hR⟩ : ∃ R, R = replayP os xs k := ⟨_, rfl⟩
          rw [← hR] at hM4 ⊢
          obtain ⟨T, M, F⟩ := R
          simp only [] at hM4 ⊢
          obtain ⟨δ4, ta, tc, rfl, hIT, -, -⟩ := hM4.formN rfl
          have IT := hd hIT
          have ID4 := hd (ID.out.below b4)
          have B4 := hd (B5.out.trans (b4.mono B5.out.size))
          have HR : Hid ((T, M, F) = replayP os xs k) := hR
          clear hM4 hIT b4 ID B5 hR g5 QO KO RO
          have S4 : Hid (DRel w w4 (.slice da nv dc) ta tc os k T M F 0) := ⟨xs, da, dc, by rw [HX.out], by rw [HX.out]; exact ID4.out, IT.out, by simpa using HR.out, B4.out⟩
          clear IT ID4 B4 HR
          have OL := hd E1.out.1
          go_wp2
          go_loopw [9, 17] (fun dv i wr => ∃ q : Nat, q ≤ j ∧ i = .int .i64 q ∧ Hid (DRel w wr dv ta tc os k T M F q)) (fun _ i _ => j - (intOf i).toNat)
          case atStart => exact ⟨0, Nat.zero_le _, rfl, S4⟩
          case round =>
            obtain ⟨q, hq, rfl, hr⟩ := hrel
            clear S4
            obtain ⟨ys, ya, yc, rfl, hY, hT, hRR, hB⟩ := hr.out
            have HY := hd hY
            have HT := hd hT
            have HRR := hd hRR
            have HB := hd hB
            clear hr hY hT hRR
            by_cases hqj : q < j
            · have kx : q < os.length := by have := OL.out; omega
              have HE2 := E1.out.below hB
              obtain ⟨b, off, rfl, hb⟩ := HE2.addr (by omega)
              obtain ⟨e0, e1, e2, e3, e4⟩ := HE2.at q hqj kx
              have i1 : (q : Int) < (j : Int) := by omega
              have CK := hd (K1.out os[q] (List.getElem_mem kx))
              have PG : Hid (fitsP ys.length os[q] = 0 → (T, M, F) = replayP (os.drop (q + 1)) (applyP ys os[q]) (k + (q + 1))) := fun h => HRR.out.trans (by rw [replayP_good2 kx h]; rfl)
              have PB : Hid (¬ fitsP ys.length os[q] = 0 → (T, M, F) = (ys, k + q, fitsP ys.length os[q])) := fun h => HRR.out.trans (replayP_bad2 kx h)
              generalize os[q] = o at *
              obtain ⟨ok, op, oc, ol, oq⟩ := o
              simp only [] at e0 e1 e2 e3 e4 CK
              clear HE2 kx hB HRR
              by_cases hf : fitsP ys.length ⟨ok, op, oc, ol, oq⟩ = 0
              · have HF := hd hf
                clear hf PB
                go_wp2_with fail
                refine (apply_good _ _ _ _ _ _ _ _ ys _ HY.out CK.out.1 CK.out.2 HF.out).mono ?_
                rintro e w6 ⟨v6, rfl, hO6, b6⟩
                obtain ⟨g6, c6, -, rfl, hR6⟩ := hO6.form
                have S6 : Hid (DRel w w6 (.slice (some ⟨g6, 0, none⟩) (applyP ys ⟨ok, op, oc, ol, oq⟩).length c6) ta tc os k T M F (q + 1)) := ⟨_, _, _, rfl, hR6.isE, HT.out.below b6, PG.out HF.out, HB.out.trans (b6.mono HB.out.size)⟩
                clear hO6 b6 hR6 PG HY HT HB
                go_wp2
                exact ⟨⟨q + 1, by omega, by go_num, S6⟩, by simp [intOf]; omega⟩
              · have R := PB.out hf
                obtain ⟨e, he⟩ : ∃ e, e = fitsP ys.length ⟨ok, op, oc, ol, oq⟩ := ⟨_, rfl⟩
                rw [← he] at hf R
                have HF : Hid (fitsP ys.length ⟨ok, op, oc, ol, oq⟩ = e) := he.symm
                have hf' : (e != 0) = true := by simpa using hf
                have hF := hd hf
                obtain ⟨rfl, r2⟩ := Prod.mk.inj R
                obtain ⟨rfl, rfl⟩ := Prod.mk.inj r2
                clear hf he PG PB R r2
                go_wp2_with fail
                refine (apply_bad _ _ _ _ _ _ _ _ F _ CK.out.1 CK.out.2 HF.out hF.out).mono ?_
                rintro x w6 ⟨rfl, b6⟩
                have Y6 := hd (HY.out.below b6)
                have T6 := hd (HT.out.below b6)
                have B6 := hd (HB.out.trans (b6.mono HB.out.size))
                clear b6 HY HT HB
                go_wp2_with fail
                refine (same_any _ _ _ _ _ _ T T _ T6.out Y6.out).mono ?_
                rintro e w7 ⟨rfl, m7, rfl⟩
                rw [decide_eq_true rfl]
                have B7 := hd (below_drewN B6.out m7)
                clear Y6 T6 B6
                generalize w6.drewN m7 = w7 at *
                go_wp2
                go_ret
                exact ⟨rfl, B7.out⟩
            · obtain rfl : q = j := by omega
              have R := HRR.out.trans (replayP_end2 OL.out.symm)
              obtain ⟨rfl, r2⟩ := Prod.mk.inj R
              obtain ⟨rfl, rfl⟩ := Prod.mk.inj r2
              clear R r2 HRR hB
              go_wp2_with fail
              refine (same_any _ _ _ _ _ _ T T _ HT.out HY.out).mono ?_
              rintro e w7 ⟨rfl, m7, rfl⟩
              rw [decide_eq_true rfl]
              have B7 := hd (below_drewN HB.out m7)
              clear HY HT HB
              generalize wr.drewN m7 = w7 at *
              go_wp2
              go_ret
              exact ⟨rfl, B7.out⟩

end Go.Proofs.Ytbgpmekjcepmaaa
