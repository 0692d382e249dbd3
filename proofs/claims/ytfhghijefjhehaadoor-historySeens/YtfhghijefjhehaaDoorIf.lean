/-
  The tale: canShow.
-/
import Derived.Test.YtfhghijefjhehaaDoorIe
namespace Go.Proofs.YtfhghijefjhehaaDoor
open Go.RowKit
set_option linter.unusedVariables false

theorem evO_pv (evs : List Ev) (A : Nat → Option Addr) (K : Nat → Nat) (i : Nat) (c : Int) : ∃ pa pc, evO evs A K (shAt evs i c).getLast? = evV (pv evs i c) pa pc := by
  rw [pv_last]
  cases (shAt evs i c).getLast? with
  | none => exact ⟨_, _, rfl⟩
  | some j => exact ⟨A j, K j, by simp [evO, List.getD]⟩
theorem shAt_lt {evs : List Ev} {k j : Nat} {c : Int} (h : j ∈ shAt evs k c) : j < k ∧ ∃ e, evs[j]? = some e ∧ e.site = c := by
  induction k with
  | zero => simp [shAt] at h
  | succ k ih =>
    simp only [shAt, List.mem_append] at h
    rcases h with h | h
    · obtain ⟨a, b⟩ := ih h
      exact ⟨by omega, b⟩
    · cases hk : evs[k]? with
      | none => rw [hk] at h; simp at h
      | some e =>
        rw [hk] at h
        by_cases hc : e.site = c
        · simp [hc] at h
          subst h
          exact ⟨by omega, e, hk, hc⟩
        · simp [hc] at h

section
variable {w : World} {x : Nat} {C : Int} {S : Nat → Ls} {L : Nat → Option Nat}

set_option maxRecDepth 100000 in
set_option maxHeartbeats 8000000 in
theorem canShow_of {aL aE : Option Addr} {nL cL nE cE : Nat} {log : List Ed} {evs : List Ev} {A : Nat → Option Addr} {K : Nat → Nat} (h : TL w x C (.slice aL nL cL) (.slice aE nE cE) S L) (hL : IsL w aL nL log) (hV : IsV w aE nE evs A K) (hS : ∀ c : Nat, c < 65 → S c = .ns (lgAt log log.length c))
    (l : List Nat) (cN : Nat) (hc : cN < 65) (hl : S (65 + cN) = .ns l) (hll : ∀ k ∈ l, k < evs.length) (pst psi pha pma pok pop poc pol pos : Int) (pad : Option Addr) (pnd pcd : Nat) (hp : evO evs A K l.getLast? = .agg #[.int .i64 pst, .int .i64 psi, .int .i64 pha, .int .i64 pma, .int .i64 pok, .int .i64 pop, .int .u8 poc, .int .i64 pol, .int .i64 pos, .slice pad pnd pcd]) (hm : 0 ≤ pma ∧ pma ≤ 9223372036854775800)
    (st ha ma ok op oc ol os : Int) (ad : Option Addr) (nd cd : Nat) (h0 : 0 ≤ oc) (h1 : oc ≤ 255) (G : Prop) (hG : G ↔ ((pha ≤ ha ∧ ha ≤ (nL : Int)) ∧ (((cN : Int) = 0 ∧ ma = 0 ∧ (⟨ok, op, oc, ol, os⟩ : OpE) = zo) ∨ ((cN : Int) ≠ 0 ∧ (⟨ok, op, oc, ol, os⟩ : OpE) ≠ zo ∧ ((ol = (cN : Int) ∧ os = ma ∧ ma = pma + 1 ∧ ha = pha) ∧ chP ⟨ok, op, oc, ol, os⟩ = true ∧ fitsP pnd ⟨ok, op, oc, ol, os⟩ = 0 ∧ asL log ⟨ha, ⟨ok, op, oc, ol, os⟩⟩)) ∨ ((cN : Int) ≠ 0 ∧ (⟨ok, op, oc, ol, os⟩ : OpE) = zo ∧ ma = pma ∧ ¬ unm log (cN : Int) ma ha)))) :
    Calls Tryd.prog 26 #[.pointer (some ⟨x, 0, none⟩), .agg #[.int .i64 st, .int .i64 (cN : Int), .int .i64 ha, .int .i64 ma, .int .i64 ok, .int .i64 op, .int .u8 oc, .int .i64 ol, .int .i64 os, .slice ad nd cd]] w
      fun e w' => ∃ r : Bool, e = .returned (.bool r) ∧ (r = true ↔ G) ∧ Below w.heap.size w w' := by
  have HGd := hd hG
  clear hG
  have hb : Below w.heap.size w (w.alloc (.cells #[.int .i64 st, .int .i64 (cN : Int), .int .i64 ha, .int .i64 ma, .int .i64 ok, .int .i64 op, .int .u8 oc, .int .i64 ol, .int .i64 os, .slice ad nd cd] 50)) := (Below.refl _ _).alloc (Nat.le_refl _) _
  have hE := hd (heap_alloc_new w (.cells #[.int .i64 st, .int .i64 (cN : Int), .int .i64 ha, .int .i64 ma, .int .i64 ok, .int .i64 op, .int .u8 oc, .int .i64 ol, .int .i64 os, .slice ad nd cd] 50))
  have HB := hd hb
  have HT := hd (h.below hb)
  have HL := hd (hL.below hb (Nat.le_refl _))
  have HV := hd (hV.below hb (Nat.le_refl _))
  have CL := hd (last_any (h.below hb) cN hc l hl)
  have CEv := hd (fun W (t : TL W x C (.slice aL nL cL) (.slice aE nE cE) S L) (v : IsV W aE nE evs A K) => event_any t v l.getLast? (fun k hk => hll k (List.mem_of_getLast? hk)))
  have HH := hd (show 0 ≤ oc ∧ oc ≤ 255 from ⟨h0, h1⟩)
  have HS := hd hS
  have HM := hd hm
  have HC := hd hc
  rw [hp] at CEv
  rw [lastP_eq] at CL
  clear hb h hL hV hS hl hll hp h0 h1 hm hc
  generalize l.getLast? = j at *
  generalize oI j = jv' at *
  go_enter Tryd.func26, Tryd.ntmps26
  go_upto_region 1 with fail
  generalize w.alloc (.cells #[.int .i64 st, .int .i64 (cN : Int), .int .i64 ha, .int .i64 ma, .int .i64 ok, .int .i64 op, .int .u8 oc, .int .i64 ol, .int .i64 os, .slice ad nd cd] 50) = w1 at *
  have e1 := cell_row hE.out 1
  simp at e1
  go_wp2_with fail
  refine CL.out.mono ?_
  rintro e u1 ⟨rfl, b1⟩
  clear CL
  have B1 := hd b1
  clear b1
  go_wp2_with fail
  refine (CEv.out _ (HT.out.below B1.out) (HV.out.below B1.out (Nat.le_refl _))).mono ?_
  rintro e u2 ⟨rfl, b2⟩
  have B2 := hd (B1.out.trans (b2.mono B1.out.size))
  clear b2 CEv e1
  have hP := hd (heap_alloc_new u2 (.cells #[.int .i64 pst, .int .i64 psi, .int .i64 pha, .int .i64 pma, .int .i64 pok, .int .i64 pop, .int .u8 poc, .int .i64 pol, .int .i64 pos, .slice pad pnd pcd] 50))
  have hb3 : Hid (Below u2.heap.size u2 (u2.alloc (.cells #[.int .i64 pst, .int .i64 psi, .int .i64 pha, .int .i64 pma, .int .i64 pok, .int .i64 pop, .int .u8 poc, .int .i64 pol, .int .i64 pos, .slice pad pnd pcd] 50))) := (Below.refl _ _).alloc (Nat.le_refl _) _
  go_upto_region 2 with fail
  generalize u2.alloc (.cells #[.int .i64 pst, .int .i64 psi, .int .i64 pha, .int .i64 pma, .int .i64 pok, .int .i64 pop, .int .u8 poc, .int .i64 pol, .int .i64 pos, .slice pad pnd pcd] 50) = w3 at *
  have B3 := hd (B2.out.trans (hb3.out.mono B2.out.size))
  have BZ := hd (HB.out.trans (B3.out.mono HB.out.size))
  have hE3 := hd (block_keep B3.out hE.out (block_lt hE.out))
  have HT3 := hd (HT.out.below B3.out)
  have HL3 := hd (HL.out.below B3.out (Nat.le_refl _))
  clear HB hE B1 B2 hb3 HV HL HT
  have lE := block_lt hE3.out
  have lP := block_lt hP.out
  obtain ⟨-, x1, -⟩ := HT3.out.heads
  have e0 := cell_row hE3.out 0; have e1 := cell_row hE3.out 1; have e2 := cell_row hE3.out 2; have e3 := cell_row hE3.out 3; have e4 := cell_row hE3.out 4; have e5 := cell_row hE3.out 5; have e6 := cell_row hE3.out 6; have e7 := cell_row hE3.out 7; have e8 := cell_row hE3.out 8; have e9 := cell_row hE3.out 9
  simp at e0 e1 e2 e3 e4 e5 e6 e7 e8 e9
  have p0 := cell_row hP.out 0; have p1 := cell_row hP.out 1; have p2 := cell_row hP.out 2; have p3 := cell_row hP.out 3; have p4 := cell_row hP.out 4; have p5 := cell_row hP.out 5; have p6 := cell_row hP.out 6; have p7 := cell_row hP.out 7; have p8 := cell_row hP.out 8; have p9 := cell_row hP.out 9
  simp at p0 p1 p2 p3 p4 p5 p6 p7 p8 p9
  clear B3
  by_cases a5 : ha < pha
  · have HR : Hid (¬ G) := fun h => by have := (HGd.out.1 h).1.1; omega
    clear HGd
    go_quiet (fail)
    go_wp2
    go_ret
    first
      | exact .inl ⟨rfl, HR.out, below_drewN BZ.out _⟩
      | exact ⟨false, rfl, iff_of_false (by decide) HR.out, below_drewN BZ.out _⟩
  · by_cases a6 : (nL : Int) < ha
    · have HR : Hid (¬ G) := fun h => by have := (HGd.out.1 h).1.2; omega
      clear HGd
      go_quiet (fail)
      go_wp2
      go_ret
      first
        | exact .inl ⟨rfl, HR.out, below_drewN BZ.out _⟩
        | exact ⟨false, rfl, iff_of_false (by decide) HR.out, below_drewN BZ.out _⟩
    · have HAB : Hid (pha ≤ ha ∧ ha ≤ (nL : Int)) := ⟨by omega, by omega⟩
      have HO := hd (zoB_iff ⟨ok, op, oc, ol, os⟩)
      have CK := hd (fun W => hmakes_any st (cN : Int) ha ma ok op oc ol os ad nd cd W)
      generalize hzb : zoB ⟨ok, op, oc, ol, os⟩ = zb at HO CK
      clear hzb
      by_cases a7 : cN = 0
      · subst a7
        by_cases a8 : ma = 0
        · subst a8
          go_quiet (fail)
          go_wp2_with fail
          refine (CK.out _).mono ?_
          rintro e u4 ⟨rfl, b4⟩
          have B4 := hd (BZ.out.trans ((below_drewN (Below.refl w3.heap.size w3) _).trans b4 |>.mono BZ.out.size))
          clear b4
          cases zb with
          | true =>
            have YR : Hid G := HGd.out.2 ⟨HAB.out, .inl ⟨by first | trivial | rfl, by first | trivial | rfl, HO.out.1 rfl⟩⟩
            clear HGd HO
            go_wp2
            go_ret
            first
              | exact .inr ⟨rfl, YR.out, B4.out⟩
              | exact ⟨true, rfl, iff_of_true rfl YR.out, B4.out⟩
          | false =>
            have HR : Hid (¬ G) := fun h => by
              rcases (HGd.out.1 h).2 with h | h | h
              · have := HO.out.2 h.2.2; cases this
              · exact h.1 rfl
              · exact h.1 rfl
            clear HGd HO
            go_wp2
            go_ret
            first
              | exact .inl ⟨rfl, HR.out, B4.out⟩
              | exact ⟨false, rfl, iff_of_false (by decide) HR.out, B4.out⟩
        · have HR : Hid (¬ G) := fun h => by
            rcases (HGd.out.1 h).2 with h | h | h
            · exact a8 h.2.1
            · exact h.1 rfl
            · exact h.1 rfl
          have k8 : (ma == 0) = false := by simpa using a8
          clear HGd HO a8
          go_quiet (fail)
          go_wp2
          go_ret
          first
            | exact .inl ⟨rfl, HR.out, below_drewN BZ.out _⟩
            | exact ⟨false, rfl, iff_of_false (by decide) HR.out, below_drewN BZ.out _⟩
      · have k7 : ((cN : Int) == 0) = false := by simp; omega
        have A7 : Hid ((cN : Int) ≠ 0) := by unfold Hid; omega
        clear a7
        go_quiet (fail)
        go_wp2_with fail
        refine (CK.out _).mono ?_
        rintro e u4 ⟨rfl, b4⟩
        have B34 := hd ((below_drewN (Below.refl w3.heap.size w3) _).trans b4)
        have B4 := hd (BZ.out.trans (B34.out.mono BZ.out.size))
        clear b4 CK
        have e0 := (B34.out.cell (p := ⟨w.heap.size, 0, none⟩) lE).trans e0; have e1 := (B34.out.cell (p := ⟨w.heap.size, 1, none⟩) lE).trans e1; have e2 := (B34.out.cell (p := ⟨w.heap.size, 2, none⟩) lE).trans e2; have e3 := (B34.out.cell (p := ⟨w.heap.size, 3, none⟩) lE).trans e3; have e4 := (B34.out.cell (p := ⟨w.heap.size, 4, none⟩) lE).trans e4; have e5 := (B34.out.cell (p := ⟨w.heap.size, 5, none⟩) lE).trans e5; have e6 := (B34.out.cell (p := ⟨w.heap.size, 6, none⟩) lE).trans e6; have e7 := (B34.out.cell (p := ⟨w.heap.size, 7, none⟩) lE).trans e7; have e8 := (B34.out.cell (p := ⟨w.heap.size, 8, none⟩) lE).trans e8; have e9 := (B34.out.cell (p := ⟨w.heap.size, 9, none⟩) lE).trans e9; have p0 := (B34.out.cell (p := ⟨u2.heap.size, 0, none⟩) lP).trans p0; have p1 := (B34.out.cell (p := ⟨u2.heap.size, 1, none⟩) lP).trans p1; have p2 := (B34.out.cell (p := ⟨u2.heap.size, 2, none⟩) lP).trans p2; have p3 := (B34.out.cell (p := ⟨u2.heap.size, 3, none⟩) lP).trans p3; have p4 := (B34.out.cell (p := ⟨u2.heap.size, 4, none⟩) lP).trans p4; have p5 := (B34.out.cell (p := ⟨u2.heap.size, 5, none⟩) lP).trans p5; have p6 := (B34.out.cell (p := ⟨u2.heap.size, 6, none⟩) lP).trans p6; have p7 := (B34.out.cell (p := ⟨u2.heap.size, 7, none⟩) lP).trans p7; have p8 := (B34.out.cell (p := ⟨u2.heap.size, 8, none⟩) lP).trans p8; have p9 := (B34.out.cell (p := ⟨u2.heap.size, 9, none⟩) lP).trans p9
        have HT4 := hd (HT3.out.below B34.out)
        have HL4 := hd (HL3.out.below B34.out (Nat.le_refl _))
        cases zb with
        | false =>
          have CM := hd (fun (R : Prop) hR => canMake_any HT4.out HL4.out HS.out pst psi pha pma pok pop poc pol pos st (cN : Int) ha ma ok op oc ol os pad ad pnd pcd nd cd HH.out.1 HH.out.2 HM.out R hR)
          go_wp2_with fail
          refine (CM.out _ (Iff.refl _)).mono ?_
          rintro e u5 ⟨r, rfl, hr, b5⟩
          have B5 := hd (B4.out.trans (b5.mono B4.out.size))
          have HO2 : Hid (¬ (⟨ok, op, oc, ol, os⟩ : OpE) = zo) := fun h => by have := HO.out.2 h; cases this
          have HR2 : Hid (r = true ↔ G) := by
            rw [Hid, hr, HGd.out]
            constructor
            · intro h
              exact ⟨HAB.out, .inr (.inl ⟨A7.out, HO2.out, h⟩)⟩
            · rintro ⟨-, h | h | h⟩
              · exact absurd h.1 A7.out
              · exact h.2.2
              · exact absurd h.2.1 HO2.out
          clear hr b5 CM HGd HO HO2
          cases r with
          | true =>
            have YR : Hid G := HR2.out.1 rfl
            clear HR2
            go_wp2
            go_ret
            first
              | exact .inr ⟨rfl, YR.out, B5.out⟩
              | exact ⟨true, rfl, iff_of_true rfl YR.out, B5.out⟩
          | false =>
            have HR : Hid (¬ G) := fun h => by have := HR2.out.2 h; cases this
            clear HR2
            go_wp2
            go_ret
            first
              | exact .inl ⟨rfl, HR.out, B5.out⟩
              | exact ⟨false, rfl, iff_of_false (by decide) HR.out, B5.out⟩
        | true =>
          have HO2 : Hid ((⟨ok, op, oc, ol, os⟩ : OpE) = zo) := HO.out.1 rfl
          by_cases a9 : ma = pma
          · subst a9
            obtain ⟨mN, hmN⟩ : ∃ mN : Nat, ma = (mN : Int) := ⟨ma.toNat, by have := HM.out; omega⟩
            subst hmN
            have CU := hd (unmade_any HT4.out st ha ok op oc ol os ad nd cd cN mN HC.out _ (HS.out cN HC.out))
            go_wp2_with fail
            refine CU.out.mono ?_
            rintro e u5 ⟨r, rfl, hr, b5⟩
            have B5 := hd (B4.out.trans (b5.mono B4.out.size))
            have HR2 : Hid (r = false ↔ G) := by
              have hu : r = true ↔ unm log (cN : Int) (mN : Int) ha := by
                rw [hr]
                unfold unm
                constructor
                · rintro ⟨h1, h2⟩
                  exact ⟨mN, h1, rfl, h2⟩
                · rintro ⟨q, h1, h2, h3⟩
                  have : q = mN := by omega
                  subst this
                  exact ⟨h1, h3⟩
              rw [Hid, HGd.out]
              constructor
              · intro h
                refine ⟨HAB.out, .inr (.inr ⟨A7.out, HO2.out, by first | rfl | trivial, fun h2 => ?_⟩)⟩
                rw [hu.2 h2] at h
                cases h
              · rintro ⟨-, h | h | h⟩
                · exact absurd h.1 A7.out
                · exact absurd HO2.out h.2.1
                · cases r with
                  | false => rfl
                  | true => exact absurd (hu.1 rfl) h.2.2.2
            clear hr b5 CU HGd HO HO2
            cases r with
            | false =>
              have YR : Hid G := HR2.out.1 rfl
              clear HR2
              go_wp2
              go_ret
              first
                | exact .inr ⟨rfl, YR.out, B5.out⟩
                | exact ⟨true, rfl, iff_of_true rfl YR.out, B5.out⟩
            | true =>
              have HR : Hid (¬ G) := fun h => by have := HR2.out.2 h; cases this
              clear HR2
              go_wp2
              go_ret
              first
                | exact .inl ⟨rfl, HR.out, B5.out⟩
                | exact ⟨false, rfl, iff_of_false (by decide) HR.out, B5.out⟩
          · have k9 : (ma == pma) = false := by simpa using a9
            have HR : Hid (¬ G) := fun h => by
              rcases (HGd.out.1 h).2 with h | h | h
              · exact absurd h.1 A7.out
              · exact absurd HO2.out h.2.1
              · exact a9 h.2.2.1
            clear HGd HO HO2 a9
            go_wp2
            go_ret
            first
              | exact .inl ⟨rfl, HR.out, B4.out⟩
              | exact ⟨false, rfl, iff_of_false (by decide) HR.out, B4.out⟩
end

end Go.Proofs.YtfhghijefjhehaaDoor
