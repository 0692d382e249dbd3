/-
  Texts put together: If Ik Il In Ja La Lb.
-/
import Derived.Test.YtfhghijefjhehaaGreatDoorIe
import Derived.Test.YtfhghijefjhehaaGreatDoorMIo
import Derived.Test.YtfhghijefjhehaaGreatDoorMHq
import Derived.Test.YtfhghijefjhehaaGreatDoorMIc
/-! If -/
namespace Go.Proofs.YtfhghijefjhehaaGreatDoor
open Go.RowKit
set_option linter.unusedVariables false

theorem evO_pv (evs : List Ev) (A : Nat → Option Addr) (K : Nat → Nat) (i : Nat) (c : Int) : ∃ pa pc, evO evs A K (shAt evs i c).getLast? = evV (pv evs i c) pa pc := by
  rw [pv_last]
  cases (shAt evs i c).getLast? with
  | none => exact ⟨_, _, rfl⟩
  | some j => exact ⟨A j, K j, by simp [evO, List.getD]⟩
theorem shAt_lt {evs : List Ev} {k j : Nat} {c : Int} (h : j ∈ shAt evs k c) : j < k ∧ ∃ e, evs[j]? = some e ∧ e.site = c := by
  induction k with
  | zero => simp [shAt] at h
  | succ k ih =>
    simp only [shAt, List.mem_append] at h
    rcases h with h | h
    · obtain ⟨a, b⟩ := ih h
      exact ⟨by omega, b⟩
    · cases hk : evs[k]? with
      | none => rw [hk] at h; simp at h
      | some e =>
        rw [hk] at h
        by_cases hc : e.site = c
        · simp [hc] at h
          subst h
          exact ⟨by omega, e, hk, hc⟩
        · simp [hc] at h

section
variable {w : World} {x : Nat} {C : Int} {S : Nat → Ls} {L : Nat → Option Nat}

set_option maxRecDepth 100000 in
set_option maxHeartbeats 8000000 in
theorem canShow_of {aL aE : Option Addr} {nL cL nE cE : Nat} {log : List Ed} {evs : List Ev} {A : Nat → Option Addr} {K : Nat → Nat} (h : TL w x C (.slice aL nL cL) (.slice aE nE cE) S L) (hL : IsL w aL nL log) (hV : IsV w aE nE evs A K) (hS : ∀ c : Nat, c < 65 → S c = .ns (lgAt log log.length c))
    (l : List Nat) (cN : Nat) (hc : cN < 65) (hl : S (65 + cN) = .ns l) (hll : ∀ k ∈ l, k < evs.length) (pst psi pha pma pok pop poc pol pos : Int) (pad : Option Addr) (pnd pcd : Nat) (hp : evO evs A K l.getLast? = .agg #[.int .i64 pst, .int .i64 psi, .int .i64 pha, .int .i64 pma, .int .i64 pok, .int .i64 pop, .int .u8 poc, .int .i64 pol, .int .i64 pos, .slice pad pnd pcd]) (hm : 0 ≤ pma ∧ pma ≤ 9223372036854775800)
    (st ha ma ok op oc ol os : Int) (ad : Option Addr) (nd cd : Nat) (h0 : 0 ≤ oc) (h1 : oc ≤ 255) (G : Prop) (hG : G ↔ ((pha ≤ ha ∧ ha ≤ (nL : Int)) ∧ (((cN : Int) = 0 ∧ ma = 0 ∧ (⟨ok, op, oc, ol, os⟩ : OpE) = zo) ∨ ((cN : Int) ≠ 0 ∧ (⟨ok, op, oc, ol, os⟩ : OpE) ≠ zo ∧ ((ol = (cN : Int) ∧ os = ma ∧ ma = pma + 1 ∧ ha = pha) ∧ chP ⟨ok, op, oc, ol, os⟩ = true ∧ fitsP pnd ⟨ok, op, oc, ol, os⟩ = 0 ∧ asL log ⟨ha, ⟨ok, op, oc, ol, os⟩⟩)) ∨ ((cN : Int) ≠ 0 ∧ (⟨ok, op, oc, ol, os⟩ : OpE) = zo ∧ ma = pma ∧ ¬ unm log (cN : Int) ma ha)))) :
    Calls Tryz.prog 44 #[.pointer (some ⟨x, 0, none⟩), .agg #[.int .i64 st, .int .i64 (cN : Int), .int .i64 ha, .int .i64 ma, .int .i64 ok, .int .i64 op, .int .u8 oc, .int .i64 ol, .int .i64 os, .slice ad nd cd]] w
      fun e w' => ∃ r : Bool, e = .returned (.bool r) ∧ (r = true ↔ G) ∧ Below w.heap.size w w' := by
  have HGd := hd hG
  clear hG
  have hb : Below w.heap.size w (w.alloc (.cells #[.int .i64 st, .int .i64 (cN : Int), .int .i64 ha, .int .i64 ma, .int .i64 ok, .int .i64 op, .int .u8 oc, .int .i64 ol, .int .i64 os, .slice ad nd cd] 76)) := (Below.refl _ _).alloc (Nat.le_refl _) _
  have hE := hd (heap_alloc_new w (.cells #[.int .i64 st, .int .i64 (cN : Int), .int .i64 ha, .int .i64 ma, .int .i64 ok, .int .i64 op, .int .u8 oc, .int .i64 ol, .int .i64 os, .slice ad nd cd] 76))
  have HB := hd hb
  have HT := hd (h.below hb)
  have HL := hd (hL.below hb (Nat.le_refl _))
  have HV := hd (hV.below hb (Nat.le_refl _))
  have CL := hd (last_any (h.below hb) cN hc l hl)
  have CEv := hd (fun W (t : TL W x C (.slice aL nL cL) (.slice aE nE cE) S L) (v : IsV W aE nE evs A K) => event_any t v l.getLast? (fun k hk => hll k (List.mem_of_getLast? hk)))
  have HH := hd (show 0 ≤ oc ∧ oc ≤ 255 from ⟨h0, h1⟩)
  have HS := hd hS
  have HM := hd hm
  have HC := hd hc
  rw [hp] at CEv
  rw [lastP_eq] at CL
  clear hb h hL hV hS hl hll hp h0 h1 hm hc
  generalize l.getLast? = j at *
  generalize oI j = jv' at *
  go_enter Tryz.func44, Tryz.ntmps44
  go_upto_region 1 with fail
  generalize w.alloc (.cells #[.int .i64 st, .int .i64 (cN : Int), .int .i64 ha, .int .i64 ma, .int .i64 ok, .int .i64 op, .int .u8 oc, .int .i64 ol, .int .i64 os, .slice ad nd cd] 76) = w1 at *
  have e1 := cell_row hE.out 1
  simp at e1
  go_wp2_with fail
  refine CL.out.mono ?_
  rintro e u1 ⟨rfl, b1⟩
  clear CL
  have B1 := hd b1
  clear b1
  go_wp2_with fail
  refine (CEv.out _ (HT.out.below B1.out) (HV.out.below B1.out (Nat.le_refl _))).mono ?_
  rintro e u2 ⟨rfl, b2⟩
  have B2 := hd (B1.out.trans (b2.mono B1.out.size))
  clear b2 CEv e1
  have hP := hd (heap_alloc_new u2 (.cells #[.int .i64 pst, .int .i64 psi, .int .i64 pha, .int .i64 pma, .int .i64 pok, .int .i64 pop, .int .u8 poc, .int .i64 pol, .int .i64 pos, .slice pad pnd pcd] 76))
  have hb3 : Hid (Below u2.heap.size u2 (u2.alloc (.cells #[.int .i64 pst, .int .i64 psi, .int .i64 pha, .int .i64 pma, .int .i64 pok, .int .i64 pop, .int .u8 poc, .int .i64 pol, .int .i64 pos, .slice pad pnd pcd] 76))) := (Below.refl _ _).alloc (Nat.le_refl _) _
  go_upto_region 2 with fail
  generalize u2.alloc (.cells #[.int .i64 pst, .int .i64 psi, .int .i64 pha, .int .i64 pma, .int .i64 pok, .int .i64 pop, .int .u8 poc, .int .i64 pol, .int .i64 pos, .slice pad pnd pcd] 76) = w3 at *
  have B3 := hd (B2.out.trans (hb3.out.mono B2.out.size))
  have BZ := hd (HB.out.trans (B3.out.mono HB.out.size))
  have hE3 := hd (block_keep B3.out hE.out (block_lt hE.out))
  have HT3 := hd (HT.out.below B3.out)
  have HL3 := hd (HL.out.below B3.out (Nat.le_refl _))
  clear HB hE B1 B2 hb3 HV HL HT
  have lE := block_lt hE3.out
  have lP := block_lt hP.out
  obtain ⟨-, x1, -⟩ := HT3.out.heads
  have e0 := cell_row hE3.out 0; have e1 := cell_row hE3.out 1; have e2 := cell_row hE3.out 2; have e3 := cell_row hE3.out 3; have e4 := cell_row hE3.out 4; have e5 := cell_row hE3.out 5; have e6 := cell_row hE3.out 6; have e7 := cell_row hE3.out 7; have e8 := cell_row hE3.out 8; have e9 := cell_row hE3.out 9
  simp at e0 e1 e2 e3 e4 e5 e6 e7 e8 e9
  have p0 := cell_row hP.out 0; have p1 := cell_row hP.out 1; have p2 := cell_row hP.out 2; have p3 := cell_row hP.out 3; have p4 := cell_row hP.out 4; have p5 := cell_row hP.out 5; have p6 := cell_row hP.out 6; have p7 := cell_row hP.out 7; have p8 := cell_row hP.out 8; have p9 := cell_row hP.out 9
  simp at p0 p1 p2 p3 p4 p5 p6 p7 p8 p9
  clear B3
  by_cases a5 : ha < pha
  · have HR : Hid (¬ G) := fun h => by have := (HGd.out.1 h).1.1; omega
    clear HGd
    go_quiet (fail)
    go_wp2
    go_ret
    first
      | exact .inl ⟨rfl, HR.out, below_drewN BZ.out _⟩
      | exact ⟨false, rfl, iff_of_false (by decide) HR.out, below_drewN BZ.out _⟩
  · by_cases a6 : (nL : Int) < ha
    · have HR : Hid (¬ G) := fun h => by have := (HGd.out.1 h).1.2; omega
      clear HGd
      go_quiet (fail)
      go_wp2
      go_ret
      first
        | exact .inl ⟨rfl, HR.out, below_drewN BZ.out _⟩
        | exact ⟨false, rfl, iff_of_false (by decide) HR.out, below_drewN BZ.out _⟩
    · have HAB : Hid (pha ≤ ha ∧ ha ≤ (nL : Int)) := ⟨by omega, by omega⟩
      have HO := hd (zoB_iff ⟨ok, op, oc, ol, os⟩)
      have CK := hd (fun W => hmakes_any st (cN : Int) ha ma ok op oc ol os ad nd cd W)
      generalize hzb : zoB ⟨ok, op, oc, ol, os⟩ = zb at HO CK
      clear hzb
      by_cases a7 : cN = 0
      · subst a7
        by_cases a8 : ma = 0
        · subst a8
          go_quiet (fail)
          go_wp2_with fail
          refine (CK.out _).mono ?_
          rintro e u4 ⟨rfl, b4⟩
          have B4 := hd (BZ.out.trans ((below_drewN (Below.refl w3.heap.size w3) _).trans b4 |>.mono BZ.out.size))
          clear b4
          cases zb with
          | true =>
            have YR : Hid G := HGd.out.2 ⟨HAB.out, .inl ⟨by first | trivial | rfl, by first | trivial | rfl, HO.out.1 rfl⟩⟩
            clear HGd HO
            go_wp2
            go_ret
            first
              | exact .inr ⟨rfl, YR.out, B4.out⟩
              | exact ⟨true, rfl, iff_of_true rfl YR.out, B4.out⟩
          | false =>
            have HR : Hid (¬ G) := fun h => by
              rcases (HGd.out.1 h).2 with h | h | h
              · have := HO.out.2 h.2.2; cases this
              · exact h.1 rfl
              · exact h.1 rfl
            clear HGd HO
            go_wp2
            go_ret
            first
              | exact .inl ⟨rfl, HR.out, B4.out⟩
              | exact ⟨false, rfl, iff_of_false (by decide) HR.out, B4.out⟩
        · have HR : Hid (¬ G) := fun h => by
            rcases (HGd.out.1 h).2 with h | h | h
            · exact a8 h.2.1
            · exact h.1 rfl
            · exact h.1 rfl
          have k8 : (ma == 0) = false := by simpa using a8
          clear HGd HO a8
          go_quiet (fail)
          go_wp2
          go_ret
          first
            | exact .inl ⟨rfl, HR.out, below_drewN BZ.out _⟩
            | exact ⟨false, rfl, iff_of_false (by decide) HR.out, below_drewN BZ.out _⟩
      · have k7 : ((cN : Int) == 0) = false := by simp; omega
        have A7 : Hid ((cN : Int) ≠ 0) := by unfold Hid; omega
        clear a7
        go_quiet (fail)
        go_wp2_with fail
        refine (CK.out _).mono ?_
        rintro e u4 ⟨rfl, b4⟩
        have B34 := hd ((below_drewN (Below.refl w3.heap.size w3) _).trans b4)
        have B4 := hd (BZ.out.trans (B34.out.mono BZ.out.size))
        clear b4 CK
        have e0 := (B34.out.cell (p := ⟨w.heap.size, 0, none⟩) lE).trans e0; have e1 := (B34.out.cell (p := ⟨w.heap.size, 1, none⟩) lE).trans e1; have e2 := (B34.out.cell (p := ⟨w.heap.size, 2, none⟩) lE).trans e2; have e3 := (B34.out.cell (p := ⟨w.heap.size, 3, none⟩) lE).trans e3; have e4 := (B34.out.cell (p := ⟨w.heap.size, 4, none⟩) lE).trans e4; have e5 := (B34.out.cell (p := ⟨w.heap.size, 5, none⟩) lE).trans e5; have e6 := (B34.out.cell (p := ⟨w.heap.size, 6, none⟩) lE).trans e6; have e7 := (B34.out.cell (p := ⟨w.heap.size, 7, none⟩) lE).trans e7; have e8 := (B34.out.cell (p := ⟨w.heap.size, 8, none⟩) lE).trans e8; have e9 := (B34.out.cell (p := ⟨w.heap.size, 9, none⟩) lE).trans e9; have p0 := (B34.out.cell (p := ⟨u2.heap.size, 0, none⟩) lP).trans p0; have p1 := (B34.out.cell (p := ⟨u2.heap.size, 1, none⟩) lP).trans p1; have p2 := (B34.out.cell (p := ⟨u2.heap.size, 2, none⟩) lP).trans p2; have p3 := (B34.out.cell (p := ⟨u2.heap.size, 3, none⟩) lP).trans p3; have p4 := (B34.out.cell (p := ⟨u2.heap.size, 4, none⟩) lP).trans p4; have p5 := (B34.out.cell (p := ⟨u2.heap.size, 5, none⟩) lP).trans p5; have p6 := (B34.out.cell (p := ⟨u2.heap.size, 6, none⟩) lP).trans p6; have p7 := (B34.out.cell (p := ⟨u2.heap.size, 7, none⟩) lP).trans p7; have p8 := (B34.out.cell (p := ⟨u2.heap.size, 8, none⟩) lP).trans p8; have p9 := (B34.out.cell (p := ⟨u2.heap.size, 9, none⟩) lP).trans p9
        have HT4 := hd (HT3.out.below B34.out)
        have HL4 := hd (HL3.out.below B34.out (Nat.le_refl _))
        cases zb with
        | false =>
          have CM := hd (fun (R : Prop) hR => canMake_any HT4.out HL4.out HS.out pst psi pha pma pok pop poc pol pos st (cN : Int) ha ma ok op oc ol os pad ad pnd pcd nd cd HH.out.1 HH.out.2 HM.out R hR)
          go_wp2_with fail
          refine (CM.out _ (Iff.refl _)).mono ?_
          rintro e u5 ⟨r, rfl, hr, b5⟩
          have B5 := hd (B4.out.trans (b5.mono B4.out.size))
          have HO2 : Hid (¬ (⟨ok, op, oc, ol, os⟩ : OpE) = zo) := fun h => by have := HO.out.2 h; cases this
          have HR2 : Hid (r = true ↔ G) := by
            rw [Hid, hr, HGd.out]
            constructor
            · intro h
              exact ⟨HAB.out, .inr (.inl ⟨A7.out, HO2.out, h⟩)⟩
            · rintro ⟨-, h | h | h⟩
              · exact absurd h.1 A7.out
              · exact h.2.2
              · exact absurd h.2.1 HO2.out
          clear hr b5 CM HGd HO HO2
          cases r with
          | true =>
            have YR : Hid G := HR2.out.1 rfl
            clear HR2
            go_wp2
            go_ret
            first
              | exact .inr ⟨rfl, YR.out, B5.out⟩
              | exact ⟨true, rfl, iff_of_true rfl YR.out, B5.out⟩
          | false =>
            have HR : Hid (¬ G) := fun h => by have := HR2.out.2 h; cases this
            clear HR2
            go_wp2
            go_ret
            first
              | exact .inl ⟨rfl, HR.out, B5.out⟩
              | exact ⟨false, rfl, iff_of_false (by decide) HR.out, B5.out⟩
        | true =>
          have HO2 : Hid ((⟨ok, op, oc, ol, os⟩ : OpE) = zo) := HO.out.1 rfl
          by_cases a9 : ma = pma
          · subst a9
            obtain ⟨mN, hmN⟩ : ∃ mN : Nat, ma = (mN : Int) := ⟨ma.toNat, by have := HM.out; omega⟩
            subst hmN
            have CU := hd (unmade_any HT4.out st ha ok op oc ol os ad nd cd cN mN HC.out _ (HS.out cN HC.out))
            go_wp2_with fail
            refine CU.out.mono ?_
            rintro e u5 ⟨r, rfl, hr, b5⟩
            have B5 := hd (B4.out.trans (b5.mono B4.out.size))
            have HR2 : Hid (r = false ↔ G) := by
              have hu : r = true ↔ unm log (cN : Int) (mN : Int) ha := by
                rw [hr]
                unfold unm
                constructor
                · rintro ⟨h1, h2⟩
                  exact ⟨mN, h1, rfl, h2⟩
                · rintro ⟨q, h1, h2, h3⟩
                  have : q = mN := by omega
                  subst this
                  exact ⟨h1, h3⟩
              rw [Hid, HGd.out]
              constructor
              · intro h
                refine ⟨HAB.out, .inr (.inr ⟨A7.out, HO2.out, by first | rfl | trivial, fun h2 => ?_⟩)⟩
                rw [hu.2 h2] at h
                cases h
              · rintro ⟨-, h | h | h⟩
                · exact absurd h.1 A7.out
                · exact absurd HO2.out h.2.1
                · cases r with
                  | false => rfl
                  | true => exact absurd (hu.1 rfl) h.2.2.2
            clear hr b5 CU HGd HO HO2
            cases r with
            | false =>
              have YR : Hid G := HR2.out.1 rfl
              clear HR2
              go_wp2
              go_ret
              first
                | exact .inr ⟨rfl, YR.out, B5.out⟩
                | exact ⟨true, rfl, iff_of_true rfl YR.out, B5.out⟩
            | true =>
              have HR : Hid (¬ G) := fun h => by have := HR2.out.2 h; cases this
              clear HR2
              go_wp2
              go_ret
              first
                | exact .inl ⟨rfl, HR.out, B5.out⟩
                | exact ⟨false, rfl, iff_of_false (by decide) HR.out, B5.out⟩
          · have k9 : (ma == pma) = false := by simpa using a9
            have HR : Hid (¬ G) := fun h => by
              rcases (HGd.out.1 h).2 with h | h | h
              · exact absurd h.1 A7.out
              · exact absurd HO2.out h.2.1
              · exact a9 h.2.2.1
            clear HGd HO HO2 a9
            go_wp2
            go_ret
            first
              | exact .inl ⟨rfl, HR.out, B4.out⟩
              | exact ⟨false, rfl, iff_of_false (by decide) HR.out, B4.out⟩
end

end Go.Proofs.YtfhghijefjhehaaGreatDoor

/-! Ik -/
namespace Go.Proofs.YtfhghijefjhehaaGreatDoor
open Go.RowKit
set_option linter.unusedVariables false

/-- What an append leaves, seen from u. -/
def PP {α : Type} (f : α → List Value) (k : Nat) (e : TypeId) (u : World) (β : Option Nat) (xs : List α) (v : Value) (u' : World) : Prop := ∃ w1, Below u.heap.size u w1 ∧ NowF f k w1 u' e β v xs

section
variable {α : Type} {f : α → List Value} {k : Nat} {e : TypeId} {u u' : World} {β : Option Nat} {xs : List α} {v : Value}
theorem PP.block (h : PP f k e u β xs v u') {b : Nat} (hb : b < u.heap.size) (hn : β ≠ some b) : u'.heap[b]? = u.heap[b]? := by
  obtain ⟨w1, hB, g', -, hN⟩ := h
  have h1 := hB.block b hb
  have hb1 : b < w1.heap.size := Nat.lt_of_lt_of_le hb hB.size
  rcases hN with ⟨a, hF⟩ | ⟨a, hF⟩
  · exact (hF.block b hb1 (fun e => hn (by rw [e]; exact a))).trans h1
  · exact (hF.block b hb1 (fun e => e)).trans h1
theorem PP.cell (h : PP f k e u β xs v u') {p : Addr} {y : Value} (hb : p.block < u.heap.size) (hn : β ≠ some p.block) (hy : u.cell? p = some y) : u'.cell? p = some y := (World.cell?_of_block (h.block hb hn)).trans hy
theorem PP.form (h : PP f k e u β xs v u') : ∃ A n c, v = .slice A n c := by
  obtain ⟨w1, hB, g', hs, hN⟩ := h
  obtain ⟨A, c, rfl, -, -⟩ := SF.form hs
  exact ⟨_, _, _, rfl⟩
theorem PP.run (hz : Sz f k) {P : Program} (t : TypeId) (i : TypeInfo) (z : Value) (bytes : Nat) (ht : P.underlying t = some (.slice e)) (hi : P.info? e = some i) (hzo : i.zero = some z) (hsz : i.size = k) (hzs : z.cells.size = k) (hby : i.bytes = bytes) {xs : List α} {vo : Value} (hv : SF f k u e β vo xs) (y : α) {u1 : World} (hB : Below u.heap.size u u1) {g : Nat}
    (hg : u1.heap[g]? = some (.cells (f y).toArray e (0, 0))) (hb : ((xs.length + 1) + (xs.length + 1) / 4 + 192) * bytes ≤ 281474976710656) (hk : 0 < bytes) :
    ∃ v' u', (∀ ty, (Builtin.append_ #[t, t] ty #[vo, .slice (some ⟨g, 0, none⟩) 1 1]).run P u1 = .ok v' u') ∧ PP f k e u β (xs ++ [y]) v' u' := by
  have hv1 : SF f k u1 e β vo xs := hv.fr (S := fun _ => False) (Fr.of_below hB) (fun _ _ h => h)
  have h63 : xs.length + 1 ≤ 9223372036854775807 := by
    have : xs.length + 1 ≤ ((xs.length + 1) + (xs.length + 1) / 4 + 192) * bytes := Nat.le_trans (by omega) (Nat.le_mul_of_pos_right _ hk)
    omega
  have key : ∀ ty, ∃ v' w', (Builtin.append_ #[t, t] ty #[vo, .slice (some ⟨g, 0, none⟩) 1 1]).run P u1 = .ok v' w' ∧ NowF f k u1 w' e β v' (xs ++ [y]) := fun ty =>
    run_pushF hz u1 t ty e i z bytes ht hi hzo hsz hzs hby β vo xs hv1 ⟨g, 0, none⟩ 1 1 [y] rfl (fun j v hj => by
      rw [cl_one] at hj
      rw [add_lit, cell_row hg, Nat.zero_add]
      simpa using hj) (by omega) h63 hb
  obtain ⟨v', w', hr, hN⟩ := key 0
  refine ⟨v', w', fun ty => ?_, u1, hB, hN⟩
  obtain ⟨v2, w2, hr2, -⟩ := key ty
  have : (Builtin.append_ #[t, t] ty #[vo, .slice (some ⟨g, 0, none⟩) 1 1]).run P u1 = (Builtin.append_ #[t, t] 0 #[vo, .slice (some ⟨g, 0, none⟩) 1 1]).run P u1 := rfl
  rw [this]
  exact hr
end

section
variable {w : World} {x : Nat} {C : Int} {vL vE : Value} {S : Nat → Ls} {L : Nat → Option Nat}
theorem TL.pushN (h : TL w x C vL vE S L) {i : Nat} (hi : i < 195) {l : List Nat} {v : Value} {u' : World} (hP : PP nic 1 3 w (L i) l v u') : ∃ g', TL (u'.setCell ⟨x, 3 + i, none⟩ v) x C vL vE (upd S i (.ns l)) (upd L i (some g')) ∧ Fr (fun k => x ≤ k) w (u'.setCell ⟨x, 3 + i, none⟩ v) := by
  obtain ⟨w1, hB, g', hs, hN⟩ := hP
  obtain ⟨h1, h2, -⟩ := h.put hB hi (s' := .ns l) hs hN
  refine ⟨_, h1, h2.mono fun k _ hk => ?_⟩
  rcases hk with rfl | hk
  · exact Nat.le_refl _
  · exact Nat.le_of_lt (h.far i k hi hk)
theorem TL.pushD (h : TL w x C vL vE S L) {i : Nat} (hi : i < 195) {l : List Dd} {v : Value} {u' : World} (hP : PP ddc 9 143 w (L i) l v u') : ∃ g', TL (u'.setCell ⟨x, 3 + i, none⟩ v) x C vL vE (upd S i (.ds l)) (upd L i (some g')) ∧ Fr (fun k => x ≤ k) w (u'.setCell ⟨x, 3 + i, none⟩ v) := by
  obtain ⟨w1, hB, g', hs, hN⟩ := hP
  obtain ⟨h1, h2, -⟩ := h.put hB hi (s' := .ds l) hs hN
  refine ⟨_, h1, h2.mono fun k _ hk => ?_⟩
  rcases hk with rfl | hk
  · exact Nat.le_refl _
  · exact Nat.le_of_lt (h.far i k hi hk)
/-- A block that is no row of the tale. -/
theorem TL.not_row (h : TL w x C vL vE S L) {i b : Nat} (hi : i < 195) (hb : w.heap.size ≤ b) : L i ≠ some b := fun e => by have := h.old hi e; omega
theorem TL.not_x (h : TL w x C vL vE S L) {i : Nat} (hi : i < 195) : L i ≠ some x := fun e => by have := h.far i x hi e; omega
end

theorem Tryz.infoI : (Tryz.prog.info? 3).map (fun i => (i.zero, i.size, i.bytes)) = some (some (.int .i64 0), 1, 8) := by kernel_rfl
theorem Tryz.infoDd : (Tryz.prog.info? 143).map (fun i => (i.zero, i.size, i.bytes)) = some (some (.agg #[.int .i64 0, .int .i64 0, .int .i64 0, .int .u8 0, .int .i64 0, .int .i64 0, .int .u8 0, .int .i64 0, .int .i64 0]), 9, 72) := by kernel_rfl

theorem run_ints {u : World} {β : Option Nat} {l : List Nat} {vo : Value} (hv : SF nic 1 u 3 β vo l) (y : Nat) {u1 : World} (hB : Below u.heap.size u u1) {g : Nat} (hg : u1.heap[g]? = some (.cells #[.int .i64 (y : Int)] 3 (0, 0))) (hb : l.length ≤ 17592186044416) :
    ∃ v' u', (∀ ty, (Builtin.append_ #[26, 26] ty #[vo, .slice (some ⟨g, 0, none⟩) 1 1]).run Tryz.prog u1 = .ok v' u') ∧ PP nic 1 3 u β (l ++ [y]) v' u' := by
  cases hq : Tryz.prog.info? 3 with
  | none => have := Tryz.infoI; rw [hq] at this; cases this
  | some i =>
    have h := Tryz.infoI
    rw [hq] at h
    simp only [Option.map_some, Option.some.injEq, Prod.mk.injEq] at h
    exact PP.run szN 26 i _ 8 Tryz.underlying26 hq h.1 h.2.1 (by rfl) h.2.2 hv y hB hg (by omega) (by omega)
theorem run_deeds {u : World} {β : Option Nat} {l : List Dd} {vo : Value} (hv : SF ddc 9 u 143 β vo l) (y : Dd) {u1 : World} (hB : Below u.heap.size u u1) {g : Nat} (hg : u1.heap[g]? = some (.cells (ddc y).toArray 143 (0, 0))) (hb : l.length ≤ 2199023255552) :
    ∃ v' u', (∀ ty, (Builtin.append_ #[114, 114] ty #[vo, .slice (some ⟨g, 0, none⟩) 1 1]).run Tryz.prog u1 = .ok v' u') ∧ PP ddc 9 143 u β (l ++ [y]) v' u' := by
  cases hq : Tryz.prog.info? 143 with
  | none => have := Tryz.infoDd; rw [hq] at this; cases this
  | some i =>
    have h := Tryz.infoDd
    rw [hq] at h
    simp only [Option.map_some, Option.some.injEq, Prod.mk.injEq] at h
    exact PP.run szD 114 i _ 72 Tryz.underlying114 hq h.1 h.2.1 (by rfl) h.2.2 hv y hB hg (by omega) (by omega)

end Go.Proofs.YtfhghijefjhehaaGreatDoor

/-! Il -/
namespace Go.Proofs.YtfhghijefjhehaaGreatDoor
open Go.RowKit
set_option linter.unusedVariables false

theorem set3 (u : World) (g : Nat) (a b c : Value) : Fr (fun k => k = g) u (((u.setCell ⟨g, 6, none⟩ a).setCell ⟨g, 7, none⟩ b).setCell ⟨g, 8, none⟩ c) := by
  have h1 : Fr (fun k => k = g) u (u.setCell ⟨g, 6, none⟩ a) := Fr.setCell _ _ _ rfl
  have h2 : Fr (fun k => k = g) (u.setCell ⟨g, 6, none⟩ a) ((u.setCell ⟨g, 6, none⟩ a).setCell ⟨g, 7, none⟩ b) := Fr.setCell _ _ _ rfl
  have h3 : Fr (fun k => k = g) ((u.setCell ⟨g, 6, none⟩ a).setCell ⟨g, 7, none⟩ b) (((u.setCell ⟨g, 6, none⟩ a).setCell ⟨g, 7, none⟩ b).setCell ⟨g, 8, none⟩ c) := Fr.setCell _ _ _ rfl
  exact (h1.trans h2).trans h3
theorem set3_row {u : World} {g : Nat} {t : TypeId} {v0 v1 v2 v3 v4 v5 v6 v7 v8 : Value} (h : u.heap[g]? = some (.cells #[v0, v1, v2, v3, v4, v5, v6, v7, v8] t (0, 0))) (a b c : Value) : (((u.setCell ⟨g, 6, none⟩ a).setCell ⟨g, 7, none⟩ b).setCell ⟨g, 8, none⟩ c).heap[g]? = some (.cells #[v0, v1, v2, v3, v4, v5, a, b, c] t (0, 0)) := by
  have := set_row (set_row (set_row h 6 a) 7 b) 8 c
  simpa using this

def El := Int × Int × Int

/-- The texts of the events. -/
def IsX (w : World) (evs : List Ev) (A : Nat → Option Addr) (D : Nat → List El) : Prop := ∀ j (h : j < evs.length), (D j).length = evs[j].len ∧ (0 < (D j).length → ∃ b off, A j = some ⟨b, off, none⟩ ∧ b < w.heap.size ∧ ∀ q (hq : q < (D j).length), w.cell? ⟨b, off + q * 3, none⟩ = some (.int .u8 (D j)[q].1) ∧ w.cell? ⟨b, off + q * 3 + 1, none⟩ = some (.int .i64 (D j)[q].2.1) ∧ w.cell? ⟨b, off + q * 3 + 2, none⟩ = some (.int .i64 (D j)[q].2.2))
theorem IsX.below {w w' : World} {evs : List Ev} {A : Nat → Option Addr} {D : Nat → List El} {B : Nat} (h : IsX w evs A D) (hb : Below B w w') (hB : w.heap.size ≤ B) : IsX w' evs A D := by
  intro j hj
  obtain ⟨h1, h2⟩ := h j hj
  refine ⟨h1, fun hl => ?_⟩
  obtain ⟨b, off, e, hlt, hc⟩ := h2 hl
  refine ⟨b, off, e, Nat.lt_of_lt_of_le hlt hb.size, fun q hq => ?_⟩
  have k : ∀ m, w'.cell? ⟨b, m, none⟩ = w.cell? ⟨b, m, none⟩ := fun m => hb.cell (p := ⟨b, m, none⟩) (show b < B by omega)
  simp only [k]
  exact hc q hq

section
variable {w : World} {x : Nat} {C : Int} {vL vE : Value} {S : Nat → Ls} {L : Nat → Option Nat}

set_option maxRecDepth 100000 in
set_option maxHeartbeats 8000000 in
theorem show_idle (h : TL w x C vL vE S L) (i cN : Nat) (hc : cN < 65) (l : List Nat) (hl : S (65 + cN) = .ns l) (hbd : l.length ≤ 17592186044416) (st ha ma : Int) (ad : Option Addr) (nd cd : Nat) :
    Calls Tryz.prog 45 #[.pointer (some ⟨x, 0, none⟩), .int .i64 i, .agg #[.int .i64 st, .int .i64 (cN : Int), .int .i64 ha, .int .i64 ma, .int .i64 0, .int .i64 0, .int .u8 0, .int .i64 0, .int .i64 0, .slice ad nd cd]] w fun e w' => e = .returned (.tuple #[]) ∧ (∃ L', TL w' x C vL vE (upd S (65 + cN) (.ns (l ++ [i]))) L') ∧ Fr (fun k => x ≤ k) w w' := by
  have hb : Below w.heap.size w (w.alloc (.cells #[.int .i64 st, .int .i64 (cN : Int), .int .i64 ha, .int .i64 ma, .int .i64 0, .int .i64 0, .int .u8 0, .int .i64 0, .int .i64 0, .slice ad nd cd] 76)) := (Below.refl _ _).alloc (Nat.le_refl _) _
  have hE := hd (heap_alloc_new w (.cells #[.int .i64 st, .int .i64 (cN : Int), .int .i64 ha, .int .i64 ma, .int .i64 0, .int .i64 0, .int .u8 0, .int .i64 0, .int .i64 0, .slice ad nd cd] 76))
  have HB := hd hb
  have HT := hd (h.below hb)
  have NR := hd (fun j (hj : j < 195) => h.not_row (b := w.heap.size) hj (Nat.le_refl _))
  have HSL := hd hl
  have HBD := hd hbd
  have HXl := hd h.lt
  have CK := hd (fun W => hmakes_any st (cN : Int) ha ma 0 0 0 0 0 ad nd cd W)
  clear hb h hl hbd
  have c65 : (cN : Int) < 65 := by omega
  go_enter Tryz.func45, Tryz.ntmps45
  go_upto_region 1 with fail
  generalize w.alloc (.cells #[.int .i64 st, .int .i64 (cN : Int), .int .i64 ha, .int .i64 ma, .int .i64 0, .int .i64 0, .int .u8 0, .int .i64 0, .int .i64 0, .slice ad nd cd] 76) = w1 at *
  have e0 := cell_row hE.out 0; have e1 := cell_row hE.out 1; have e2 := cell_row hE.out 2; have e3 := cell_row hE.out 3; have e4 := cell_row hE.out 4; have e5 := cell_row hE.out 5; have e6 := cell_row hE.out 6; have e7 := cell_row hE.out 7; have e8 := cell_row hE.out 8; have e9 := cell_row hE.out 9
  simp at e0 e1 e2 e3 e4 e5 e6 e7 e8 e9
  have lE := block_lt hE.out
  go_wp2_with fail
  refine (CK.out _).mono ?_
  rintro e u ⟨rfl, bu⟩
  have HTu := hd (HT.out.below bu)
  have BU := hd (HB.out.trans (bu.mono HB.out.size))
  have k1 := (bu.cell (p := ⟨w.heap.size, 1, none⟩) lE).trans e1
  have lu := Nat.lt_of_lt_of_le lE bu.size
  have hzz : zoB ⟨0, 0, 0, 0, 0⟩ = true := rfl
  rw [hzz]
  simp only [Bool.not_true]
  clear bu HT hE CK
  go_upto_region 6 with fail
  obtain ⟨v, hv, hs⟩ := HTu.out.slot (65 + cN) (by omega)
  rw [show 3 + (65 + cN) = 68 + cN from by omega] at hv
  rw [HSL.out] at hs
  obtain ⟨oa, oc', rfl, -, -⟩ := SF.form hs
  have HSF := hd hs
  have HV := hd hv
  clear hs hv
  refine pushS _ _ x w.heap.size cN l.length oc' oa i rfl rfl rfl (by simp) c65 (PP nic 1 3 u (L (65 + cN)) (l ++ [i])) (fun u1 hB => ⟨(hB.cell (p := ⟨w.heap.size, 1, none⟩) lu).trans k1, (hB.cell (p := ⟨x, 68 + cN, none⟩) HTu.out.lt).trans HV.out⟩) (fun v u1 hP => ⟨hP.cell (p := ⟨w.heap.size, 1, none⟩) lu (NR.out _ (by omega)) k1, hP.cell (p := ⟨x, 68 + cN, none⟩) HTu.out.lt (HTu.out.not_x (by omega)) HV.out⟩) (fun u1 g hB hg => run_ints HSF.out i hB hg HBD.out) (fun v u1 hP => ⟨hP.form, by
    obtain ⟨cur, hh, -⟩ := HTu.out.blk
    exact frozen_row ((hP.block HTu.out.lt (HTu.out.not_x (by omega))).trans hh) _⟩) ?_
  intro V' v' u1 hP
  have HP := hd (HTu.out.pushN (by omega) hP)
  rw [show 3 + (65 + cN) = 68 + cN from by omega] at HP
  clear hP
  simp only [slpushS, List.getD_cons_zero, List.getD_cons_succ, List.range, List.range.loop, List.map_cons, List.map_nil, puts, List.foldl_cons, List.foldl_nil, Act.put, List.setIfInBounds_toArray, List.set_cons_succ, List.set_cons_zero]
  go_wp2
  (try simp only [Exit.inBlock, Exit.then])
  refine bodyPost_end (results_none rfl _ _ _) rfl ?_
  obtain ⟨g', h1, h2⟩ := HP.out
  exact ⟨rfl, ⟨_, h1⟩, (Fr.of_below (S := fun k => x ≤ k) BU.out).trans h2⟩

set_option maxRecDepth 100000 in
set_option maxHeartbeats 8000000 in
theorem show_made {aE : Option Addr} {nE cE : Nat} {evs : List Ev} {A : Nat → Option Addr} {K : Nat → Nat} {D : Nat → List El} (h : TL w x C vL (.slice aE nE cE) S L) (hV : IsV w aE nE evs A K) (hX : IsX w evs A D) (i cN : Nat) (hc : cN < 65) (l : List Nat) (hl : S (65 + cN) = .ns l) (hbd : l.length ≤ 17592186044416) (d : List Dd) (hdl : S (130 + cN) = .ds d) (hdb : d.length ≤ 2199023255552) (hll : ∀ k ∈ l, k < evs.length)
    (st ha ma ok op oc ol os : Int) (ad : Option Addr) (nd cd : Nat) (hno : zoB ⟨ok, op, oc, ol, os⟩ = false) (ec el es : Int) (hel : (ok = 2 ∧ ∃ j pN, l.getLast? = some j ∧ op = ((pN : Nat) : Int) ∧ (D j)[pN]? = some (ec, el, es)) ∨ (ok ≠ 2 ∧ ec = oc ∧ el = ol ∧ es = os)) :
    Calls Tryz.prog 45 #[.pointer (some ⟨x, 0, none⟩), .int .i64 i, .agg #[.int .i64 st, .int .i64 (cN : Int), .int .i64 ha, .int .i64 ma, .int .i64 ok, .int .i64 op, .int .u8 oc, .int .i64 ol, .int .i64 os, .slice ad nd cd]] w fun e w' => e = .returned (.tuple #[]) ∧ (∃ L', TL w' x C vL (.slice aE nE cE) (upd (upd S (130 + cN) (.ds (d ++ [⟨⟨ha, ⟨ok, op, oc, ol, os⟩⟩, ec, el, es⟩]))) (65 + cN) (.ns (l ++ [i]))) L') ∧ Fr (fun k => x ≤ k) w w' := by
  have hb : Below w.heap.size w (w.alloc (.cells #[.int .i64 st, .int .i64 (cN : Int), .int .i64 ha, .int .i64 ma, .int .i64 ok, .int .i64 op, .int .u8 oc, .int .i64 ol, .int .i64 os, .slice ad nd cd] 76)) := (Below.refl _ _).alloc (Nat.le_refl _) _
  have hE := hd (heap_alloc_new w (.cells #[.int .i64 st, .int .i64 (cN : Int), .int .i64 ha, .int .i64 ma, .int .i64 ok, .int .i64 op, .int .u8 oc, .int .i64 ol, .int .i64 os, .slice ad nd cd] 76))
  have HB := hd hb
  have HT := hd (h.below hb)
  have NR := hd (fun j (hj : j < 195) => h.not_row (b := w.heap.size) hj (Nat.le_refl _))
  have NRW := hd (fun j b (hj : j < 195) (hb : w.heap.size ≤ b) => h.not_row (b := b) hj hb)
  have HSL : Hid ((upd S (130 + cN) (.ds (d ++ [⟨⟨ha, ⟨ok, op, oc, ol, os⟩⟩, ec, el, es⟩]))) (65 + cN) = .ns l) := by
    unfold Hid
    rw [upd_ne _ _ (by omega)]
    exact hl
  have HSl := hd hl
  have HSD := hd hdl
  have HBD := hd hbd
  have HDB := hd hdb
  have HLL := hd hll
  have HEL := hd hel
  have HC := hd hc
  have HVw := hd hV
  have HXw := hd hX
  have HXl := hd h.lt
  have CK := hd (fun W => hmakes_any st (cN : Int) ha ma ok op oc ol os ad nd cd W)
  have CE := hd (fun W => editOf_any st (cN : Int) ha ma ok op oc ol os ad nd cd W)
  have CLm := hd (fun W => elemOf_any ok op oc ol os W)
  clear hb h hl hbd hdl hdb hll hel hV hX
  have c65 : (cN : Int) < 65 := by omega
  go_enter Tryz.func45, Tryz.ntmps45
  go_upto_region 1 with fail
  generalize w.alloc (.cells #[.int .i64 st, .int .i64 (cN : Int), .int .i64 ha, .int .i64 ma, .int .i64 ok, .int .i64 op, .int .u8 oc, .int .i64 ol, .int .i64 os, .slice ad nd cd] 76) = w1 at *
  have e0 := cell_row hE.out 0; have e1 := cell_row hE.out 1; have e2 := cell_row hE.out 2; have e3 := cell_row hE.out 3; have e4 := cell_row hE.out 4; have e5 := cell_row hE.out 5; have e6 := cell_row hE.out 6; have e7 := cell_row hE.out 7; have e8 := cell_row hE.out 8; have e9 := cell_row hE.out 9
  simp at e0 e1 e2 e3 e4 e5 e6 e7 e8 e9
  have lE := block_lt hE.out
  go_wp2_with fail
  refine (CK.out _).mono ?_
  rintro e u ⟨rfl, bu⟩
  have BU1 := hd bu
  have HTu := hd (HT.out.below bu)
  have BU := hd (HB.out.trans (bu.mono HB.out.size))
  have k0 := (bu.cell (p := ⟨w.heap.size, 0, none⟩) lE).trans e0; have k1 := (bu.cell (p := ⟨w.heap.size, 1, none⟩) lE).trans e1; have k2 := (bu.cell (p := ⟨w.heap.size, 2, none⟩) lE).trans e2; have k3 := (bu.cell (p := ⟨w.heap.size, 3, none⟩) lE).trans e3; have k4 := (bu.cell (p := ⟨w.heap.size, 4, none⟩) lE).trans e4; have k5 := (bu.cell (p := ⟨w.heap.size, 5, none⟩) lE).trans e5; have k6 := (bu.cell (p := ⟨w.heap.size, 6, none⟩) lE).trans e6; have k7 := (bu.cell (p := ⟨w.heap.size, 7, none⟩) lE).trans e7; have k8 := (bu.cell (p := ⟨w.heap.size, 8, none⟩) lE).trans e8; have k9 := (bu.cell (p := ⟨w.heap.size, 9, none⟩) lE).trans e9
  clear e0 e1 e2 e3 e4 e5 e6 e7 e8 e9
  have lu := Nat.lt_of_lt_of_le lE bu.size
  rw [hno]
  simp only [Bool.not_false]
  clear bu HT hE CK hno BU1
  go_upto_region 2 with fail
  refine layD _ _ w.heap.size st (cN : Int) ha ma ok op oc ol os ad nd cd rfl (by simp) lu k0 k1 k2 k3 k4 k5 k6 k7 k8 k9 CE.out CLm.out ?_
  intro V2 u2 g hv hg hD hB2
  simp only [sllayD, List.getD_cons_zero, List.getD_cons_succ, List.range, List.range.loop, List.map_cons, List.map_nil, puts, List.foldl_cons, List.foldl_nil, Act.put, List.setIfInBounds_toArray, List.set_cons_succ, List.set_cons_zero]
  rw [hv]
  have HT2 := hd (HTu.out.below hB2)
  have B2 := hd (BU.out.trans (hB2.mono BU.out.size))
  have HD := hd hD
  have lg := block_lt hD
  have HG := hd (show w.heap.size < g from Nat.lt_of_lt_of_le lu hg)
  have k0 := (hB2.cell (p := ⟨w.heap.size, 0, none⟩) lu).trans k0; have k1 := (hB2.cell (p := ⟨w.heap.size, 1, none⟩) lu).trans k1; have k2 := (hB2.cell (p := ⟨w.heap.size, 2, none⟩) lu).trans k2; have k3 := (hB2.cell (p := ⟨w.heap.size, 3, none⟩) lu).trans k3; have k4 := (hB2.cell (p := ⟨w.heap.size, 4, none⟩) lu).trans k4; have k5 := (hB2.cell (p := ⟨w.heap.size, 5, none⟩) lu).trans k5; have k6 := (hB2.cell (p := ⟨w.heap.size, 6, none⟩) lu).trans k6; have k7 := (hB2.cell (p := ⟨w.heap.size, 7, none⟩) lu).trans k7; have k8 := (hB2.cell (p := ⟨w.heap.size, 8, none⟩) lu).trans k8; have k9 := (hB2.cell (p := ⟨w.heap.size, 9, none⟩) lu).trans k9
  have lu2 := Nat.lt_of_lt_of_le lu hB2.size
  have xg : Hid (x < g ∧ x < u2.heap.size) := ⟨Nat.lt_of_lt_of_le HTu.out.lt hg, HT2.out.lt⟩
  have RG : Hid (∀ j, j < 195 → L j ≠ some g) := fun j hj => NRW.out j g hj (Nat.le_of_lt HG.out)
  clear hD hB2 hv hg HTu BU CE CLm
  rcases HEL.out with ⟨hk, j, pN, hj, rfl, hp⟩ | ⟨hk, rfl, rfl, rfl⟩
  · subst hk
    have hjl := HLL.out j (List.mem_of_getLast? hj)
    obtain ⟨hpl, hpe⟩ := List.getElem?_eq_some_iff.1 hp
    obtain ⟨hx1, hx2⟩ := HXw.out j hjl
    obtain ⟨bp, po, hA, hbl, hcells⟩ := hx2 (by omega)
    obtain ⟨m0, m1, m2⟩ := hcells pN hpl
    rw [hpe] at m0 m1 m2
    simp only at m0 m1 m2
    have m0 := (B2.out.cell (p := ⟨bp, po + pN * 3, none⟩) hbl).trans m0
    have m1 := (B2.out.cell (p := ⟨bp, po + pN * 3 + 1, none⟩) hbl).trans m1
    have m2 := (B2.out.cell (p := ⟨bp, po + pN * 3 + 2, none⟩) hbl).trans m2
    have hpn : (pN : Int) < (evs[j].len : Int) := by omega
    have hlv : lastP l = (j : Int) := by unfold lastP; rw [hj]
    have hev : evO evs A K (some j) = evV evs[j] (A j) (K j) := by simp [evO, List.getD, List.getElem?_eq_getElem hjl]
    have CLt := hd (fun U (hB : Below u2.heap.size u2 U) => hlv ▸ last_any (HT2.out.below hB) cN HC.out l HSl.out)
    have CEv := hd (fun U (hB : Below u2.heap.size u2 U) => hev ▸ event_any (HT2.out.below hB) ((HVw.out.below B2.out (Nat.le_refl _)).below hB (Nat.le_refl _)) (some j) (fun k hk => by injection hk with hk; rw [← hk]; exact hjl))
    rw [hA] at CEv
    simp only [oI] at CEv
    generalize evs[j] = ej at *
    generalize K j = kj at *
    obtain ⟨pst, psi, pha, pma, ⟨pok, pop, poc, pol, pos⟩, pnd⟩ := ej
    simp only [evV] at CEv hpn
    have y6 := cell_row HD.out 6; have y7 := cell_row HD.out 7; have y8 := cell_row HD.out 8
    simp at y6 y7 y8
    have HFZ : Hid (∀ U, Below u2.heap.size u2 U → U.frozen? ⟨g, 6, none⟩ = false ∧ U.frozen? ⟨g, 7, none⟩ = false ∧ U.frozen? ⟨g, 8, none⟩ = false) := fun U hB => ⟨frozen_row (block_keep hB HD.out lg) 6, frozen_row (block_keep hB HD.out lg) 7, frozen_row (block_keep hB HD.out lg) 8⟩
    have hbl2 := Nat.lt_of_lt_of_le hbl B2.out.size
    clear hx1 hx2 hcells hp hpl hpe hlv hev hbl
    go_upto_region 4 with fail
    refine takeD _ _ x w.heap.size g cN bp po pnd kj pN (j : Int) pst psi pha pma pok pop poc pol pos ec el es rfl rfl rfl (by simp) lu2 hbl2 lg k1 k5 m0 m1 m2 _ _ _ y6 y7 y8 hpn (by omega) HFZ.out CLt.out CEv.out ?_
    intro V4 u3 hB3
    simp only [sltakeD, List.getD_cons_zero, List.getD_cons_succ, List.range, List.range.loop, List.map_cons, List.map_nil, puts, List.foldl_cons, List.foldl_nil, Act.put, List.setIfInBounds_toArray, List.set_cons_succ, List.set_cons_zero]
    have HD3 := block_keep hB3 HD.out lg
    have HDD := hd (set3_row HD3 (.int .u8 ec) (.int .i64 el) (.int .i64 es))
    have fr4 := set3 u3 g (.int .u8 ec) (.int .i64 el) (.int .i64 es)
    have HT4 := hd ((HT2.out.below hB3).fr fr4 (fun e => by have := xg.out.1; omega) (fun j g' hj hg' e => RG.out j hj (by rw [hg', e])))
    have k1 := (fr4.cell (p := ⟨w.heap.size, 1, none⟩) (Nat.lt_of_lt_of_le lu2 hB3.size) (by have := HG.out; show ¬ w.heap.size = g; omega)).trans ((hB3.cell (p := ⟨w.heap.size, 1, none⟩) lu2).trans k1)
    have B4 : Hid (Fr (fun k => x ≤ k) w (((u3.setCell ⟨g, 6, none⟩ (.int .u8 ec)).setCell ⟨g, 7, none⟩ (.int .i64 el)).setCell ⟨g, 8, none⟩ (.int .i64 es))) := (Fr.of_below (B2.out.trans (hB3.mono B2.out.size))).trans (fr4.mono (fun k _ hk => by have := xg.out.1; omega))
    have l4 : w.heap.size < (((u3.setCell ⟨g, 6, none⟩ (.int .u8 ec)).setCell ⟨g, 7, none⟩ (.int .i64 el)).setCell ⟨g, 8, none⟩ (.int .i64 es)).heap.size := Nat.lt_of_lt_of_le lu2 (Nat.le_trans hB3.size fr4.size)
    clear hB3 fr4 HD3 HT2 CLt CEv HFZ m0 m1 m2 y6 y7 y8 hpn hbl2 HD
    generalize ((u3.setCell ⟨g, 6, none⟩ (.int .u8 ec)).setCell ⟨g, 7, none⟩ (.int .i64 el)).setCell ⟨g, 8, none⟩ (.int .i64 es) = u4 at *
    have z0 := cell_row HDD.out 0; have z1 := cell_row HDD.out 1; have z2 := cell_row HDD.out 2; have z3 := cell_row HDD.out 3; have z4 := cell_row HDD.out 4; have z5 := cell_row HDD.out 5; have z6 := cell_row HDD.out 6; have z7 := cell_row HDD.out 7; have z8 := cell_row HDD.out 8
    simp at z0 z1 z2 z3 z4 z5 z6 z7 z8
    have lgU := block_lt HDD.out
    obtain ⟨vd, hvd, hsd⟩ := HT4.out.slot (130 + cN) (by omega)
    rw [show 3 + (130 + cN) = 133 + cN from by omega] at hvd
    rw [HSD.out] at hsd
    obtain ⟨oa, oc', rfl, -, -⟩ := SF.form hsd
    have HSF := hd hsd
    have HV := hd hvd
    clear hsd hvd
    go_upto_region 5 with fail
    refine pushD _ _ x w.heap.size cN d.length oc' oa g ha 2 (pN : Int) oc ol os ec el es rfl rfl rfl (by simp) c65 (PP ddc 9 143 u4 (L (130 + cN)) (d ++ [⟨⟨ha, ⟨2, (pN : Int), oc, ol, os⟩⟩, ec, el, es⟩])) (fun u1 hB => ⟨(hB.cell (p := ⟨w.heap.size, 1, none⟩) l4).trans k1, (hB.cell (p := ⟨x, 133 + cN, none⟩) HT4.out.lt).trans HV.out, (hB.cell (p := ⟨g, 0, none⟩) lgU).trans z0, (hB.cell (p := ⟨g, 1, none⟩) lgU).trans z1, (hB.cell (p := ⟨g, 2, none⟩) lgU).trans z2, (hB.cell (p := ⟨g, 3, none⟩) lgU).trans z3, (hB.cell (p := ⟨g, 4, none⟩) lgU).trans z4, (hB.cell (p := ⟨g, 5, none⟩) lgU).trans z5, (hB.cell (p := ⟨g, 6, none⟩) lgU).trans z6, (hB.cell (p := ⟨g, 7, none⟩) lgU).trans z7, (hB.cell (p := ⟨g, 8, none⟩) lgU).trans z8⟩) (fun v u1 hP => ⟨hP.cell (p := ⟨w.heap.size, 1, none⟩) l4 (NR.out _ (by omega)) k1, hP.cell (p := ⟨x, 133 + cN, none⟩) HT4.out.lt (HT4.out.not_x (by omega)) HV.out, hP.cell (p := ⟨g, 0, none⟩) lgU (RG.out _ (by omega)) z0, hP.cell (p := ⟨g, 1, none⟩) lgU (RG.out _ (by omega)) z1, hP.cell (p := ⟨g, 2, none⟩) lgU (RG.out _ (by omega)) z2, hP.cell (p := ⟨g, 3, none⟩) lgU (RG.out _ (by omega)) z3, hP.cell (p := ⟨g, 4, none⟩) lgU (RG.out _ (by omega)) z4, hP.cell (p := ⟨g, 5, none⟩) lgU (RG.out _ (by omega)) z5, hP.cell (p := ⟨g, 6, none⟩) lgU (RG.out _ (by omega)) z6, hP.cell (p := ⟨g, 7, none⟩) lgU (RG.out _ (by omega)) z7, hP.cell (p := ⟨g, 8, none⟩) lgU (RG.out _ (by omega)) z8⟩) (fun u1 g' hB hg => run_deeds HSF.out ⟨⟨ha, ⟨2, (pN : Int), oc, ol, os⟩⟩, ec, el, es⟩ hB hg HDB.out) (fun v u1 hP => ⟨hP.form, by
      obtain ⟨cur, hh, -⟩ := HT4.out.blk
      exact frozen_row ((hP.block HT4.out.lt (HT4.out.not_x (by omega))).trans hh) _⟩) ?_
    intro V5 v5 u5 hP
    obtain ⟨g5, hT5, hF5⟩ := HT4.out.pushD (by omega) hP
    rw [show 3 + (130 + cN) = 133 + cN from by omega] at hT5 hF5
    have k1 := ((Fr.setCell (S := (· = x)) u5 ⟨x, 133 + cN, none⟩ v5 rfl).cell (p := ⟨w.heap.size, 1, none⟩) (Nat.lt_of_lt_of_le l4 (by have := hP; obtain ⟨q1, q2, q3, q4, q5⟩ := this; rcases q5 with ⟨-, q5⟩ | ⟨-, q5⟩ <;> exact Nat.le_trans q2.size q5.size)) (by have := HXl.out; show w.heap.size ≠ x; omega)).trans (hP.cell (p := ⟨w.heap.size, 1, none⟩) l4 (NR.out _ (by omega)) k1)
    have l5 : w.heap.size < (u5.setCell ⟨x, 133 + cN, none⟩ v5).heap.size := Nat.lt_of_lt_of_le l4 hF5.size
    have NR : Hid (∀ j, j < 130 → (upd L (130 + cN) (some g5)) j ≠ some w.heap.size) := fun j hj => by rw [upd_ne _ _ (by omega)]; exact NR.out j (by omega)
    have HT5 := hd hT5
    have B5 := hd ((B4.out).trans hF5)
    clear hP hT5 hF5 HSF HV z0 z1 z2 z3 z4 z5 z6 z7 z8
    simp only [slpushD, List.getD_cons_zero, List.getD_cons_succ, List.range, List.range.loop, List.map_cons, List.map_nil, puts, List.foldl_cons, List.foldl_nil, Act.put, List.setIfInBounds_toArray, List.set_cons_succ, List.set_cons_zero]
    generalize u5.setCell ⟨x, 133 + cN, none⟩ v5 = u6 at *
    go_upto_region 6 with fail
    obtain ⟨v, hv, hs⟩ := HT5.out.slot (65 + cN) (by omega)
    rw [show 3 + (65 + cN) = 68 + cN from by omega] at hv
    rw [HSL.out] at hs
    obtain ⟨oa, oc', rfl, -, -⟩ := SF.form hs
    have HSF := hd hs
    have HV := hd hv
    clear hs hv
    refine pushS _ _ x w.heap.size cN l.length oc' oa i rfl rfl rfl (by simp) c65 (PP nic 1 3 u6 ((upd L (130 + cN) (some g5)) (65 + cN)) (l ++ [i])) (fun u1 hB => ⟨(hB.cell (p := ⟨w.heap.size, 1, none⟩) l5).trans k1, (hB.cell (p := ⟨x, 68 + cN, none⟩) HT5.out.lt).trans HV.out⟩) (fun v u1 hP => ⟨hP.cell (p := ⟨w.heap.size, 1, none⟩) l5 (NR.out _ (by omega)) k1, hP.cell (p := ⟨x, 68 + cN, none⟩) HT5.out.lt (HT5.out.not_x (by omega)) HV.out⟩) (fun u1 g hB hg => run_ints HSF.out i hB hg HBD.out) (fun v u1 hP => ⟨hP.form, by
      obtain ⟨cur, hh, -⟩ := HT5.out.blk
      exact frozen_row ((hP.block HT5.out.lt (HT5.out.not_x (by omega))).trans hh) _⟩) ?_
    intro V' v' u1 hP
    have HP := hd (HT5.out.pushN (by omega) hP)
    rw [show 3 + (65 + cN) = 68 + cN from by omega] at HP
    clear hP
    simp only [slpushS, List.getD_cons_zero, List.getD_cons_succ, List.range, List.range.loop, List.map_cons, List.map_nil, puts, List.foldl_cons, List.foldl_nil, Act.put, List.setIfInBounds_toArray, List.set_cons_succ, List.set_cons_zero]
    go_wp2
    (try simp only [Exit.inBlock, Exit.then])
    refine bodyPost_end (results_none rfl _ _ _) rfl ?_
    obtain ⟨g', h1, h2⟩ := HP.out
    exact ⟨rfl, ⟨_, h1⟩, B5.out.trans h2⟩
  · have kk : (ok == 2) = false := by simpa using hk
    have B4 : Hid (Fr (fun k => x ≤ k) w u2) := Fr.of_below B2.out
    have HDD := HD
    clear hk HEL HD
    have z0 := cell_row HDD.out 0; have z1 := cell_row HDD.out 1; have z2 := cell_row HDD.out 2; have z3 := cell_row HDD.out 3; have z4 := cell_row HDD.out 4; have z5 := cell_row HDD.out 5; have z6 := cell_row HDD.out 6; have z7 := cell_row HDD.out 7; have z8 := cell_row HDD.out 8
    simp at z0 z1 z2 z3 z4 z5 z6 z7 z8
    have lgU := block_lt HDD.out
    obtain ⟨vd, hvd, hsd⟩ := HT2.out.slot (130 + cN) (by omega)
    rw [show 3 + (130 + cN) = 133 + cN from by omega] at hvd
    rw [HSD.out] at hsd
    obtain ⟨oa, oc', rfl, -, -⟩ := SF.form hsd
    have HSF := hd hsd
    have HV := hd hvd
    clear hsd hvd
    go_upto_region 5 with fail
    refine pushD _ _ x w.heap.size cN d.length oc' oa g ha ok op ec el es ec el es rfl rfl rfl (by simp) c65 (PP ddc 9 143 u2 (L (130 + cN)) (d ++ [⟨⟨ha, ⟨ok, op, ec, el, es⟩⟩, ec, el, es⟩])) (fun u1 hB => ⟨(hB.cell (p := ⟨w.heap.size, 1, none⟩) lu2).trans k1, (hB.cell (p := ⟨x, 133 + cN, none⟩) HT2.out.lt).trans HV.out, (hB.cell (p := ⟨g, 0, none⟩) lgU).trans z0, (hB.cell (p := ⟨g, 1, none⟩) lgU).trans z1, (hB.cell (p := ⟨g, 2, none⟩) lgU).trans z2, (hB.cell (p := ⟨g, 3, none⟩) lgU).trans z3, (hB.cell (p := ⟨g, 4, none⟩) lgU).trans z4, (hB.cell (p := ⟨g, 5, none⟩) lgU).trans z5, (hB.cell (p := ⟨g, 6, none⟩) lgU).trans z6, (hB.cell (p := ⟨g, 7, none⟩) lgU).trans z7, (hB.cell (p := ⟨g, 8, none⟩) lgU).trans z8⟩) (fun v u1 hP => ⟨hP.cell (p := ⟨w.heap.size, 1, none⟩) lu2 (NR.out _ (by omega)) k1, hP.cell (p := ⟨x, 133 + cN, none⟩) HT2.out.lt (HT2.out.not_x (by omega)) HV.out, hP.cell (p := ⟨g, 0, none⟩) lgU (RG.out _ (by omega)) z0, hP.cell (p := ⟨g, 1, none⟩) lgU (RG.out _ (by omega)) z1, hP.cell (p := ⟨g, 2, none⟩) lgU (RG.out _ (by omega)) z2, hP.cell (p := ⟨g, 3, none⟩) lgU (RG.out _ (by omega)) z3, hP.cell (p := ⟨g, 4, none⟩) lgU (RG.out _ (by omega)) z4, hP.cell (p := ⟨g, 5, none⟩) lgU (RG.out _ (by omega)) z5, hP.cell (p := ⟨g, 6, none⟩) lgU (RG.out _ (by omega)) z6, hP.cell (p := ⟨g, 7, none⟩) lgU (RG.out _ (by omega)) z7, hP.cell (p := ⟨g, 8, none⟩) lgU (RG.out _ (by omega)) z8⟩) (fun u1 g' hB hg => run_deeds HSF.out ⟨⟨ha, ⟨ok, op, ec, el, es⟩⟩, ec, el, es⟩ hB hg HDB.out) (fun v u1 hP => ⟨hP.form, by
      obtain ⟨cur, hh, -⟩ := HT2.out.blk
      exact frozen_row ((hP.block HT2.out.lt (HT2.out.not_x (by omega))).trans hh) _⟩) ?_
    intro V5 v5 u5 hP
    obtain ⟨g5, hT5, hF5⟩ := HT2.out.pushD (by omega) hP
    rw [show 3 + (130 + cN) = 133 + cN from by omega] at hT5 hF5
    have k1 := ((Fr.setCell (S := (· = x)) u5 ⟨x, 133 + cN, none⟩ v5 rfl).cell (p := ⟨w.heap.size, 1, none⟩) (Nat.lt_of_lt_of_le lu2 (by have := hP; obtain ⟨q1, q2, q3, q4, q5⟩ := this; rcases q5 with ⟨-, q5⟩ | ⟨-, q5⟩ <;> exact Nat.le_trans q2.size q5.size)) (by have := HXl.out; show w.heap.size ≠ x; omega)).trans (hP.cell (p := ⟨w.heap.size, 1, none⟩) lu2 (NR.out _ (by omega)) k1)
    have l5 : w.heap.size < (u5.setCell ⟨x, 133 + cN, none⟩ v5).heap.size := Nat.lt_of_lt_of_le lu2 hF5.size
    have NR : Hid (∀ j, j < 130 → (upd L (130 + cN) (some g5)) j ≠ some w.heap.size) := fun j hj => by rw [upd_ne _ _ (by omega)]; exact NR.out j (by omega)
    have HT5 := hd hT5
    have B5 := hd ((B4.out).trans hF5)
    clear hP hT5 hF5 HSF HV z0 z1 z2 z3 z4 z5 z6 z7 z8
    simp only [slpushD, List.getD_cons_zero, List.getD_cons_succ, List.range, List.range.loop, List.map_cons, List.map_nil, puts, List.foldl_cons, List.foldl_nil, Act.put, List.setIfInBounds_toArray, List.set_cons_succ, List.set_cons_zero]
    generalize u5.setCell ⟨x, 133 + cN, none⟩ v5 = u6 at *
    go_upto_region 6 with fail
    obtain ⟨v, hv, hs⟩ := HT5.out.slot (65 + cN) (by omega)
    rw [show 3 + (65 + cN) = 68 + cN from by omega] at hv
    rw [HSL.out] at hs
    obtain ⟨oa, oc', rfl, -, -⟩ := SF.form hs
    have HSF := hd hs
    have HV := hd hv
    clear hs hv
    refine pushS _ _ x w.heap.size cN l.length oc' oa i rfl rfl rfl (by simp) c65 (PP nic 1 3 u6 ((upd L (130 + cN) (some g5)) (65 + cN)) (l ++ [i])) (fun u1 hB => ⟨(hB.cell (p := ⟨w.heap.size, 1, none⟩) l5).trans k1, (hB.cell (p := ⟨x, 68 + cN, none⟩) HT5.out.lt).trans HV.out⟩) (fun v u1 hP => ⟨hP.cell (p := ⟨w.heap.size, 1, none⟩) l5 (NR.out _ (by omega)) k1, hP.cell (p := ⟨x, 68 + cN, none⟩) HT5.out.lt (HT5.out.not_x (by omega)) HV.out⟩) (fun u1 g hB hg => run_ints HSF.out i hB hg HBD.out) (fun v u1 hP => ⟨hP.form, by
      obtain ⟨cur, hh, -⟩ := HT5.out.blk
      exact frozen_row ((hP.block HT5.out.lt (HT5.out.not_x (by omega))).trans hh) _⟩) ?_
    intro V' v' u1 hP
    have HP := hd (HT5.out.pushN (by omega) hP)
    rw [show 3 + (65 + cN) = 68 + cN from by omega] at HP
    clear hP
    simp only [slpushS, List.getD_cons_zero, List.getD_cons_succ, List.range, List.range.loop, List.map_cons, List.map_nil, puts, List.foldl_cons, List.foldl_nil, Act.put, List.setIfInBounds_toArray, List.set_cons_succ, List.set_cons_zero]
    go_wp2
    (try simp only [Exit.inBlock, Exit.then])
    refine bodyPost_end (results_none rfl _ _ _) rfl ?_
    obtain ⟨g', h1, h2⟩ := HP.out
    exact ⟨rfl, ⟨_, h1⟩, B5.out.trans h2⟩
end

end Go.Proofs.YtfhghijefjhehaaGreatDoor

/-! In -/
namespace Go.Proofs.YtfhghijefjhehaaGreatDoor
open Go.RowKit
set_option linter.unusedVariables false

theorem zoB_false (o : OpE) : zoB o = false ↔ o ≠ zo := by
  rw [ne_eq, ← zoB_iff]
  cases zoB o <;> simp

section
variable (C : Int) (log : List Ed) (evs : List Ev) (D : Nat → List El)

def pvD (i : Nat) (c : Int) : List El := match (shAt evs i c).getLast? with
  | some j => D j
  | none => []
def elD (p : List El) (e : Ev) : El := if e.o.kind = 2 then p.getD e.o.pos.toNat (0, 0, 0) else (e.o.ch, e.o.cl, e.o.sq)
def mkD (p : List El) (e : Ev) : Dd := ⟨⟨e.hav, e.o⟩, (elD p e).1, (elD p e).2.1, (elD p e).2.2⟩
def ddAt : Nat → Int → List Dd
  | 0, _ => []
  | k + 1, c => ddAt k c ++ (match evs[k]? with | some e => if e.site = c ∧ zoB e.o = false then [mkD (pvD evs D k c) e] else [] | none => [])
def S1 (k : Nat) (j : Nat) : Ls := if j < 65 then .ns (lgAt log k (j : Nat)) else if j < 130 then .ns [] else .ds []
def S2 (i : Nat) (j : Nat) : Ls := if j < 65 then .ns (lgAt log log.length (j : Nat)) else if j < 130 then .ns (shAt evs i ((j - 65 : Nat) : Int)) else .ds (ddAt evs D i ((j - 130 : Nat) : Int))
def GL (k : Nat) : Prop := ∀ j x, j < k → log[j]? = some x → canP chg C log j x
def GE (i : Nat) : Prop := ∀ j x, j < i → evs[j]? = some x → canS chg fit C log (stP evs j) (pv evs j x.site) x
variable {C log evs D}

theorem ddAt_len (i : Nat) (c : Int) : (ddAt evs D i c).length = dn evs i c := by
  induction i with
  | zero => rfl
  | succ i ih =>
    simp only [ddAt, dn, List.length_append, ih]
    cases evs[i]? with
    | none => simp
    | some e =>
      simp only
      by_cases hs : e.site = c ∧ e.o ≠ zo
      · rw [if_pos hs, if_pos ⟨hs.1, (zoB_false _).2 hs.2⟩]
        rfl
      · rw [if_neg hs, if_neg (fun h => hs ⟨h.1, (zoB_false _).1 h.2⟩)]
        rfl
theorem S12 : S1 log log.length = S2 log evs D 0 := by
  funext j
  simp only [S1, S2, shAt, ddAt]
theorem S1_step (k : Nat) (h : k < log.length) (cN : Nat) (hc : log[k].o.cl = (cN : Int)) (hcN : cN < 65) : S1 log (k + 1) = upd (S1 log k) cN (.ns (lgAt log k cN ++ [k])) := by
  funext j
  by_cases e : j = cN
  · subst e
    rw [upd_same]
    simp only [S1, if_pos hcN, lgAt, List.getElem?_eq_getElem h, hc, if_true]
  · rw [upd_ne _ _ e]
    unfold S1
    split
    · simp only [lgAt, List.getElem?_eq_getElem h, hc]
      rw [if_neg (by omega), List.append_nil]
    · rfl
theorem shAt_step (i : Nat) (h : i < evs.length) (c : Int) : shAt evs (i + 1) c = shAt evs i c ++ if evs[i].site = c then [i] else [] := by
  simp only [shAt, List.getElem?_eq_getElem h]
theorem shAt_le (i : Nat) (c : Int) : (shAt evs i c).length ≤ i := by
  induction i with
  | zero => simp [shAt]
  | succ i ih =>
    simp only [shAt, List.length_append]
    split
    · split <;> simp <;> omega
    · simp; omega
theorem dn_le (i : Nat) (c : Int) : dn evs i c ≤ i := by
  induction i with
  | zero => simp [dn]
  | succ i ih =>
    simp only [dn]
    split
    · split <;> omega
    · omega
theorem S2_idle (i : Nat) (h : i < evs.length) (cN : Nat) (hc : evs[i].site = (cN : Int)) (hcN : cN < 65) (ho : evs[i].o = zo) : S2 log evs D (i + 1) = upd (S2 log evs D i) (65 + cN) (.ns (shAt evs i cN ++ [i])) := by
  funext j
  by_cases e : j = 65 + cN
  · subst e
    rw [upd_same]
    simp only [S2, if_neg (show ¬ 65 + cN < 65 by omega), if_pos (show 65 + cN < 130 by omega)]
    rw [show (65 + cN - 65 : Nat) = cN from by omega, shAt_step i h, hc, if_pos rfl]
  · rw [upd_ne _ _ e]
    unfold S2
    split
    · rfl
    · split
      · rw [shAt_step i h, hc, if_neg (by omega), List.append_nil]
      · simp only [ddAt, List.getElem?_eq_getElem h]
        rw [if_neg (fun hh => (zoB_false _).1 hh.2 ho), List.append_nil]
theorem S2_made (i : Nat) (h : i < evs.length) (cN : Nat) (hc : evs[i].site = (cN : Int)) (hcN : cN < 65) (ho : evs[i].o ≠ zo) : S2 log evs D (i + 1) = upd (upd (S2 log evs D i) (130 + cN) (.ds (ddAt evs D i cN ++ [mkD (pvD evs D i cN) evs[i]]))) (65 + cN) (.ns (shAt evs i cN ++ [i])) := by
  funext j
  by_cases e : j = 65 + cN
  · subst e
    rw [upd_same]
    simp only [S2, if_neg (show ¬ 65 + cN < 65 by omega), if_pos (show 65 + cN < 130 by omega)]
    rw [show (65 + cN - 65 : Nat) = cN from by omega, shAt_step i h, hc, if_pos rfl]
  · rw [upd_ne _ _ e]
    by_cases e2 : j = 130 + cN
    · subst e2
      rw [upd_same]
      simp only [S2, if_neg (show ¬ 130 + cN < 65 by omega), if_neg (show ¬ 130 + cN < 130 by omega)]
      rw [show (130 + cN - 130 : Nat) = cN from by omega]
      simp only [ddAt, List.getElem?_eq_getElem h, hc]
      rw [if_pos ⟨trivial, (zoB_false _).2 ho⟩]
    · rw [upd_ne _ _ e2]
      unfold S2
      split
      · rfl
      · split
        · rw [shAt_step i h, hc, if_neg (by omega), List.append_nil]
        · simp only [ddAt, List.getElem?_eq_getElem h, hc]
          rw [if_neg (by omega), List.append_nil]

theorem pv_bounds {i : Nat} (h : GE C log evs i) (c : Int) : 0 ≤ (pv evs i c).hav ∧ 0 ≤ (pv evs i c).made ∧ (pv evs i c).made ≤ i := by
  induction i generalizing c with
  | zero => simp [pv, zev]
  | succ i ih =>
    have ih' := fun c => ih (fun j x hj => h j x (by omega)) c
    cases he : evs[i]? with
    | none =>
      simp only [pv, he]
      have := ih' c
      omega
    | some e =>
      by_cases hs : e.site = c
      · simp only [pv, he, if_pos hs]
        obtain ⟨-, ⟨a5, -⟩, hh⟩ := h i e (by omega) he
        have hp := ih' e.site
        rcases hh with ⟨-, h2, -⟩ | ⟨-, -, ⟨-, -, h5, -⟩, -⟩ | ⟨-, -, h3, -⟩
        · omega
        · omega
        · omega
      · simp only [pv, he, if_neg hs]
        have := ih' c
        omega

/-- The element of a deletion. -/
theorem el_take {i : Nat} {w : World} {A : Nat → Option Addr} (hX : IsX w evs A D) (hil : i ≤ evs.length) (c : Int) {o : OpE} (hk : o.kind = 2) (hf : fitsP (pv evs i c).len o = 0) :
    ∃ j pN, (shAt evs i c).getLast? = some j ∧ o.pos = ((pN : Nat) : Int) ∧ pvD evs D i c = D j ∧ ∃ hp : pN < (D j).length, (pvD evs D i c).getD o.pos.toNat (0, 0, 0) = (D j)[pN] := by
  obtain ⟨-, -, -, h4, h5⟩ := fitsP_zero hf
  have hlt : o.pos < ((pv evs i c).len : Int) := by rcases h4 with h | h | h <;> omega
  cases hg : (shAt evs i c).getLast? with
  | none =>
    have : pv evs i c = zev := by rw [pv_last, hg]
    rw [this] at hlt
    simp [zev] at hlt
    omega
  | some j =>
    have hj := (shAt_lt (List.mem_of_getLast? hg)).1
    have hjl : j < evs.length := by omega
    have hp : pv evs i c = evs[j] := by rw [pv_last, hg]; simp [List.getElem?_eq_getElem hjl]
    have hl := (hX j hjl).1
    rw [hp, ← hl] at hlt
    refine ⟨j, o.pos.toNat, rfl, by omega, by unfold pvD; rw [hg], by omega, ?_⟩
    unfold pvD
    rw [hg]
    simp only [List.getD]
    rw [List.getElem?_eq_getElem (by omega)]
    rfl
end

end Go.Proofs.YtfhghijefjhehaaGreatDoor

/-! Ja -/
namespace Go.Proofs.YtfhghijefjhehaaGreatDoor
open Go.RowKit
set_option linter.unusedVariables false

section
variable {C : Int} {log : List Ed} {evs : List Ev} {D : Nat → List El}

theorem GE.mono {i j : Nat} (h : GE C log evs i) (hj : j ≤ i) : GE C log evs j := fun a x ha hx => h a x (by omega) hx

/-- Every deed is an event's. -/
theorem dd_of (n : Nat) {c : Int} {q : Nat} {d : Dd} (h : (ddAt evs D n c)[q]? = some d) : ∃ j e, j < n ∧ evs[j]? = some e ∧ e.site = c ∧ e.o ≠ zo ∧ dn evs j c = q ∧ d = mkD (pvD evs D j c) e := by
  induction n with
  | zero => simp [ddAt] at h
  | succ n ih =>
    simp only [ddAt] at h
    by_cases hq : q < (ddAt evs D n c).length
    · rw [List.getElem?_append_left hq] at h
      obtain ⟨j, e, h1, h2⟩ := ih h
      exact ⟨j, e, by omega, h2⟩
    · rw [List.getElem?_append_right (by omega), ddAt_len] at h
      rw [ddAt_len] at hq
      cases he : evs[n]? with
      | none => rw [he] at h; simp at h
      | some e =>
        rw [he] at h
        simp only at h
        by_cases hs : e.site = c ∧ zoB e.o = false
        · rw [if_pos hs] at h
          have hq0 : q - dn evs n c = 0 := by
            have := (List.getElem?_eq_some_iff.1 h).1
            simp at this
            omega
          rw [hq0] at h
          simp at h
          exact ⟨n, e, by omega, he, hs.1, (zoB_false _).1 hs.2, by omega, h.symm⟩
        · rw [if_neg hs] at h
          simp at h

/-- What is known of an edit event. -/
theorem ev_made {j : Nat} {e : Ev} (h : GE C log evs (j + 1)) (hf : ∀ a x, a < j → evs[a]? = some x → FactE evs log a x) (he : evs[j]? = some e) (ho : e.o ≠ zo) : e.site ≠ 0 ∧ e.o.cl = e.site ∧ e.o.sq = (dn evs j e.site : Int) + 1 := by
  obtain ⟨-, -, hh⟩ := h j e (by omega) he
  rcases hh with ⟨-, -, h3⟩ | ⟨h1, -, ⟨h2, h3, h4, -⟩, -⟩ | ⟨-, h2, -⟩
  · exact absurd h3 ho
  · refine ⟨h1, h2, ?_⟩
    rw [h3, h4, made_dn hf h1]
  · exact absurd h2 ho

/-- How many edits of each client an event shows (the document's counts). -/
def nP (log : List Ed) (e : Ev) (c : Int) : Int := if 0 < e.site ∧ c = e.site then e.made else ((lgAt log e.hav.toNat c).length : Int)
/-- The deeds that an event shows: the program's, one after another. -/
def visP (log : List Ed) (evs : List Ev) (D : Nat → List El) (e : Ev) : List Dd :=
  ((log.take e.hav.toNat).filterMap fun x => (ddAt evs D evs.length x.o.cl)[x.o.sq.toNat - 1]?) ++ (ddAt evs D evs.length e.site).take e.made.toNat

/-- The document's: the events whose edit is shown. -/
def shows (log : List Ed) (e x : Ev) : Prop := x.o ≠ zo ∧ x.o.sq ≤ nP log e x.o.cl

end

/-- By Client and Seq. -/
def ltK (a b : El) : Prop := a.2.1 < b.2.1 ∨ (a.2.1 = b.2.1 ∧ a.2.2 < b.2.2)
end Go.Proofs.YtfhghijefjhehaaGreatDoor

/-! La -/
namespace Go.Proofs.YtfhghijefjhehaaGreatDoor
open Go.RowKit
set_option linter.unusedVariables false

/-- A client on its way: the edits that it has not made, its text, its forms. -/
structure Wk where
  still : List Ed
  text : List El
  forms : List OpE
  hav : Nat
  made : Nat

def nopO (o : OpE) : OpE := ⟨0, 0, 0, o.cl, o.sq⟩
def fitO (n : Nat) (o : OpE) : OpE := if fitsP n o = 0 then o else nopO o

section
variable (ap : List El → OpE → List El)
/-- It makes its next edit. -/
def Wk.mk1 (w : Wk) : Wk := match w.still with
  | [] => w
  | x :: l => ⟨l, ap w.text (fitO w.text.length x.o), w.forms ++ [fitO w.text.length x.o], w.hav, w.made + 1⟩
/-- It makes those of its edits whose tag is k. -/
def mkL (k : Int) : List Ed → Wk → Wk
  | [], w => w
  | x :: l, w => if x.tag = k then mkL k l (w.mk1 ap) else w
def Wk.all (w : Wk) : Wk := mkL ap (w.hav : Int) w.still w
/-- It takes a record in. -/
def Wk.take (w : Wk) (op : OpE) (own : Bool) : Wk :=
  if own then ⟨w.still, w.text, w.forms.tail, w.hav + 1, w.made⟩ else ⟨w.still, ap w.text (throughP op w.forms false).1, (throughP op w.forms false).2, w.hav + 1, w.made⟩

variable {ap}
theorem mk1_still {w : Wk} {x : Ed} {l : List Ed} (h : w.still = x :: l) : (w.mk1 ap).still = l ∧ (w.mk1 ap).hav = w.hav ∧ (w.mk1 ap).made = w.made + 1 ∧ (w.mk1 ap).forms.length = w.forms.length + 1 := by
  unfold Wk.mk1
  rw [h]
  simp

/-- Ahead of the making at k: what is made has tags below k, what is not has none. -/
structure Bf (L : List Ed) (own : Nat) (k : Nat) (w : Wk) : Prop where
  hav : w.hav = k
  ex : ∃ p, L = p ++ w.still ∧ w.made = p.length ∧ ∀ x ∈ p, x.tag < (k : Int)
  ge : ∀ x ∈ w.still, (k : Int) ≤ x.tag
  len : w.forms.length + own = w.made
/-- Behind the making at k. -/
structure Af (L : List Ed) (own : Nat) (k : Nat) (w : Wk) : Prop where
  hav : w.hav = k
  ex : ∃ p, L = p ++ w.still ∧ w.made = p.length ∧ ∀ x ∈ p, x.tag ≤ (k : Int)
  ge : ∀ x ∈ w.still, (k : Int) < x.tag
  len : w.forms.length + own = w.made

theorem all_af {L : List Ed} {own k : Nat} (hL : L.Pairwise (fun a b => a.tag ≤ b.tag)) : ∀ (l : List Ed) (w : Wk), w.still = l → w.hav = k → (∃ p, L = p ++ w.still ∧ w.made = p.length ∧ ∀ x ∈ p, x.tag ≤ (k : Int)) → (∀ x ∈ l, (k : Int) ≤ x.tag) → w.forms.length + own = w.made → Af L own k (mkL ap (k : Int) l w)
  | [], w, hs, hh, he, hg, hl => ⟨hh, he, by rw [mkL, hs]; simp, hl⟩
  | x :: l, w, hs, hh, ⟨p, e1, e2, e3⟩, hg, hl => by
    obtain ⟨m1, m2, m3, m4⟩ := mk1_still (ap := ap) hs
    unfold mkL
    split
    · rename_i hx
      refine all_af hL l (w.mk1 ap) m1 (m2.trans hh) ⟨p ++ [x], ?_, ?_, fun y hy => ?_⟩ (fun y hy => hg y (by simp [hy])) (by omega)
      · rw [m1, e1, hs]; simp
      · rw [m3, e2]; simp
      · rcases List.mem_append.1 hy with hy | hy
        · exact e3 y hy
        · rw [List.mem_singleton.1 hy]; omega
    · rename_i hx
      have hx' : (k : Int) < x.tag := by have := hg x (by simp); omega
      refine ⟨hh, ⟨p, e1, e2, e3⟩, fun y hy => ?_, hl⟩
      rw [hs] at hy
      rcases List.mem_cons.1 hy with rfl | hy
      · exact hx'
      · rw [e1, hs] at hL
        have := (List.pairwise_cons.1 (List.pairwise_append.1 hL).2.1).1 y hy
        omega
theorem Bf.all {L : List Ed} {own k : Nat} {w : Wk} (hL : L.Pairwise (fun a b => a.tag ≤ b.tag)) (h : Bf L own k w) : Af L own k (w.all ap) := by
  obtain ⟨p, e1, e2, e3⟩ := h.ex
  have := all_af (ap := ap) (own := own) (k := k) hL w.still w rfl h.hav ⟨p, e1, e2, fun x hx => by have := e3 x hx; omega⟩ h.ge h.len
  unfold Wk.all
  rw [h.hav]
  exact this
theorem Af.take {L : List Ed} {own k : Nat} {w : Wk} (h : Af L own k w) (op : OpE) (b : Bool) (hb : b = true → w.forms ≠ []) : Bf L (own + if b then 1 else 0) (k + 1) (w.take ap op b) := by
  obtain ⟨p, e1, e2, e3⟩ := h.ex
  unfold Wk.take
  cases b with
  | true =>
    have hne := hb rfl
    have hl : 0 < w.forms.length := List.length_pos_iff.2 hne
    have := h.len
    exact ⟨by simp [h.hav], ⟨p, e1, e2, fun x hx => by have := e3 x hx; simp; omega⟩, fun x hx => by have := h.ge x hx; simp; omega, by simp; omega⟩
  | false =>
    have := h.len
    exact ⟨by simp [h.hav], ⟨p, e1, e2, fun x hx => by have := e3 x hx; simp; omega⟩, fun x hx => by have := h.ge x hx; simp; omega, by simp [throughP_len]; omega⟩
/-- An edit whose tag is not above k has been made. -/
theorem Af.made {L : List Ed} {own k q : Nat} {w : Wk} {x : Ed} (h : Af L own k w) (hx : L[q]? = some x) (ht : x.tag ≤ (k : Int)) : q < w.made := by
  obtain ⟨p, e1, e2, e3⟩ := h.ex
  rw [e2]
  by_cases hq : q < p.length
  · exact hq
  · rw [e1, List.getElem?_append_right (by omega)] at hx
    have := h.ge x (List.mem_of_getElem? hx)
    omega
end

/-- All walkers, by client, and the done forms: behind k records. -/
def stW (ap : List El → OpE → List El) (log : List Ed) (E : Nat → List Ed) : Nat → (Nat → Wk) × List OpE
  | 0 => (fun c => ⟨E c, [], [], 0, 0⟩, [])
  | k + 1 =>
    let s := stW ap log E k
    match log[k]? with
    | none => s
    | some x =>
      let m := x.o.cl.toNat
      let op := ((s.1 m).all ap).forms.headD ⟨0, 0, 0, 0, 0⟩
      (fun c => ((s.1 c).all ap).take ap op (c == m), s.2 ++ [op])

section
variable {ap : List El → OpE → List El} {C : Int} {log : List Ed} {evs : List Ev} {D : Nat → List El}

/-- The edits that a client makes. -/
def edW (evs : List Ev) (D : Nat → List El) (c : Nat) : List Ed := (ddAt evs D evs.length (c : Int)).map (·.e)

theorem tags_of {i : Nat} (hE : GE C log evs i) (c : Int) : (∀ d ∈ ddAt evs D i c, d.e.tag ≤ (pv evs i c).hav) ∧ (ddAt evs D i c).Pairwise (fun a b => a.e.tag ≤ b.e.tag) := by
  induction i with
  | zero => exact ⟨fun d hd => (by cases hd), List.Pairwise.nil⟩
  | succ i ih =>
    obtain ⟨h1, h2⟩ := ih (hE.mono (by omega))
    cases he : evs[i]? with
    | none =>
      simp only [ddAt, pv, he, List.append_nil]
      exact ⟨h1, h2⟩
    | some e =>
      obtain ⟨-, ⟨a5, -⟩, -⟩ := hE i e (by omega) he
      by_cases hs : e.site = c
      · simp only [ddAt, pv, he, if_pos hs]
        rw [hs] at a5
        split
        · refine ⟨fun d hd => ?_, List.pairwise_append.2 ⟨h2, List.pairwise_singleton _ _, fun a ha b hb => ?_⟩⟩
          · rcases List.mem_append.1 hd with hd | hd
            · have := h1 d hd; omega
            · rw [List.mem_singleton.1 hd]; exact Int.le_refl _
          · rw [List.mem_singleton.1 hb]
            have := h1 a ha
            show a.e.tag ≤ e.hav
            omega
        · rw [List.append_nil]
          exact ⟨fun d hd => by have := h1 d hd; omega, h2⟩
      · simp only [ddAt, pv, he, if_neg hs]
        rw [if_neg (fun h => hs h.1), List.append_nil]
        exact ⟨h1, h2⟩
theorem edW_tags (hE : GE C log evs evs.length) (c : Nat) : (edW evs D c).Pairwise (fun a b => a.tag ≤ b.tag) := List.pairwise_map.2 (tags_of hE c).2
theorem edW_ge (hE : GE C log evs evs.length) (c : Nat) : ∀ x ∈ edW evs D c, 0 ≤ x.tag := by
  intro x hx
  obtain ⟨d, hd, rfl⟩ := List.mem_map.1 hx
  obtain ⟨q, hq⟩ := List.mem_iff_getElem?.1 hd
  obtain ⟨j, e, h1, h2, h3, h4, h5, rfl⟩ := dd_of _ hq
  show 0 ≤ e.hav
  obtain ⟨-, ⟨a5, -⟩, -⟩ := hE j e h1 h2
  have := (pv_bounds (hE.mono (show j ≤ _ by omega)) e.site).1
  omega

/-- The maker of the log's edit k has made it by then. -/
theorem head_ne (hg : GL C log log.length) (hE : GE C log evs evs.length) (hf : ∀ a x, a < evs.length → evs[a]? = some x → FactE evs log a x) (hall : ∀ (j : Nat) (x : Ed), log[j]? = some x → x.o.sq ≤ (dn evs evs.length x.o.cl : Int))
    {k : Nat} {x : Ed} (hx : log[k]? = some x) {w : Wk} (hb : Bf (edW evs D x.o.cl.toNat) (lgAt log k x.o.cl).length k w) : (w.all ap).forms ≠ [] := by
  have hk : k < log.length := (List.getElem?_eq_some_iff.1 hx).1
  obtain ⟨c1, -, c3, -, c5⟩ := hg k x hk hx
  have hr := chP_range c1
  have hcl : ((x.o.cl.toNat : Nat) : Int) = x.o.cl := by omega
  have ha := hb.all (ap := ap) (edW_tags hE _)
  have hal := hall k x hx
  have hq : (lgAt log k x.o.cl).length < (ddAt evs D evs.length x.o.cl).length := by rw [ddAt_len]; omega
  obtain ⟨j, e, h1, h2, h3, h4, h5, h6⟩ := dd_of (evs := evs) (D := D) evs.length (List.getElem?_eq_getElem hq)
  obtain ⟨m1, m2, m3⟩ := ev_made (hE.mono (show j + 1 ≤ _ by omega)) (fun a z ha => hf a z (by omega)) h2 h4
  have hfe := (hf j e h1 h2).2.2 m1 h4
  have hxe : x = ⟨e.hav, e.o⟩ := hfe.2.2.2 k x hx h3.symm (by rw [c3, ← hfe.2.1, m3, h3, h5])
  have hL : (edW evs D x.o.cl.toNat)[(lgAt log k x.o.cl).length]? = some x := by
    unfold edW
    rw [hcl, List.getElem?_map, List.getElem?_eq_getElem hq, h6]
    simp only [Option.map_some, mkD]
    rw [← hxe]
  have hm := ha.made hL c5
  have hl := ha.len
  intro h0
  rw [h0] at hl
  simp at hl
  omega

/-- Every client, behind k records. -/
theorem stW_bf (hg : GL C log log.length) (hE : GE C log evs evs.length) (hf : ∀ a x, a < evs.length → evs[a]? = some x → FactE evs log a x) (hall : ∀ (j : Nat) (x : Ed), log[j]? = some x → x.o.sq ≤ (dn evs evs.length x.o.cl : Int)) :
    ∀ k, k ≤ log.length → (∀ c : Nat, Bf (edW evs D c) (lgAt log k (c : Int)).length k ((stW ap log (edW evs D) k).1 c)) ∧ (stW ap log (edW evs D) k).2.length = k
  | 0, hk => ⟨fun c => ⟨rfl, ⟨[], rfl, rfl, fun x hx => (by cases hx)⟩, fun x hx => edW_ge hE c x hx, rfl⟩, rfl⟩
  | k + 1, hk => by
    obtain ⟨h1, h2⟩ := stW_bf hg hE hf hall k (by omega)
    have hkl : k < log.length := hk
    have hx : log[k]? = some log[k] := List.getElem?_eq_getElem hkl
    have hr := chP_range (hg k _ hkl hx).1
    have hcl : ((log[k].o.cl.toNat : Nat) : Int) = log[k].o.cl := by omega
    simp only [stW, hx]
    refine ⟨fun c => ?_, by simp [h2]⟩
    have ha := (h1 c).all (ap := ap) (edW_tags hE c)
    have hne : (c == log[k].o.cl.toNat) = true → (((stW ap log (edW evs D) k).1 c).all ap).forms ≠ [] := fun hc => by
      obtain rfl : c = log[k].o.cl.toNat := by simpa using hc
      have hbc := h1 log[k].o.cl.toNat
      rw [hcl] at hbc
      exact head_ne hg hE hf hall hx hbc
    have ht := ha.take (ap := ap) (((stW ap log (edW evs D) k).1 log[k].o.cl.toNat).all ap |>.forms.headD ⟨0, 0, 0, 0, 0⟩) (c == log[k].o.cl.toNat) hne
    have e : (lgAt log (k + 1) (c : Int)).length = (lgAt log k (c : Int)).length + if (c == log[k].o.cl.toNat) = true then 1 else 0 := by
      rw [lgAt_succ log k _ hkl]
      congr 1
      by_cases hc : c = log[k].o.cl.toNat
      · rw [if_pos (by omega), if_pos (by simpa using hc)]
      · rw [if_neg (by omega), if_neg (by simpa using hc)]
    rw [e]
    exact ht

/-- What is told of a state: how many records, how many edits, the text. -/
structure Vw where
  hav : Nat
  made : Nat
  doc : List El
def Wk.view (w : Wk) : Vw := ⟨w.hav, w.made, w.text⟩
/-- The states from w on, with all done forms at hand: the program. -/
def wayF (ap : List El → OpE → List El) (done : List OpE) (id : Int) : Nat → Wk → List Vw
  | 0, _ => []
  | n + 1, w => if (w.still.head?.map (·.tag)) = some (w.hav : Int) then (w.mk1 ap).view :: wayF ap done id n (w.mk1 ap) else match done[w.hav]? with
      | some o => (w.take ap o (o.cl == id)).view :: wayF ap done id n (w.take ap o (o.cl == id))
      | none => []
def wayW (ap : List El → OpE → List El) (done : List OpE) (id : Int) (w : Wk) : List Vw := wayF ap done id (w.still.length + (done.length - w.hav)) w
theorem way_due {done : List OpE} {id : Int} {w : Wk} {x : Ed} {l : List Ed} (h : w.still = x :: l) (ht : x.tag = (w.hav : Int)) : wayW ap done id w = (w.mk1 ap).view :: wayW ap done id (w.mk1 ap) := by
  obtain ⟨m1, m2, -, -⟩ := mk1_still (ap := ap) h
  have e : w.still.length + (done.length - w.hav) = ((w.mk1 ap).still.length + (done.length - (w.mk1 ap).hav)) + 1 := by rw [m1, m2, h]; simp; omega
  unfold wayW
  rw [e, wayF, if_pos (by rw [h]; simp [ht])]
theorem way_take {done : List OpE} {id : Int} {w : Wk} {o : OpE} (h : ∀ x ∈ w.still, (w.hav : Int) < x.tag) (ho : done[w.hav]? = some o) : wayW ap done id w = (w.take ap o (o.cl == id)).view :: wayW ap done id (w.take ap o (o.cl == id)) := by
  have hl : w.hav < done.length := (List.getElem?_eq_some_iff.1 ho).1
  have e1 : (w.take ap o (o.cl == id)).still = w.still ∧ (w.take ap o (o.cl == id)).hav = w.hav + 1 := by unfold Wk.take; split <;> exact ⟨rfl, rfl⟩
  have e : w.still.length + (done.length - w.hav) = ((w.take ap o (o.cl == id)).still.length + (done.length - (w.take ap o (o.cl == id)).hav)) + 1 := by rw [e1.1, e1.2]; omega
  have hn : ¬ (w.still.head?.map (·.tag)) = some (w.hav : Int) := by
    cases hs : w.still with
    | nil => simp
    | cons x l =>
      have := h x (by rw [hs]; simp)
      simp
      omega
  unfold wayW
  rw [e, wayF, if_neg hn, ho]
theorem way_end {done : List OpE} {id : Int} {w : Wk} (h : ∀ x ∈ w.still, (w.hav : Int) < x.tag) (ho : done.length ≤ w.hav) : wayW ap done id w = [] := by
  have hn : ¬ (w.still.head?.map (·.tag)) = some (w.hav : Int) := by
    cases hs : w.still with
    | nil => simp
    | cons x l =>
      have := h x (by rw [hs]; simp)
      simp
      omega
  unfold wayW
  cases hm : w.still.length + (done.length - w.hav) with
  | zero => rfl
  | succ n => rw [wayF, if_neg hn, List.getElem?_eq_none ho]

/-- The states that making shows. -/
def mkV (ap : List El → OpE → List El) (k : Int) : List Ed → Wk → List Vw
  | [], _ => []
  | x :: l, w => if x.tag = k then (w.mk1 ap).view :: mkV ap k l (w.mk1 ap) else []
theorem way_all {done : List OpE} {id : Int} : ∀ (l : List Ed) (w : Wk), w.still = l → wayW ap done id w = mkV ap (w.hav : Int) l w ++ wayW ap done id (mkL ap (w.hav : Int) l w)
  | [], w, h => by simp [mkV, mkL]
  | x :: l, w, h => by
    obtain ⟨m1, m2, -, -⟩ := mk1_still (ap := ap) h
    unfold mkV mkL
    split
    · rename_i hx
      rw [way_due h hx, way_all l (w.mk1 ap) m1, m2]
      rfl
    · rfl

/-- All operations of a client's forms bear its number. -/
theorem shift_cl (a b : OpE) (f : Bool) : (shiftP a b f).cl = a.cl := by
  unfold shiftP
  split
  · rfl
  · split
    · rfl
    · split <;> rfl
theorem through_cl : ∀ (l : List OpE) (op : OpE) (f : Bool) (c : Int), (∀ x ∈ l, x.cl = c) → (∀ x ∈ (throughP op l f).2, x.cl = c) ∧ (throughP op l f).1.cl = op.cl
  | [], op, f, c, h => ⟨h, rfl⟩
  | x :: l, op, f, c, h => by
    obtain ⟨h1, h2⟩ := through_cl l (shiftP op x (!f)) f c (fun y hy => h y (by simp [hy]))
    simp only [throughP]
    refine ⟨fun y hy => ?_, by rw [h2, shift_cl]⟩
    rcases List.mem_cons.1 hy with rfl | hy
    · rw [shift_cl]; exact h x (by simp)
    · exact h1 y hy
theorem fit_cl (n : Nat) (o : OpE) : (fitO n o).cl = o.cl := by unfold fitO; split <;> rfl
def ClW (c : Int) (w : Wk) : Prop := (∀ x ∈ w.still, x.o.cl = c) ∧ ∀ x ∈ w.forms, x.cl = c
theorem ClW.mk1 {c : Int} {w : Wk} (h : ClW c w) : ClW c (w.mk1 ap) := by
  unfold Wk.mk1
  cases hs : w.still with
  | nil => exact h
  | cons x l =>
    have hx : ∀ y ∈ x :: l, y.o.cl = c := fun y hy => h.1 y (by rw [hs]; exact hy)
    refine ⟨fun y hy => hx y (by simp [hy]), fun y hy => ?_⟩
    rcases List.mem_append.1 hy with hy | hy
    · exact h.2 y hy
    · rw [List.mem_singleton.1 hy, fit_cl]; exact hx x (by simp)
theorem ClW.mkL {c : Int} (k : Int) : ∀ (l : List Ed) (w : Wk), ClW c w → ClW c (mkL ap k l w)
  | [], w, h => h
  | x :: l, w, h => by
    unfold Go.Proofs.YtfhghijefjhehaaGreatDoor.mkL
    split
    · exact ClW.mkL k l _ h.mk1
    · exact h
theorem ClW.take {c : Int} {w : Wk} (h : ClW c w) (op : OpE) (b : Bool) : ClW c (w.take ap op b) := by
  unfold Wk.take
  split
  · exact ⟨h.1, fun x hx => h.2 x (List.mem_of_mem_tail hx)⟩
  · exact ⟨h.1, (through_cl w.forms op false c h.2).1⟩
end

end Go.Proofs.YtfhghijefjhehaaGreatDoor

/-! Lb -/
namespace Go.Proofs.YtfhghijefjhehaaGreatDoor
open Go.RowKit
set_option linter.unusedVariables false

section
variable {ap : List El → OpE → List El} {C : Int} {log : List Ed} {evs : List Ev} {D : Nat → List El}

theorem edW_cl (hE : GE C log evs evs.length) (hf : ∀ a x, a < evs.length → evs[a]? = some x → FactE evs log a x) (c : Nat) : ∀ x ∈ edW evs D c, x.o.cl = (c : Int) := by
  intro x hx
  obtain ⟨d, hd, rfl⟩ := List.mem_map.1 hx
  obtain ⟨q, hq⟩ := List.mem_iff_getElem?.1 hd
  obtain ⟨j, e, h1, h2, h3, h4, h5, rfl⟩ := dd_of _ hq
  obtain ⟨m1, m2, m3⟩ := ev_made (hE.mono (show j + 1 ≤ _ by omega)) (fun a z ha => hf a z (by omega)) h2 h4
  show e.o.cl = _
  rw [m2, h3]
theorem stW_cl (hE : GE C log evs evs.length) (hf : ∀ a x, a < evs.length → evs[a]? = some x → FactE evs log a x) : ∀ k (c : Nat), ClW (c : Int) ((stW ap log (edW evs D) k).1 c)
  | 0, c => ⟨edW_cl hE hf c, fun x hx => (by cases hx)⟩
  | k + 1, c => by
    have ih := stW_cl hE hf k c
    simp only [stW]
    cases log[k]? with
    | none => exact ih
    | some x => exact (ClW.mkL _ _ _ ih).take _ _

/-- The record k, as it is done. -/
def opK (ap : List El → OpE → List El) (log : List Ed) (E : Nat → List Ed) (k : Nat) : OpE := match log[k]? with
  | some x => (((stW ap log E k).1 x.o.cl.toNat).all ap).forms.headD ⟨0, 0, 0, 0, 0⟩
  | none => ⟨0, 0, 0, 0, 0⟩
theorem stW_succ {E : Nat → List Ed} {k : Nat} (h : k < log.length) : stW ap log E (k + 1) = (fun c => (((stW ap log E k).1 c).all ap).take ap (opK ap log E k) (c == log[k].o.cl.toNat), (stW ap log E k).2 ++ [opK ap log E k]) := by
  simp only [stW, opK, List.getElem?_eq_getElem h]
theorem done_at {E : Nat → List Ed} : ∀ m, m ≤ log.length → (stW ap log E m).2 = (List.range m).map (opK ap log E)
  | 0, _ => rfl
  | m + 1, h => by
    rw [stW_succ h, List.range_succ, List.map_append, done_at m (by omega)]
    rfl
theorem opK_cl (hg : GL C log log.length) (hE : GE C log evs evs.length) (hf : ∀ a x, a < evs.length → evs[a]? = some x → FactE evs log a x) (hall : ∀ (j : Nat) (x : Ed), log[j]? = some x → x.o.sq ≤ (dn evs evs.length x.o.cl : Int)) {k : Nat} (hk : k < log.length) :
    (opK ap log (edW evs D) k).cl = log[k].o.cl ∧ ∃ l, (((stW ap log (edW evs D) k).1 log[k].o.cl.toNat).all ap).forms = opK ap log (edW evs D) k :: l := by
  have hx : log[k]? = some log[k] := List.getElem?_eq_getElem hk
  have hr := chP_range (hg k _ hk hx).1
  have hcl : ((log[k].o.cl.toNat : Nat) : Int) = log[k].o.cl := by omega
  have hb := (stW_bf (ap := ap) (D := D) hg hE hf hall k (by omega)).1 log[k].o.cl.toNat
  rw [hcl] at hb
  have hne := head_ne (ap := ap) hg hE hf hall hx hb
  have hc : ClW ((log[k].o.cl.toNat : Nat) : Int) (((stW ap log (edW evs D) k).1 log[k].o.cl.toNat).all ap) := ClW.mkL _ _ _ (stW_cl hE hf k _)
  have e : opK ap log (edW evs D) k = (((stW ap log (edW evs D) k).1 log[k].o.cl.toNat).all ap).forms.headD ⟨0, 0, 0, 0, 0⟩ := by simp only [opK, hx]
  cases hF : (((stW ap log (edW evs D) k).1 log[k].o.cl.toNat).all ap).forms with
  | nil => exact absurd hF hne
  | cons o l =>
    rw [hF] at e
    rw [e]
    refine ⟨?_, l, rfl⟩
    have := hc.2 o (by rw [hF]; simp)
    rw [hcl] at this
    exact this

/-- What the document has told of client c, ahead of the making at k. -/
def wayD (ap : List El → OpE → List El) (log : List Ed) (E : Nat → List Ed) (c : Nat) : Nat → List Vw
  | 0 => [((stW ap log E 0).1 c).view]
  | k + 1 => wayD ap log E c k ++ mkV ap (k : Int) ((stW ap log E k).1 c).still ((stW ap log E k).1 c) ++ [((stW ap log E (k + 1)).1 c).view]

theorem way_doc (hg : GL C log log.length) (hE : GE C log evs evs.length) (hf : ∀ a x, a < evs.length → evs[a]? = some x → FactE evs log a x) (hall : ∀ (j : Nat) (x : Ed), log[j]? = some x → x.o.sq ≤ (dn evs evs.length x.o.cl : Int)) (c : Nat) :
    ∀ k, k ≤ log.length → wayD ap log (edW evs D) c k ++ wayW ap (stW ap log (edW evs D) log.length).2 (c : Int) ((stW ap log (edW evs D) k).1 c) = ((stW ap log (edW evs D) 0).1 c).view :: wayW ap (stW ap log (edW evs D) log.length).2 (c : Int) ((stW ap log (edW evs D) 0).1 c)
  | 0, _ => rfl
  | k + 1, h => by
    have ih := way_doc hg hE hf hall c k (by omega)
    have hk : k < log.length := h
    have hb := (stW_bf (ap := ap) (D := D) hg hE hf hall k (by omega)).1 c
    have ha := hb.all (ap := ap) (edW_tags hE c)
    rw [← ih, way_all _ ((stW ap log (edW evs D) k).1 c) rfl, hb.hav]
    have e1 : mkL ap (k : Int) ((stW ap log (edW evs D) k).1 c).still ((stW ap log (edW evs D) k).1 c) = ((stW ap log (edW evs D) k).1 c).all ap := by unfold Wk.all; rw [hb.hav]
    obtain ⟨o1, -⟩ := opK_cl (ap := ap) (D := D) hg hE hf hall hk
    have hr := chP_range (hg k _ hk (List.getElem?_eq_getElem hk)).1
    have hd' : (stW ap log (edW evs D) log.length).2[(((stW ap log (edW evs D) k).1 c).all ap).hav]? = some (opK ap log (edW evs D) k) := by
      rw [ha.hav, done_at _ (Nat.le_refl _), List.getElem?_map, List.getElem?_range hk]
      rfl
    have hg' : ∀ x ∈ (((stW ap log (edW evs D) k).1 c).all ap).still, ((((stW ap log (edW evs D) k).1 c).all ap).hav : Int) < x.tag := by rw [ha.hav]; exact ha.ge
    have e2 : ((opK ap log (edW evs D) k).cl == (c : Int)) = (c == log[k].o.cl.toNat) := by
      rw [o1, Bool.eq_iff_iff]
      simp
      omega
    rw [e1, way_take hg' hd', e2]
    simp only [wayD]
    rw [stW_succ hk]
    simp

/-- All that the document tells of client c: the program's states. -/
theorem way_whole (hg : GL C log log.length) (hE : GE C log evs evs.length) (hf : ∀ a x, a < evs.length → evs[a]? = some x → FactE evs log a x) (hall : ∀ (j : Nat) (x : Ed), log[j]? = some x → x.o.sq ≤ (dn evs evs.length x.o.cl : Int)) (c : Nat) :
    wayD ap log (edW evs D) c log.length ++ mkV ap (log.length : Int) ((stW ap log (edW evs D) log.length).1 c).still ((stW ap log (edW evs D) log.length).1 c) = ((stW ap log (edW evs D) 0).1 c).view :: wayW ap (stW ap log (edW evs D) log.length).2 (c : Int) ((stW ap log (edW evs D) 0).1 c) := by
  have h := way_doc (ap := ap) (D := D) hg hE hf hall c log.length (Nat.le_refl _)
  obtain ⟨hb, hl⟩ := stW_bf (ap := ap) (D := D) hg hE hf hall log.length (Nat.le_refl _)
  have hb := hb c
  have ha := hb.all (ap := ap) (edW_tags hE c)
  have e1 : mkL ap (log.length : Int) ((stW ap log (edW evs D) log.length).1 c).still ((stW ap log (edW evs D) log.length).1 c) = ((stW ap log (edW evs D) log.length).1 c).all ap := by unfold Wk.all; rw [hb.hav]
  rw [← h, way_all _ _ rfl, hb.hav, e1, way_end (by rw [ha.hav]; exact ha.ge) (by rw [ha.hav, hl]; exact Nat.le_refl _), List.append_nil]
end

end Go.Proofs.YtfhghijefjhehaaGreatDoor
