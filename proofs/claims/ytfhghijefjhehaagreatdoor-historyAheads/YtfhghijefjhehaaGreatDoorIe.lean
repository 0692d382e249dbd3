/-
  The tale: canFollow, canMake.
-/
import Derived.Test.YtfhghijefjhehaaGreatDoorId
import Derived.Test.YtfhghijefjhehaaGreatDoorHm
namespace Go.Proofs.YtfhghijefjhehaaGreatDoor
open Go.RowKit
set_option linter.unusedVariables false

/-- Two boxes of events. -/
theorem bx2_mk (w : World) (p e : Array Value) : ((w.alloc (.cells p 76)).alloc (.cells e 76)).heap[w.heap.size]? = some (.cells p 76 (0, 0)) ∧ ((w.alloc (.cells p 76)).alloc (.cells e 76)).heap[w.heap.size + 1]? = some (.cells e 76 (0, 0)) ∧ Below w.heap.size w ((w.alloc (.cells p 76)).alloc (.cells e 76)) := by
  refine ⟨(heap_alloc_old _ _ (by simp)).trans (heap_alloc_new _ _), ?_, ((Below.refl _ _).alloc (Nat.le_refl _) _).alloc (by simp) _⟩
  have := heap_alloc_new (w.alloc (.cells p 76)) (.cells e 76)
  rwa [World.size_alloc] at this

section
variable {w : World} {x : Nat} {C : Int} {vL vE : Value} {S : Nat → Ls} {L : Nat → Option Nat}

set_option maxRecDepth 100000 in
set_option maxHeartbeats 8000000 in
theorem canFollow_any {aE : Option Addr} {nE cE : Nat} {evs : List Ev} {A : Nat → Option Addr} {K : Nat → Nat} (h : TL w x C vL (.slice aE nE cE) S L) (hV : IsV w aE nE evs A K) (i : Nat) (hi : i < nE) (hn : nE ≤ 9223372036854775800) (st si ha ma ok op oc ol os : Int) (ad : Option Addr) (nd cd : Nat) (sp : Int) (hsp : stP evs i = sp) :
    Calls Tryz.prog 43 #[.pointer (some ⟨x, 0, none⟩), .int .i64 i, .agg #[.int .i64 st, .int .i64 si, .int .i64 ha, .int .i64 ma, .int .i64 ok, .int .i64 op, .int .u8 oc, .int .i64 ol, .int .i64 os, .slice ad nd cd]] w
      fun e w' => ∃ r : Bool, e = .returned (.bool r) ∧ (r = true ↔ (0 ≤ si ∧ si ≤ C ∧ sp ≤ st ∧ nd ≤ 4096)) ∧ Below w.heap.size w w' := by
  have hb : Below w.heap.size w (w.alloc (.cells #[.int .i64 st, .int .i64 si, .int .i64 ha, .int .i64 ma, .int .i64 ok, .int .i64 op, .int .u8 oc, .int .i64 ol, .int .i64 os, .slice ad nd cd] 76)) := (Below.refl _ _).alloc (Nat.le_refl _) _
  have hE := hd (heap_alloc_new w (.cells #[.int .i64 st, .int .i64 si, .int .i64 ha, .int .i64 ma, .int .i64 ok, .int .i64 op, .int .u8 oc, .int .i64 ol, .int .i64 os, .slice ad nd cd] 76))
  have HT := hd (h.below hb)
  have HV := hd (hV.below hb (Nat.le_refl _))
  have HB := hd hb
  clear hb h hV
  go_enter Tryz.func43, Tryz.ntmps43
  go_upto_region 1 with fail
  generalize w.alloc (.cells #[.int .i64 st, .int .i64 si, .int .i64 ha, .int .i64 ma, .int .i64 ok, .int .i64 op, .int .u8 oc, .int .i64 ol, .int .i64 os, .slice ad nd cd] 76) = w1 at *
  have e0 := cell_row hE.out 0; have e1 := cell_row hE.out 1; have e9 := cell_row hE.out 9
  simp at e0 e1 e9
  obtain ⟨x0, -, x2⟩ := HT.out.heads
  have HST := hd hsp
  have HIL : Hid (i < evs.length) := by have := HV.out.1; unfold Hid; omega
  clear hsp
  obtain hz | ⟨n, hz⟩ : i = 0 ∨ ∃ n, i = n + 1 := by cases i with | zero => exact .inl rfl | succ n => exact .inr ⟨n, rfl⟩

  · have k1 : ¬ (0 : Int) < (i : Int) := by omega
    have hs0 : sp = 0 := by rw [← HST.out, hz]; rfl
    clear hz
    subst hs0
    clear hi hn
    by_cases a0 : 0 ≤ si
    · have q0 : decide (0 ≤ si) = true := by simpa using a0
      by_cases a1 : si ≤ C
      · have q1 : decide (si ≤ C) = true := by simpa using a1
        by_cases a2 : (0 : Int) ≤ st
        · have q2 : decide ((0 : Int) ≤ st) = true := by simpa using a2
          have HR : Hid ((nd : Int) ≤ 4096 ↔ (0 ≤ si ∧ si ≤ C ∧ (0 : Int) ≤ st ∧ nd ≤ 4096)) := ⟨fun h => ⟨a0, a1, a2, by omega⟩, fun h => by have := h.2.2.2; omega⟩
          clear HST HIL a0 a1 a2
          go_wp2_with fail
          go_quiet (fail)
          go_wp2
          go_ret
          exact ⟨_, rfl, by rw [decide_eq_true_iff]; exact HR.out, below_drewN HB.out _⟩
        · have q2 : decide ((0 : Int) ≤ st) = false := by simpa using a2
          have HR : Hid (¬ (0 ≤ si ∧ si ≤ C ∧ (0 : Int) ≤ st ∧ nd ≤ 4096)) := fun h => a2 h.2.2.1
          clear HST HIL a0 a1 a2
          go_wp2_with fail
          go_quiet (fail)
          go_wp2
          go_ret
          first
            | exact .inl ⟨rfl, HR.out, below_drewN HB.out _⟩
            | exact ⟨false, rfl, iff_of_false (by decide) HR.out, below_drewN HB.out _⟩
      · have q1 : decide (si ≤ C) = false := by simpa using a1
        have HR : Hid (¬ (0 ≤ si ∧ si ≤ C ∧ (0 : Int) ≤ st ∧ nd ≤ 4096)) := fun h => a1 h.2.1
        clear HST HIL a0 a1
        go_wp2_with fail
        go_quiet (fail)
        go_wp2
        go_ret
        first
          | exact .inl ⟨rfl, HR.out, below_drewN HB.out _⟩
          | exact ⟨false, rfl, iff_of_false (by decide) HR.out, below_drewN HB.out _⟩
    · have q0 : decide (0 ≤ si) = false := by simpa using a0
      have HR : Hid (¬ (0 ≤ si ∧ si ≤ C ∧ (0 : Int) ≤ st ∧ nd ≤ 4096)) := fun h => a0 h.1
      clear HST HIL a0
      go_wp2_with fail
      go_quiet (fail)
      go_wp2
      go_ret
      first
        | exact .inl ⟨rfl, HR.out, below_drewN HB.out _⟩
        | exact ⟨false, rfl, iff_of_false (by decide) HR.out, below_drewN HB.out _⟩
  · have k1 : (0 : Int) < (i : Int) := by omega
    have k2 : wrap64 ((i : Int) - 1) = (n : Int) := by rw [wrap64_id (by omega) (by omega)]; omega
    have k3 : (n : Int) < (nE : Int) := by omega
    have ln : n < evs.length := by have := HIL.out; omega
    obtain ⟨b, off, rfl, s1, q⟩ := HV.out.2 (by omega)
    have q0 := (q n ln).1
    have hsn : evs[n].step = sp := by rw [← HST.out, hz]; simp [stP, List.getD, List.getElem?_eq_getElem ln]
    rw [hsn] at q0
    clear q hsn hz hi hn ln s1
    by_cases a0 : 0 ≤ si
    · have q0 : decide (0 ≤ si) = true := by simpa using a0
      by_cases a1 : si ≤ C
      · have q1 : decide (si ≤ C) = true := by simpa using a1
        by_cases a2 : sp ≤ st
        · have q2 : decide (sp ≤ st) = true := by simpa using a2
          have HR : Hid ((nd : Int) ≤ 4096 ↔ (0 ≤ si ∧ si ≤ C ∧ sp ≤ st ∧ nd ≤ 4096)) := ⟨fun h => ⟨a0, a1, a2, by omega⟩, fun h => by have := h.2.2.2; omega⟩
          clear HST HIL a0 a1 a2
          go_wp2_with fail
          go_quiet (fail)
          go_wp2
          go_ret
          exact ⟨_, rfl, by rw [decide_eq_true_iff]; exact HR.out, below_drewN HB.out _⟩
        · have q2 : decide (sp ≤ st) = false := by simpa using a2
          have HR : Hid (¬ (0 ≤ si ∧ si ≤ C ∧ sp ≤ st ∧ nd ≤ 4096)) := fun h => a2 h.2.2.1
          clear HST HIL a0 a1 a2
          go_wp2_with fail
          go_quiet (fail)
          go_wp2
          go_ret
          first
            | exact .inl ⟨rfl, HR.out, below_drewN HB.out _⟩
            | exact ⟨false, rfl, iff_of_false (by decide) HR.out, below_drewN HB.out _⟩
      · have q1 : decide (si ≤ C) = false := by simpa using a1
        have HR : Hid (¬ (0 ≤ si ∧ si ≤ C ∧ sp ≤ st ∧ nd ≤ 4096)) := fun h => a1 h.2.1
        clear HST HIL a0 a1
        go_wp2_with fail
        go_quiet (fail)
        go_wp2
        go_ret
        first
          | exact .inl ⟨rfl, HR.out, below_drewN HB.out _⟩
          | exact ⟨false, rfl, iff_of_false (by decide) HR.out, below_drewN HB.out _⟩
    · have q0 : decide (0 ≤ si) = false := by simpa using a0
      have HR : Hid (¬ (0 ≤ si ∧ si ≤ C ∧ sp ≤ st ∧ nd ≤ 4096)) := fun h => a0 h.1
      clear HST HIL a0
      go_wp2_with fail
      go_quiet (fail)
      go_wp2
      go_ret
      first
        | exact .inl ⟨rfl, HR.out, below_drewN HB.out _⟩
        | exact ⟨false, rfl, iff_of_false (by decide) HR.out, below_drewN HB.out _⟩

set_option maxRecDepth 100000 in
set_option maxHeartbeats 8000000 in
theorem canMake_any {aL : Option Addr} {nL cL : Nat} {log : List Ed} (h : TL w x C (.slice aL nL cL) vE S L) (hL : IsL w aL nL log) (hS : ∀ c : Nat, c < 65 → S c = .ns (lgAt log log.length c)) (pst psi pha pma pok pop poc pol pos st si ha ma ok op oc ol os : Int) (pad ad : Option Addr) (pnd pcd nd cd : Nat) (h0 : 0 ≤ oc) (h1 : oc ≤ 255) (hm : 0 ≤ pma ∧ pma ≤ 9223372036854775800) (G : Prop) (hG : G ↔ ((ol = si ∧ os = ma ∧ ma = pma + 1 ∧ ha = pha) ∧ chP ⟨ok, op, oc, ol, os⟩ = true ∧ fitsP pnd ⟨ok, op, oc, ol, os⟩ = 0 ∧ asL log ⟨ha, ⟨ok, op, oc, ol, os⟩⟩)) :
    Calls Tryz.prog 82 #[.pointer (some ⟨x, 0, none⟩), .agg #[.int .i64 pst, .int .i64 psi, .int .i64 pha, .int .i64 pma, .int .i64 pok, .int .i64 pop, .int .u8 poc, .int .i64 pol, .int .i64 pos, .slice pad pnd pcd], .agg #[.int .i64 st, .int .i64 si, .int .i64 ha, .int .i64 ma, .int .i64 ok, .int .i64 op, .int .u8 oc, .int .i64 ol, .int .i64 os, .slice ad nd cd]] w
      fun e w' => ∃ r : Bool, e = .returned (.bool r) ∧ (r = true ↔ G) ∧ Below w.heap.size w w' := by
  have HGd := hd hG
  clear hG
  have ew : wrap64 (pma + 1) = pma + 1 := wrap64_id (by omega) (by omega)
  have BX := hd (bx2_mk w #[.int .i64 pst, .int .i64 psi, .int .i64 pha, .int .i64 pma, .int .i64 pok, .int .i64 pop, .int .u8 poc, .int .i64 pol, .int .i64 pos, .slice pad pnd pcd] #[.int .i64 st, .int .i64 si, .int .i64 ha, .int .i64 ma, .int .i64 ok, .int .i64 op, .int .u8 oc, .int .i64 ol, .int .i64 os, .slice ad nd cd])
  have CI := hd (fun W => isEdit_any ok op oc ol os W h0 h1)
  have CF := hd (fun W => fits_any pnd ok op oc ol os W h0 h1)
  have CE := hd (fun W => editOf_any st si ha ma ok op oc ol os ad nd cd W)
  have HT := hd h
  have HL := hd hL
  have HS := hd hS
  clear h hL hS hm h0 h1
  go_enter Tryz.func82, Tryz.ntmps82
  go_upto_region 1 with fail
  generalize (w.alloc (.cells #[.int .i64 pst, .int .i64 psi, .int .i64 pha, .int .i64 pma, .int .i64 pok, .int .i64 pop, .int .u8 poc, .int .i64 pol, .int .i64 pos, .slice pad pnd pcd] 76)).alloc (.cells #[.int .i64 st, .int .i64 si, .int .i64 ha, .int .i64 ma, .int .i64 ok, .int .i64 op, .int .u8 oc, .int .i64 ol, .int .i64 os, .slice ad nd cd] 76) = w1 at *
  have lP := block_lt BX.out.1
  have lE := block_lt BX.out.2.1
  have e0 := cell_row BX.out.2.1 0; have e1 := cell_row BX.out.2.1 1; have e2 := cell_row BX.out.2.1 2; have e3 := cell_row BX.out.2.1 3; have e4 := cell_row BX.out.2.1 4; have e5 := cell_row BX.out.2.1 5; have e6 := cell_row BX.out.2.1 6; have e7 := cell_row BX.out.2.1 7; have e8 := cell_row BX.out.2.1 8; have e9 := cell_row BX.out.2.1 9
  have p2 := cell_row BX.out.1 2; have p3 := cell_row BX.out.1 3; have p9 := cell_row BX.out.1 9
  simp at e0 e1 e2 e3 e4 e5 e6 e7 e8 e9 p2 p3 p9
  by_cases a0 : ol = si
  · subst a0
    by_cases a1 : os = ma
    · subst a1
      by_cases a2 : os = pma + 1
      · have b2 : (os == pma + 1) = true := by simpa using a2
        by_cases a3 : ha = pha
        · subst a3
          have HQ := hd a2
          clear a2
          go_wp2_with fail
          refine (CI.out _).mono ?_
          rintro e u1 ⟨rfl, b1⟩
          have e0 := (b1.cell (p := ⟨w.heap.size + 1, 0, none⟩) lE).trans e0
          have e1 := (b1.cell (p := ⟨w.heap.size + 1, 1, none⟩) lE).trans e1
          have e2 := (b1.cell (p := ⟨w.heap.size + 1, 2, none⟩) lE).trans e2
          have e3 := (b1.cell (p := ⟨w.heap.size + 1, 3, none⟩) lE).trans e3
          have e4 := (b1.cell (p := ⟨w.heap.size + 1, 4, none⟩) lE).trans e4
          have e5 := (b1.cell (p := ⟨w.heap.size + 1, 5, none⟩) lE).trans e5
          have e6 := (b1.cell (p := ⟨w.heap.size + 1, 6, none⟩) lE).trans e6
          have e7 := (b1.cell (p := ⟨w.heap.size + 1, 7, none⟩) lE).trans e7
          have e8 := (b1.cell (p := ⟨w.heap.size + 1, 8, none⟩) lE).trans e8
          have e9 := (b1.cell (p := ⟨w.heap.size + 1, 9, none⟩) lE).trans e9
          have p2 := (b1.cell (p := ⟨w.heap.size, 2, none⟩) lP).trans p2
          have p3 := (b1.cell (p := ⟨w.heap.size, 3, none⟩) lP).trans p3
          have p9 := (b1.cell (p := ⟨w.heap.size, 9, none⟩) lP).trans p9
          have lP := Nat.lt_of_lt_of_le lP b1.size
          have lE := Nat.lt_of_lt_of_le lE b1.size
          have B1 := hd (BX.out.2.2.trans (b1.mono BX.out.2.2.size))
          clear b1
          cases hch : chP ⟨ok, op, oc, ol, os⟩ with
          | false =>
            have HR : Hid (¬ G) := fun h => by have := (HGd.out.1 h).2.1; rw [hch] at this; cases this
            clear hch
            go_wp2
            go_ret
            first
              | exact .inl ⟨rfl, HR.out, B1.out⟩
              | exact ⟨false, rfl, iff_of_false (by decide) HR.out, B1.out⟩
          | true =>
            have HC := hd hch
            clear hch
            go_wp2_with fail
            refine (CF.out _).mono ?_
            rintro e u2 ⟨rfl, b2'⟩
            have e0 := (b2'.cell (p := ⟨w.heap.size + 1, 0, none⟩) lE).trans e0
            have e1 := (b2'.cell (p := ⟨w.heap.size + 1, 1, none⟩) lE).trans e1
            have e2 := (b2'.cell (p := ⟨w.heap.size + 1, 2, none⟩) lE).trans e2
            have e3 := (b2'.cell (p := ⟨w.heap.size + 1, 3, none⟩) lE).trans e3
            have e4 := (b2'.cell (p := ⟨w.heap.size + 1, 4, none⟩) lE).trans e4
            have e5 := (b2'.cell (p := ⟨w.heap.size + 1, 5, none⟩) lE).trans e5
            have e6 := (b2'.cell (p := ⟨w.heap.size + 1, 6, none⟩) lE).trans e6
            have e7 := (b2'.cell (p := ⟨w.heap.size + 1, 7, none⟩) lE).trans e7
            have e8 := (b2'.cell (p := ⟨w.heap.size + 1, 8, none⟩) lE).trans e8
            have e9 := (b2'.cell (p := ⟨w.heap.size + 1, 9, none⟩) lE).trans e9
            have p2 := (b2'.cell (p := ⟨w.heap.size, 2, none⟩) lP).trans p2
            have p3 := (b2'.cell (p := ⟨w.heap.size, 3, none⟩) lP).trans p3
            have p9 := (b2'.cell (p := ⟨w.heap.size, 9, none⟩) lP).trans p9
            have B2 := hd (B1.out.trans (b2'.mono B1.out.size))
            have lE := Nat.lt_of_lt_of_le lE b2'.size
            have lP := Nat.lt_of_lt_of_le lP b2'.size
            clear b2'
            by_cases hf : fitsP pnd ⟨ok, op, oc, ol, os⟩ = 0
            · rw [hf]
              have HF := hd hf
              clear hf
              obtain ⟨r1, r2, r3, r4⟩ := chP_range HC.out
              simp only at r1 r2 r3 r4
              obtain ⟨cN, rfl⟩ : ∃ cN : Nat, ol = (cN : Int) := ⟨ol.toNat, by omega⟩
              have HC65 : Hid (cN < 65 ∧ 1 ≤ os) := ⟨by omega, r3⟩
              clear r1 r2 r3 r4
              go_wp2_with fail
              refine (CE.out _).mono ?_
              rintro e u3 ⟨rfl, b3⟩
              have B3 := hd (B2.out.trans (b3.mono B2.out.size))
              clear b3
              have AL := hd (asLogged_any (HT.out.fr (T := fun _ => False) (Fr.of_below B3.out) (fun h => h) (fun _ _ _ _ h => h)) (HL.out.below B3.out (Nat.le_refl _)) ha ok op oc os cN HC65.out.1 HC65.out.2 _ (HS.out cN HC65.out.1) (fun k hk => (lgAt_lt hk).1) _ (Iff.refl _))
              go_wp2_with fail
              refine AL.out.mono ?_
              rintro e u4 ⟨r, rfl, hr, b4⟩
              have B4 := hd (B3.out.trans (b4.mono B3.out.size))
              have HR : Hid (r = true ↔ G) := by
                rw [Hid, hr, HGd.out]
                unfold asL
                exact ⟨fun h => ⟨⟨by first | trivial | rfl, by first | trivial | rfl, by first | exact HQ.out | trivial, by first | trivial | rfl⟩, by first | exact HC.out | trivial, by first | exact HF.out | trivial, h⟩, fun h => h.2.2.2⟩
              clear hr b4 AL
              cases r with
              | true =>
                have yG : Hid G := HR.out.1 rfl
                clear HR
                go_wp2
                go_ret
                first
                  | exact .inr ⟨rfl, yG.out, B4.out⟩
                  | exact ⟨true, rfl, iff_of_true rfl yG.out, B4.out⟩
              | false =>
                have nG : Hid (¬ G) := fun h => by have := HR.out.2 h; cases this
                clear HR
                go_wp2
                go_ret
                first
                  | exact .inl ⟨rfl, nG.out, B4.out⟩
                  | exact ⟨false, rfl, iff_of_false (by decide) nG.out, B4.out⟩
            · have kf : (fitsP pnd ⟨ok, op, oc, ol, os⟩ == 0) = false := by simpa using hf
              have HR : Hid (¬ G) := fun h => hf (HGd.out.1 h).2.2.1
              clear hf
              clear HGd
              generalize fitsP pnd ⟨ok, op, oc, ol, os⟩ = ft at *
              go_wp2
              go_ret
              first
                | exact .inl ⟨rfl, HR.out, B2.out⟩
                | exact ⟨false, rfl, iff_of_false (by decide) HR.out, B2.out⟩
        · have kb : (ha == pha) = false := by simpa using a3
          have HR : Hid (¬ G) := fun h => a3 (HGd.out.1 h).1.2.2.2
          clear a3
          go_wp2
          go_ret
          first
            | exact .inl ⟨rfl, HR.out, BX.out.2.2⟩
            | exact ⟨false, rfl, iff_of_false (by decide) HR.out, BX.out.2.2⟩
      · have kb : (os == pma + 1) = false := by simpa using a2
        have HR : Hid (¬ G) := fun h => a2 (HGd.out.1 h).1.2.2.1
        clear a2
        go_wp2
        go_ret
        first
          | exact .inl ⟨rfl, HR.out, BX.out.2.2⟩
          | exact ⟨false, rfl, iff_of_false (by decide) HR.out, BX.out.2.2⟩
    · have kb : (os == ma) = false := by simpa using a1
      have HR : Hid (¬ G) := fun h => a1 (HGd.out.1 h).1.2.1
      clear a1
      go_wp2
      go_ret
      first
        | exact .inl ⟨rfl, HR.out, BX.out.2.2⟩
        | exact ⟨false, rfl, iff_of_false (by decide) HR.out, BX.out.2.2⟩
  · have kb : (ol == si) = false := by simpa using a0
    have HR : Hid (¬ G) := fun h => a0 (HGd.out.1 h).1.1
    clear a0
    go_wp2
    go_ret
    first
      | exact .inl ⟨rfl, HR.out, BX.out.2.2⟩
      | exact ⟨false, rfl, iff_of_false (by decide) HR.out, BX.out.2.2⟩
end

end Go.Proofs.YtfhghijefjhehaaGreatDoor
