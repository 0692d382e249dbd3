/-
  The answer of the document: read.
-/
import Derived.Test.YtibnlfdnnlbeeaaDoorRg
import Derived.Deep.DeepCutAuto
namespace Go.Proofs.YtibnlfdnnlbeeaaDoor
open Go.RowKit
set_option linter.unusedVariables false

structure QS (w wr : World) (rb mb : Nat) (M : Nat → Int) : Prop where
  res : MB wr rb (fun _ => 0)
  m : MB wr mb M
  bel : Below w.heap.size w wr
  o1 : w.heap.size ≤ rb
  o2 : rb < mb
theorem QS.below {w wr w' : World} {rb mb : Nat} {M : Nat → Int} (h : QS w wr rb mb M) (hb : Below wr.heap.size wr w') : QS w w' rb mb M :=
  ⟨h.res.below hb, h.m.below hb, h.bel.trans (hb.mono h.bel.size), h.o1, h.o2⟩
theorem QS.put {w wr w' : World} {rb mb : Nat} {M U : Nat → Int} (h : QS w wr rb mb M) (hb : But mb wr w') (hm : MB w' mb U) : QS w w' rb mb U :=
  ⟨h.res.but hb (Nat.ne_of_lt h.o2), hm, h.bel.trans (hb.below h.bel.size (by have := h.o1; have := h.o2; omega)), h.o1, h.o2⟩

/-- All the fields may be, up to k of them. -/
def heldTo (M : Nat → Int) (base k : Nat) : Prop := ∀ i, i < k → holdsP M (base + i) = true
/-- What read answers. -/
def RefO (w : World) (nm base len : Nat) (bs : List Int) (e : Ending) (w' : World) : Prop := Below w.heap.size w w' ∧
  ((heldTo (MV (valsTo nm bs (base + len))) base len ∧ e = .returned (.tuple #[.agg #[.int .i64 ((MV (valsTo nm bs (base + len))) 0), .int .i64 ((MV (valsTo nm bs (base + len))) 1), .int .i64 ((MV (valsTo nm bs (base + len))) 2), .int .i64 ((MV (valsTo nm bs (base + len))) 3), .int .i64 ((MV (valsTo nm bs (base + len))) 4), .int .i64 ((MV (valsTo nm bs (base + len))) 5), .int .i64 ((MV (valsTo nm bs (base + len))) 6), .int .i64 ((MV (valsTo nm bs (base + len))) 7), .int .i64 ((MV (valsTo nm bs (base + len))) 8), .int .i64 ((MV (valsTo nm bs (base + len))) 9), .int .i64 ((MV (valsTo nm bs (base + len))) 10), .int .u8 ((MV (valsTo nm bs (base + len))) 11), .int .i64 ((MV (valsTo nm bs (base + len))) 12), .int .i64 ((MV (valsTo nm bs (base + len))) 13)], .int .i64 0, .int .i64 0])) ∨
   (∃ k, k < len ∧ heldTo (MV (valsTo nm bs (base + len))) base k ∧ holdsP (MV (valsTo nm bs (base + len))) (base + k) = false ∧ e = .returned (.tuple #[.agg #[.int .i64 ((MV (valsTo nm bs (base + len))) 0), .int .i64 ((MV (valsTo nm bs (base + len))) 1), .int .i64 ((MV (valsTo nm bs (base + len))) 2), .int .i64 ((MV (valsTo nm bs (base + len))) 3), .int .i64 ((MV (valsTo nm bs (base + len))) 4), .int .i64 ((MV (valsTo nm bs (base + len))) 5), .int .i64 ((MV (valsTo nm bs (base + len))) 6), .int .i64 ((MV (valsTo nm bs (base + len))) 7), .int .i64 ((MV (valsTo nm bs (base + len))) 8), .int .i64 ((MV (valsTo nm bs (base + len))) 9), .int .i64 ((MV (valsTo nm bs (base + len))) 10), .int .u8 ((MV (valsTo nm bs (base + len))) 11), .int .i64 ((MV (valsTo nm bs (base + len))) 12), .int .i64 ((MV (valsTo nm bs (base + len))) 13)], .int .i64 ((base + k : Nat) : Int), .int .i64 (posAt nm (base + k))])))

theorem vals11 (nm : Nat) (bs : List Int) (k : Nat) (hR : Rng bs) : 0 ≤ MV (valsTo nm bs k) 11 ∧ MV (valsTo nm bs k) 11 ≤ 255 := by
  have h11 : hasP 1512 11 = false := by decide
  have h := hR.get (posAt nm 11)
  have e : MV (valsTo nm bs k) 11 = if 11 < k then (if hasP nm 11 then bs.getD (posAt nm 11) 0 else 0) else 0 := by simp [MV, valsTo, fldV, h11]
  rw [e]
  split
  · split
    · exact h
    · simp
  · simp

set_option maxRecDepth 100000 in
set_option maxHeartbeats 8000000 in
theorem rread_any (a : Option Addr) (n c : Nat) (bs : List Int) (nm base len lb : Nat) (w : World) (hB : IsB w a n c bs) (hR : Rng bs) (hK : KL nm base len) (hl : IsL w lb base len) (hn : n = sizeP nm) :
    Calls Tryd.prog 32 #[.int .i64 5, .slice (some ⟨lb, 0, none⟩) len len, .slice a n c, .int .i64 1] w (RefO w nm base len bs) := by
  suffices h : ∀ Q : Ending → World → Prop, (∀ e w', RefO w nm base len bs e w' → Q e w') → Calls Tryd.prog 32 #[.int .i64 5, .slice (some ⟨lb, 0, none⟩) len len, .slice a n c, .int .i64 1] w Q from h _ (fun _ _ h => h)
  intro Q hQ
  have HQ := hd hQ
  have HK := hd hK
  have HLs := hd hl
  have HB := hd hB
  have HR := hd hR
  have hl6 : len ≤ 6 ∧ 1 ≤ base ∧ base + len ≤ 14 := by rcases hK with ⟨-, rfl, rfl⟩ | ⟨-, rfl, rfl⟩ <;> omega
  have hn9 : n ≤ 9 ∧ 0 < n := by
    subst hn
    rcases hK with ⟨rfl, -, -⟩ | ⟨rfl, -, -⟩ <;> decide
  have hstop : posAt nm (base + len) = n := hK.stop.trans hn.symm
  have HSTOP := hd hstop
  have hst : Hid (posAt nm base = 1) := hK.start
  obtain ⟨bb, off, rfl, hbb, hcells⟩ := hB.2.2.2 hn9.2
  have hbl := hB.1
  have HBC : Hid (∀ wr, Below w.heap.size w wr → ∀ i, i < n → wr.cell? ⟨bb, off + i, none⟩ = some (.int .u8 (bs.getD i 0))) := fun wr hb i hi => by
    rw [hb.cell (p := ⟨bb, off + i, none⟩) hbb, hcells i hi]
  have S0 : Hid (QS w ((w.alloc (.cells #[.int .i64 0, .int .i64 0, .int .i64 0, .int .i64 0, .int .i64 0, .int .i64 0, .int .i64 0, .int .i64 0, .int .i64 0, .int .i64 0, .int .i64 0, .int .u8 0, .int .i64 0, .int .i64 0] 63)).alloc (.cells #[.int .i64 5, .int .i64 0, .int .i64 0, .int .i64 0, .int .i64 0, .int .i64 0, .int .i64 0, .int .i64 0, .int .i64 0, .int .i64 0, .int .i64 0, .int .u8 0, .int .i64 0, .int .i64 0] 63)) w.heap.size (w.heap.size + 1) (MV (valsTo nm bs base))) := by
    refine ⟨(heap_alloc_old _ _ (by simp)).trans (heap_alloc_new _ _), ?_, ((Below.refl _ _).alloc (Nat.le_refl _) _).alloc (by simp) _, Nat.le_refl _, Nat.lt_succ_self _⟩
    have := heap_alloc_new (w.alloc (.cells #[.int .i64 0, .int .i64 0, .int .i64 0, .int .i64 0, .int .i64 0, .int .i64 0, .int .i64 0, .int .i64 0, .int .i64 0, .int .i64 0, .int .i64 0, .int .u8 0, .int .i64 0, .int .i64 0] 63)) (.cells #[.int .i64 5, .int .i64 0, .int .i64 0, .int .i64 0, .int .i64 0, .int .i64 0, .int .i64 0, .int .i64 0, .int .i64 0, .int .i64 0, .int .i64 0, .int .u8 0, .int .i64 0, .int .i64 0] 63)
    rw [World.size_alloc] at this
    refine this.trans ?_
    rcases hK with ⟨rfl, rfl, rfl⟩ | ⟨rfl, rfl, rfl⟩ <;> simp [MV, valsTo, fldV, hasP]
  clear hQ hK hl hB hR hcells hstop hn
  go_enter Tryd.func32, Tryd.ntmps32
  go_wp2_with fail
  generalize (w.alloc (.cells #[.int .i64 0, .int .i64 0, .int .i64 0, .int .i64 0, .int .i64 0, .int .i64 0, .int .i64 0, .int .i64 0, .int .i64 0, .int .i64 0, .int .i64 0, .int .u8 0, .int .i64 0, .int .i64 0] 63)).alloc (.cells #[.int .i64 5, .int .i64 0, .int .i64 0, .int .i64 0, .int .i64 0, .int .i64 0, .int .i64 0, .int .i64 0, .int .i64 0, .int .i64 0, .int .i64 0, .int .u8 0, .int .i64 0, .int .i64 0] 63) = w0 at *
  go_loopw [12, 13] (fun x i wr => ∃ k : Nat, k ≤ len ∧ i = .int .i64 k ∧ x = .int .i64 (posAt nm (base + k)) ∧ Hid (QS w wr w.heap.size (w.heap.size + 1) (MV (valsTo nm bs (base + k))))) (fun _ i _ => len - (intOf i).toNat)
  case atStart => exact ⟨0, Nat.zero_le _, rfl, by rw [Nat.add_zero, hst.out]; rfl, by rw [Nat.add_zero]; exact S0⟩
  case round =>
    obtain ⟨k, hk, rfl, rfl, hr⟩ := hrel
    clear S0
    by_cases hlt : k < len
    · have i1 : (k : Int) < (len : Int) := by omega
      have i0 : (0 : Int) ≤ k := by omega
      have hf14 : base + k < 14 := by omega
      have hfld := HK.out.fld k hlt
      have hst1 := posAt_succ nm (base + k)
      have hw : wdt nm (base + k) = if hasP 1512 (base + k) then 2 else 1 := by simp [wdt, HK.out.has k hlt]
      rw [hw] at hst1
      have hle : posAt nm (base + k + 1) ≤ n := by rw [← HSTOP.out]; exact posAt_mono nm (by omega)
      have hcl0 := HLs.out.2 k hlt
      have cl := (hr.out.bel.cell (p := ⟨lb, k, none⟩) HLs.out.1).trans (HLs.out.2 k hlt)
      obtain ⟨f, hf⟩ : ∃ f, base + k = f := ⟨_, rfl⟩
      have HN : Hid (base + (k + 1) = f + 1) := hd (by omega)
      have hhas := HK.out.has k hlt
      rw [hf] at cl hf14 hst1 hle hfld hr hhas hcl0
      rw [hf]
      have CW : Hid (∀ U, Calls Tryd.prog 48 #[.int .i64 f] U fun e w' => e = .returned (.int .i64 (if hasP 1512 f then 2 else 1)) ∧ w' = U) := fun U => wide_any f U hf14
      have HFLD := hd hfld
      have HF1 : Hid (1 ≤ f) := hd (by omega)
      clear hw hf hfld
      obtain ⟨b3, hb3⟩ : ∃ b, hasP 1512 f = b := ⟨_, rfl⟩
      rw [hb3] at CW hst1
      have H3 := hd hb3
      have HH := hd hhas
      obtain ⟨P, hP⟩ : ∃ P, posAt nm f = P := ⟨_, rfl⟩
      have HP := hd hP
      rw [hP] at hst1
      have hst1' := hst1
      have HCL := hd hcl0
      clear hcl0
      rw [hP]
      clear hb3 hP hhas
      have cb := HBC.out _ hr.out.bel P (by cases b3 <;> simp at hst1 <;> omega)
      have rg := HR.out.get P
      obtain ⟨x0, hx0⟩ : ∃ x, bs.getD P 0 = x := ⟨_, rfl⟩
      have HX0 := hd hx0
      rw [hx0] at cb rg
      clear hx0
      have p0 : (P : Int) < n := by cases b3 <;> simp at hst1 <;> omega
      have q0 : Hid (posAt nm (f + 1) = P + (if b3 = true then 2 else 1)) := hst1
      have p1 : b3 = true → (P : Int) + 1 < n := fun h => by rw [h] at hst1; simp at hst1; omega
      have HP1 := hd p1
      obtain ⟨v, hv⟩ : ∃ v, fldV nm bs f = v := ⟨_, rfl⟩
      have EV : Hid (v = if b3 = true then 256 * x0 + bs.getD (P + 1) 0 else x0) := hd (by
        rw [← hv]
        unfold fldV
        rw [if_neg (show ¬ f = 0 by have := HF1.out; omega), if_pos HH.out, HP.out, H3.out]
        cases b3
        · simp; exact HX0.out
        · simp; rw [← HX0.out]; simp; omega)
      have HV0 := hd hv
      clear hv p1 hst1 hst1' hle
      have B1 : Hid (b3 = true → ∀ wr, Below w.heap.size w wr → wr.cell? ⟨bb, off + (P + 1), none⟩ = some (.int .u8 (bs.getD (P + 1) 0))) := hd (fun h wr hb => HBC.out wr hb (P + 1) (by have := HP1.out h; omega))
      have rg1 := HR.out.get (P + 1)
      obtain ⟨x1, hx1⟩ : ∃ x, bs.getD (P + 1) 0 = x := ⟨_, rfl⟩
      rw [hx1] at rg1 EV B1
      have HX1 := hd hx1
      clear hx1
      have HV : Hid (0 ≤ v ∧ v ≤ 65535) := hd (by rw [EV.out]; split <;> omega)
      have HC : Hid (f = 11 → v ≤ 255) := hd (fun h => by
        have hb : b3 = false := by rw [← H3.out, h]; decide
        rw [EV.out, hb]
        simp
        omega)
      have S1 := hr
      have HPB : Hid (P ≤ 9) := hd (by omega)
      go_wp2_with fail
      refine (CW.out _).mono ?_
      rintro e w1 ⟨rfl, hw1⟩
      subst hw1
      go_upto_if 35 with fail
      go_cut [14] (fun vv wx => vv = .int .i64 v ∧ wx = w1)
      case first =>
        cases b3 with
        | true =>
          have cb1 := B1.out rfl _ hr.out.bel
          have p1 := HP1.out rfl
          have ev := EV.out
          simp only [if_true] at ev
          have EV2 := hd ev
          clear ev hr cb
          go_wp2_with fail
          go_meet
          exact ⟨by rw [EV2.out], rfl⟩
        | false =>
          have ev := EV.out
          simp at ev
          have EV2 := hd ev
          clear ev hr cb
          go_wp2_with fail
          go_meet
          exact ⟨by rw [EV2.out], rfl⟩
      case rest =>
        obtain ⟨rfl, hcw⟩ := hcut
        subst hcw
        clear hr cb rg rg1 HBC EV B1 HP1 p0
        obtain ⟨M, hM⟩ : ∃ M, MV (valsTo nm bs f) = M := ⟨_, rfl⟩
        have HM := hd hM
        rw [hM] at S1
        clear hM
        obtain ⟨U0, hU0⟩ : ∃ U0, upd M f v = U0 := ⟨_, rfl⟩
        have PM : Hid (∀ U, Below wc.heap.size wc U → Calls Tryd.prog 49 #[.agg #[.int .i64 (M 0), .int .i64 (M 1), .int .i64 (M 2), .int .i64 (M 3), .int .i64 (M 4), .int .i64 (M 5), .int .i64 (M 6), .int .i64 (M 7), .int .i64 (M 8), .int .i64 (M 9), .int .i64 (M 10), .int .u8 (M 11), .int .i64 (M 12), .int .i64 (M 13)], .int .i64 f, .int .i64 v] U fun e w' => e = .returned (.agg #[.int .i64 (U0 0), .int .i64 (U0 1), .int .i64 (U0 2), .int .i64 (U0 3), .int .i64 (U0 4), .int .i64 (U0 5), .int .i64 (U0 6), .int .i64 (U0 7), .int .i64 (U0 8), .int .i64 (U0 9), .int .i64 (U0 10), .int .u8 (U0 11), .int .i64 (U0 12), .int .i64 (U0 13)]) ∧ Below wc.heap.size wc w') := fun U hU => by
          rw [← hU0]
          refine (mput_any M f v U HFLD.out HV.out HC.out).mono ?_
          rintro e w' ⟨rfl, b⟩
          exact ⟨rfl, hU.trans (b.mono hU.size)⟩
        have HU0 := hd hU0
        clear hU0
        obtain ⟨c0, c1, c2, c3, c4, c5, c6, c7, c8, c9, c10, c11, c12, c13⟩ := S1.out.m.at
        have F1 := HF1
        go_wp2_with fail
        have EU : Hid (U0 = MV (valsTo nm bs (f + 1))) := hd (by rw [← HU0.out, ← HM.out, MV_upd _ _ _ (by have := F1.out; omega), valsTo_step nm bs f (by have := F1.out; omega), HV0.out])
        go_cut [] (fun wx => Hid (QS w wx w.heap.size (w.heap.size + 1) U0))
        case first =>
          go_region_with (go_at_call 49; refine (PM.out _ ?_).mono ?_; (first | exact Below.refl _ _ | exact (Below.refl _ _).drew | exact below_drewN (Below.refl _ _) _); rintro e u ⟨rfl, bu⟩; have S2 := S1.out.below bu; obtain ⟨d0, d1, d2, d3, d4, d5, d6, d7, d8, d9, d10, d11, d12, d13⟩ := S2.m.at; have g0 := frozen_row S2.m 0; have g1 := frozen_row S2.m 1; have g2 := frozen_row S2.m 2; have g3 := frozen_row S2.m 3; have g4 := frozen_row S2.m 4; have g5 := frozen_row S2.m 5; have g6 := frozen_row S2.m 6; have g7 := frozen_row S2.m 7; have g8 := frozen_row S2.m 8; have g9 := frozen_row S2.m 9; have g10 := frozen_row S2.m 10; have g11 := frozen_row S2.m 11; have g12 := frozen_row S2.m 12; have g13 := frozen_row S2.m 13)
          all_goals
            obtain ⟨A1, A2⟩ := S2.m.all U0
            have Z2 := S2.put A2 A1
            have Z3 := hd Z2
            clear A1 A2 Z2 bu
            go_wp2_with fail
            go_meet
            exact Z3
        case rest =>
          have cl2 := (hcut.out.bel.cell (p := ⟨lb, k, none⟩) HLs.out.1).trans HCL.out
          clear S1 PM c0 c1 c2 c3 c4 c5 c6 c7 c8 c9 c10 c11 c12 c13
          go_wp2_with fail
          refine (CW.out _).mono ?_
          rintro e w3 ⟨rfl, hw3⟩
          subst hw3
          have EE : Hid ((posAt nm (f + 1) : Int) = (P : Int) + (if b3 = true then 2 else 1)) := hd (by rw [q0.out]; split <;> simp)
          have Z : Hid (QS w w3 w.heap.size (w.heap.size + 1) (MV (valsTo nm bs (f + 1)))) := hd (by rw [← EU.out]; exact hcut.out)
          clear hcut cl2
          cases b3
          · go_wp2
            exact ⟨⟨k + 1, by omega, by go_num, by rw [HN.out, EE.out]; simp; have := HPB.out; unfold wrap64; omega, by rw [HN.out]; exact Z⟩, by simp [intOf]; omega⟩
          · go_wp2
            exact ⟨⟨k + 1, by omega, by go_num, by rw [HN.out, EE.out]; simp; have := HPB.out; unfold wrap64; omega, by rw [HN.out]; exact Z⟩, by simp [intOf]; omega⟩
    · obtain rfl : k = len := by omega
      have i1 : ¬ (k : Int) < (k : Int) := by omega
      obtain ⟨M, hM⟩ : ∃ M, MV (valsTo nm bs (base + k)) = M := ⟨_, rfl⟩
      rw [hM] at hr
      have HM := hd hM
      have CH : Hid (∀ f, 1 ≤ f → f < 14 → ∀ V U, Below V.heap.size V U → Calls Tryd.prog 28 #[.agg #[.int .i64 (M 0), .int .i64 (M 1), .int .i64 (M 2), .int .i64 (M 3), .int .i64 (M 4), .int .i64 (M 5), .int .i64 (M 6), .int .i64 (M 7), .int .i64 (M 8), .int .i64 (M 9), .int .i64 (M 10), .int .u8 (M 11), .int .i64 (M 12), .int .i64 (M 13)], .int .i64 (f : Nat)] U fun e w' => e = .returned (.bool (holdsP M f)) ∧ Below V.heap.size V w') := fun f h1 h2 V U hU => by
        refine (holds_any M f U h1 h2 (by rw [← HM.out]; rfl) (by rw [← HM.out]; exact vals11 nm bs _ HR.out)).mono ?_
        rintro e w' ⟨rfl, b⟩
        exact ⟨rfl, hU.trans (b.mono hU.size)⟩
      clear hM
      have R0 : Hid (heldTo M base 0) := fun i hi => absurd hi (Nat.not_lt_zero _)
      go_wp2
      go_loopw [12, 15] (fun x i wr => ∃ q : Nat, q ≤ k ∧ i = .int .i64 q ∧ x = .int .i64 (posAt nm (base + q)) ∧ Hid (heldTo M base q) ∧ Hid (QS w wr w.heap.size (w.heap.size + 1) M)) (fun _ i _ => k - (intOf i).toNat)
      case atStart => exact ⟨0, Nat.zero_le _, rfl, by rw [Nat.add_zero, hst.out]; rfl, R0, hr⟩
      case round =>
        obtain ⟨q, hq, rfl, rfl, hh, hr2⟩ := hrel
        clear R0 hr
        by_cases hlt2 : q < k
        · have i2 : (q : Int) < (k : Int) := by omega
          have i0 : (0 : Int) ≤ q := by omega
          have hf14 : base + q < 14 := by omega
          have hcl0 := HLs.out.2 q hlt2
          have cl := (hr2.out.bel.cell (p := ⟨lb, q, none⟩) HLs.out.1).trans hcl0
          have HCL := hd hcl0
          have CW : Hid (∀ U, Calls Tryd.prog 48 #[.int .i64 ((base + q : Nat) : Int)] U fun e w' => e = .returned (.int .i64 (if hasP 1512 (base + q) then 2 else 1)) ∧ w' = U) := fun U => wide_any (base + q) U hf14
          have hst1 : Hid (posAt nm (base + (q + 1)) = posAt nm (base + q) + (if hasP 1512 (base + q) then 2 else 1)) := hd (by
            have h := posAt_succ nm (base + q)
            have hw : wdt nm (base + q) = if hasP 1512 (base + q) then 2 else 1 := by simp [wdt, HK.out.has q hlt2]
            rw [hw] at h
            exact h)
          have b9 : Hid (posAt nm (base + q) ≤ 9) := hd (by have := posAt_mono nm (show base + q ≤ base + k by omega); have := HSTOP.out; omega)
          obtain ⟨f, hf⟩ : ∃ f, base + q = f := ⟨_, rfl⟩
          have HF := hd hf
          have C1 := hd (CH.out f (by omega) (by omega) wr)
          rw [hf] at cl CW hst1 b9
          rw [hf]
          obtain ⟨r, hrr⟩ : ∃ r, holdsP M f = r := ⟨_, rfl⟩
          rw [hrr] at C1
          have HRR := hd hrr
          obtain ⟨P, hP⟩ : ∃ P, posAt nm f = P := ⟨_, rfl⟩
          rw [hP] at hst1 b9
          rw [hP]
          have HP := hd hP
          obtain ⟨c0, c1, c2, c3, c4, c5, c6, c7, c8, c9, c10, c11, c12, c13⟩ := hr2.out.m.at
          clear hf hrr hP hcl0 hf14
          go_wp2_with fail
          go_cut [72] (fun v wx => v = .bool (!r) ∧ Hid (QS w wx w.heap.size (w.heap.size + 1) M))
          case first =>
            go_region_with (go_at_call 28; refine (C1.out _ ?_).mono ?_; (first | exact Below.refl _ _ | exact (Below.refl _ _).drew | exact below_drewN (Below.refl _ _) _); rintro e u ⟨rfl, bu⟩)
            all_goals
              have Z := hd (hr2.out.below bu)
              clear bu
              go_wp2_with fail
              go_meet
              exact ⟨by cases r <;> rfl, Z⟩
          case rest =>
            obtain ⟨rfl, hc⟩ := hcut
            obtain ⟨w5, rfl⟩ : ∃ u, u = wc := ⟨wc, rfl⟩
            clear c0 c1 c2 c3 c4 c5 c6 c7 c8 c9 c10 c11 c12 c13 C1 cl hr2
            have cl := (hc.out.bel.cell (p := ⟨lb, q, none⟩) HLs.out.1).trans HCL.out
            rw [HF.out] at cl
            cases r with
            | true =>
              go_wp2_with fail
              refine (CW.out _).mono ?_
              rintro e w6 ⟨rfl, hw6⟩
              subst hw6
              have hh2 : Hid (heldTo M base (q + 1)) := fun i hi => by
                by_cases e : i = q
                · subst e; rw [HF.out]; exact HRR.out
                · exact hh.out i (by omega)
              have b9' := b9.out
              have EE : Hid ((posAt nm (base + (q + 1)) : Int) = (P : Int) + (if hasP 1512 f = true then 2 else 1)) := hd (by rw [hst1.out]; split <;> simp)
              obtain ⟨b3, hb3⟩ : ∃ b, hasP 1512 f = b := ⟨_, rfl⟩
              rw [hb3] at EE
              rw [hb3]
              clear hb3 hst1 CW cl
              cases b3
              · go_wp2
                exact ⟨⟨q + 1, by omega, by go_num, by first | (rw [EE.out]; simp; done) | (rw [EE.out]; simp; unfold wrap64; omega), hh2, hc⟩, by simp [intOf]; omega⟩
              · go_wp2
                exact ⟨⟨q + 1, by omega, by go_num, by first | (rw [EE.out]; simp; done) | (rw [EE.out]; simp; unfold wrap64; omega), hh2, hc⟩, by simp [intOf]; omega⟩
            | false =>
              clear CW hst1
              go_upto_region 16 with fail
              have RD : MB w5.drew w.heap.size (fun _ => 0) := hc.out.res
              have MD : MB w5.drew (w.heap.size + 1) M := hc.out.m
              obtain ⟨A1, A2⟩ := RD.all M
              have bd : Below w.heap.size w w5.drew := hc.out.bel.drew
              have Z : Hid (Below w.heap.size w ((((((((((((((w5.drew.setCell ⟨w.heap.size, 0, none⟩ (.int .i64 (M 0))).setCell ⟨w.heap.size, 1, none⟩ (.int .i64 (M 1))).setCell ⟨w.heap.size, 2, none⟩ (.int .i64 (M 2))).setCell ⟨w.heap.size, 3, none⟩ (.int .i64 (M 3))).setCell ⟨w.heap.size, 4, none⟩ (.int .i64 (M 4))).setCell ⟨w.heap.size, 5, none⟩ (.int .i64 (M 5))).setCell ⟨w.heap.size, 6, none⟩ (.int .i64 (M 6))).setCell ⟨w.heap.size, 7, none⟩ (.int .i64 (M 7))).setCell ⟨w.heap.size, 8, none⟩ (.int .i64 (M 8))).setCell ⟨w.heap.size, 9, none⟩ (.int .i64 (M 9))).setCell ⟨w.heap.size, 10, none⟩ (.int .i64 (M 10))).setCell ⟨w.heap.size, 11, none⟩ (.int .u8 (M 11))).setCell ⟨w.heap.size, 12, none⟩ (.int .i64 (M 12))).setCell ⟨w.heap.size, 13, none⟩ (.int .i64 (M 13)))) := hd (bd.trans (A2.below bd.size (Nat.le_refl _)))
              obtain ⟨z0, z1, z2, z3, z4, z5, z6, z7, z8, z9, z10, z11, z12, z13⟩ := A1.at
              have cld : w5.drew.cell? ⟨lb, q, none⟩ = some (.int .i64 ((f : Nat) : Int)) := cl
              have hll := HLs.out.1
              have cl2 : ((((((((((((((w5.drew.setCell ⟨w.heap.size, 0, none⟩ (.int .i64 (M 0))).setCell ⟨w.heap.size, 1, none⟩ (.int .i64 (M 1))).setCell ⟨w.heap.size, 2, none⟩ (.int .i64 (M 2))).setCell ⟨w.heap.size, 3, none⟩ (.int .i64 (M 3))).setCell ⟨w.heap.size, 4, none⟩ (.int .i64 (M 4))).setCell ⟨w.heap.size, 5, none⟩ (.int .i64 (M 5))).setCell ⟨w.heap.size, 6, none⟩ (.int .i64 (M 6))).setCell ⟨w.heap.size, 7, none⟩ (.int .i64 (M 7))).setCell ⟨w.heap.size, 8, none⟩ (.int .i64 (M 8))).setCell ⟨w.heap.size, 9, none⟩ (.int .i64 (M 9))).setCell ⟨w.heap.size, 10, none⟩ (.int .i64 (M 10))).setCell ⟨w.heap.size, 11, none⟩ (.int .u8 (M 11))).setCell ⟨w.heap.size, 12, none⟩ (.int .i64 (M 12))).setCell ⟨w.heap.size, 13, none⟩ (.int .i64 (M 13))).cell? ⟨lb, q, none⟩ = some (.int .i64 ((f : Nat) : Int)) := by
                have hb := A2.block lb (Nat.lt_of_lt_of_le hll bd.size) (by omega)
                unfold World.cell? at cld ⊢
                rw [hb]
                exact cld
              have HA := hd (And.intro RD (And.intro MD (And.intro cld cl2)))
              clear A1 A2 RD MD cld cl2
              refine read_region16 _ w5 M lb k q (w.heap.size + 1) w.heap.size f P rfl rfl rfl rfl rfl (by simp) hlt2 HA.out.2.1 HA.out.1 HA.out.2.2.1 HA.out.2.2.2 ?_
              intro v73 v74 v75 v76 v77 v78
              clear HA
              generalize ((((((((((((((w5.drew.setCell ⟨w.heap.size, 0, none⟩ (.int .i64 (M 0))).setCell ⟨w.heap.size, 1, none⟩ (.int .i64 (M 1))).setCell ⟨w.heap.size, 2, none⟩ (.int .i64 (M 2))).setCell ⟨w.heap.size, 3, none⟩ (.int .i64 (M 3))).setCell ⟨w.heap.size, 4, none⟩ (.int .i64 (M 4))).setCell ⟨w.heap.size, 5, none⟩ (.int .i64 (M 5))).setCell ⟨w.heap.size, 6, none⟩ (.int .i64 (M 6))).setCell ⟨w.heap.size, 7, none⟩ (.int .i64 (M 7))).setCell ⟨w.heap.size, 8, none⟩ (.int .i64 (M 8))).setCell ⟨w.heap.size, 9, none⟩ (.int .i64 (M 9))).setCell ⟨w.heap.size, 10, none⟩ (.int .i64 (M 10))).setCell ⟨w.heap.size, 11, none⟩ (.int .u8 (M 11))).setCell ⟨w.heap.size, 12, none⟩ (.int .i64 (M 12))).setCell ⟨w.heap.size, 13, none⟩ (.int .i64 (M 13))) = wz at *
              rename_i K0 hK0
              refine hK0 _ _ ?_
              simp only [puts, List.foldl_cons, List.foldl_nil, Act.put, List.setIfInBounds_toArray, List.set_cons_succ, List.set_cons_zero]
              clear hK0
              go_wp2
              refine bodyPost_ret (v := .tuple #[.agg #[.int .i64 (M 0), .int .i64 (M 1), .int .i64 (M 2), .int .i64 (M 3), .int .i64 (M 4), .int .i64 (M 5), .int .i64 (M 6), .int .i64 (M 7), .int .i64 (M 8), .int .i64 (M 9), .int .i64 (M 10), .int .u8 (M 11), .int .i64 (M 12), .int .i64 (M 13)], .int .i64 (f : Nat), .int .i64 P]) (by simp [results, Tryd.results32, go_sem, z0, z1, z2, z3, z4, z5, z6, z7, z8, z9, z10, z11, z12, z13]) rfl ?_
              refine HQ.out _ _ ⟨Z.out, .inr ⟨q, hlt2, by rw [HM.out]; exact hh.out, by rw [HM.out, HF.out]; exact HRR.out, ?_⟩⟩
              rw [HM.out, HF.out, HP.out]
        · obtain rfl : q = k := by omega
          have i2 : ¬ (q : Int) < (q : Int) := by omega
          obtain ⟨c0, c1, c2, c3, c4, c5, c6, c7, c8, c9, c10, c11, c12, c13⟩ := hr2.out.m.at
          obtain ⟨r0, r1, r2, r3, r4, r5, r6, r7, r8, r9, r10, r11, r12, r13⟩ := hr2.out.res.at
          have g0 := frozen_row hr2.out.res 0
          have g1 := frozen_row hr2.out.res 1
          have g2 := frozen_row hr2.out.res 2
          have g3 := frozen_row hr2.out.res 3
          have g4 := frozen_row hr2.out.res 4
          have g5 := frozen_row hr2.out.res 5
          have g6 := frozen_row hr2.out.res 6
          have g7 := frozen_row hr2.out.res 7
          have g8 := frozen_row hr2.out.res 8
          have g9 := frozen_row hr2.out.res 9
          have g10 := frozen_row hr2.out.res 10
          have g11 := frozen_row hr2.out.res 11
          have g12 := frozen_row hr2.out.res 12
          have g13 := frozen_row hr2.out.res 13
          obtain ⟨A1, A2⟩ := hr2.out.res.all M
          have Z : Hid (Below w.heap.size w ((((((((((((((wr.setCell ⟨w.heap.size, 0, none⟩ (.int .i64 (M 0))).setCell ⟨w.heap.size, 1, none⟩ (.int .i64 (M 1))).setCell ⟨w.heap.size, 2, none⟩ (.int .i64 (M 2))).setCell ⟨w.heap.size, 3, none⟩ (.int .i64 (M 3))).setCell ⟨w.heap.size, 4, none⟩ (.int .i64 (M 4))).setCell ⟨w.heap.size, 5, none⟩ (.int .i64 (M 5))).setCell ⟨w.heap.size, 6, none⟩ (.int .i64 (M 6))).setCell ⟨w.heap.size, 7, none⟩ (.int .i64 (M 7))).setCell ⟨w.heap.size, 8, none⟩ (.int .i64 (M 8))).setCell ⟨w.heap.size, 9, none⟩ (.int .i64 (M 9))).setCell ⟨w.heap.size, 10, none⟩ (.int .i64 (M 10))).setCell ⟨w.heap.size, 11, none⟩ (.int .u8 (M 11))).setCell ⟨w.heap.size, 12, none⟩ (.int .i64 (M 12))).setCell ⟨w.heap.size, 13, none⟩ (.int .i64 (M 13)))) := hd (hr2.out.bel.trans (A2.below hr2.out.bel.size (Nat.le_refl _)))
          obtain ⟨z0, z1, z2, z3, z4, z5, z6, z7, z8, z9, z10, z11, z12, z13⟩ := A1.at
          have l8 := block_lt hr2.out.res
          have l11 := block_lt hr2.out.m
          clear A1 A2 hr2 CH
          go_wp2
          refine bodyPost_ret (v := .tuple #[.agg #[.int .i64 (M 0), .int .i64 (M 1), .int .i64 (M 2), .int .i64 (M 3), .int .i64 (M 4), .int .i64 (M 5), .int .i64 (M 6), .int .i64 (M 7), .int .i64 (M 8), .int .i64 (M 9), .int .i64 (M 10), .int .u8 (M 11), .int .i64 (M 12), .int .i64 (M 13)], .int .i64 0, .int .i64 0]) (by simp [results, Tryd.results32, go_sem, z0, z1, z2, z3, z4, z5, z6, z7, z8, z9, z10, z11, z12, z13]) rfl ?_
          refine HQ.out _ _ ⟨Z.out, .inl ⟨by rw [HM.out]; exact hh.out, ?_⟩⟩
          rw [HM.out]

end Go.Proofs.YtibnlfdnnlbeeaaDoor
