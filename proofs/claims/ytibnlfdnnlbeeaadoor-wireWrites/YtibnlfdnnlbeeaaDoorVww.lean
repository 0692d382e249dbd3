/-
  WireWrites: the walk.
-/
import Derived.Test.YtibnlfdnnlbeeaaDoorZd
import Derived.Test.YtibnlfdnnlbeeaaDoorRx
import Derived.Test.YtibnlfdnnlbeeaaDoorYa
import Derived.Deep.DeepCutAuto
namespace Go.Proofs.YtibnlfdnnlbeeaaDoor
open Go.RowKit
set_option linter.unusedVariables false

/-- The row behind a call: nil, or in blocks that the call made. -/
theorem own_row {w w' : World} {v : Value} {n : Nat} {xs : List Int} (h : OwnB w' w.heap.size v xs.length xs) (hn : xs.length = n) : ∃ β c, v = .slice (at0 β) n c ∧ SF bc 1 w' 5 β (.slice (at0 β) n c) xs ∧ ∀ g, β = some g → w.heap.size ≤ g ∧ g < w'.heap.size := by
  obtain ⟨-, β, hS, hB⟩ := h.sf
  obtain ⟨c, rfl, -⟩ := hS.shape
  rw [hn] at hS
  exact ⟨β, c, by rw [hn], hS, fun g e => ⟨hB g e, hS.lt g e⟩⟩

set_option maxRecDepth 100000 in
set_option maxHeartbeats 8000000 in
theorem wireWrites_any (x : It) (W : World) (ok : OkX x) (LG : Lims W) (HG : Handle W) :
    Calls Tryd.prog 4 #[x.val] W fun e w' => e = .returned (.bool true) ∧ Below W.heap.size W w' := by
  show Calls Tryd.prog 4 #[.agg #[.int .i64 x.kind, .int .i64 x.epoch, .int .i64 x.tag, .int .i64 x.ok, .int .i64 x.pos, .int .u8 x.ch, .int .i64 x.cl, .int .i64 x.sq]] W fun e w' => e = .returned (.bool true) ∧ Below W.heap.size W w'
  have CE : Hid (∀ w, Lims w → Calls Tryd.prog 8 #[.agg #[.int .i64 x.kind, .int .i64 x.epoch, .int .i64 x.tag, .int .i64 x.ok, .int .i64 x.pos, .int .u8 x.ch, .int .i64 x.cl, .int .i64 x.sq]] w (EncO w x)) := fun w h => encode_any x w ok.c h
  have CR : Hid (∀ w, Calls Tryd.prog 11 #[.agg #[.int .i64 x.kind, .int .i64 x.epoch, .int .i64 x.tag, .int .i64 x.ok, .int .i64 x.pos, .int .u8 x.ch, .int .i64 x.cl, .int .i64 x.sq]] w (ROut w x)) := fun w => rencode_any x w ok.c
  have bz : Below W.heap.size W (W.alloc (.cells #[.int .i64 x.kind, .int .i64 x.epoch, .int .i64 x.tag, .int .i64 x.ok, .int .i64 x.pos, .int .u8 x.ch, .int .i64 x.cl, .int .i64 x.sq] 26)) := (Below.refl _ _).alloc (Nat.le_refl _) _
  have hx : XB (W.alloc (.cells #[.int .i64 x.kind, .int .i64 x.epoch, .int .i64 x.tag, .int .i64 x.ok, .int .i64 x.pos, .int .u8 x.ch, .int .i64 x.cl, .int .i64 x.sq] 26)) W.heap.size x := heap_alloc_new _ _
  have B0 := hd bz
  have X0 := hd hx
  have L0 := hd (LG.below bz LG.lt)
  have H0 := hd (HG.below bz HG.pos)
  have HLL := hd LG.lt
  obtain ⟨xs, hxs⟩ : ∃ xs, encP x = xs := ⟨_, rfl⟩
  obtain ⟨n, hn⟩ : ∃ n, xs.length = n := ⟨_, rfl⟩
  have n29 : n ≤ 29 := by rw [← hn, ← hxs]; exact encP_len x
  have HXS := hd hxs
  have HN := hd hn
  clear bz hx LG HG hxs hn ok
  go_enter Tryd.func4, Tryd.ntmps4
  go_wp2_with fail
  generalize W.alloc (.cells #[.int .i64 x.kind, .int .i64 x.epoch, .int .i64 x.tag, .int .i64 x.ok, .int .i64 x.pos, .int .u8 x.ch, .int .i64 x.cl, .int .i64 x.sq] 26) = w0 at *
  refine (fixedItem_any w0 L0.out).mono ?_
  rintro e w1 ⟨rfl, b1⟩
  have B1 := hd (B0.out.trans (b1.mono B0.out.size))
  have X1 := hd (X0.out.below b1)
  have L1 := hd (L0.out.below b1 L0.out.lt)
  have H1 := hd (H0.out.below b1 H0.out.pos)
  clear b1 B0 X0 L0 H0
  obtain ⟨c0, c1, c2, c3, c4, c5, c6, c7⟩ := X1.out.at
  have lx := block_lt X1.out
  go_wp2_with fail
  refine (CE.out w1 L1.out).mono ?_
  rintro e w2 hE
  have b2 := hE.1
  obtain ⟨u1, er, c, p, rfl, own1, hp, hor⟩ := hE.form2
  rw [HXS.out] at own1
  obtain ⟨β1, q1, rfl, s1, r1⟩ := own_row own1 HN.out
  have S1 := hd s1
  have R1 := hd r1
  have HP := hd hp
  have OR := hd hor
  have B2 := hd (B1.out.trans (b2.mono B1.out.size))
  have Z2 := b2.size
  have X2 := hd (X1.out.below b2)
  have L2 := hd (L1.out.below b2 L1.out.lt)
  have H2 := hd (H1.out.below b2 H1.out.pos)
  clear hE own1 s1 r1 hp hor b2 B1 L1 H1 c0 c1 c2 c3 c4 c5 c6 c7 lx
  generalize hA1 : at0 β1 = A1 at *
  have HA1 := hd hA1
  clear hA1
  obtain ⟨c0, c1, c2, c3, c4, c5, c6, c7⟩ := X2.out.at
  have lx := block_lt X2.out
  go_wp2_with fail
  refine (CR.out w2).mono ?_
  rintro e w3 hE
  have b3 := hE.1
  obtain ⟨u2, c', p', rfl, own2, hp'⟩ := hE.form2
  rw [HXS.out] at own2
  obtain ⟨β2, q2, rfl, s2, r2⟩ := own_row own2 HN.out
  obtain ⟨hcc, hpp⟩ := HP.out.one hp'
  subst hcc
  subst hpp
  have S2 := hd (And.intro (S1.out.below b3) s2)
  have R2 := hd r2
  have OR3 : Hid ((er = .nilIface ∧ c = 0 ∧ p = -1) ∨ IsF w3 er p c) := hd (OR.out.imp id (fun h => h.below b3))
  have B3 := hd (B2.out.trans (b3.mono B2.out.size))
  have X3 := hd (X2.out.below b3)
  have L3 := hd (L2.out.below b3 L2.out.lt)
  have H3 := hd (H2.out.below b3 H2.out.pos)
  have Z3 := b3.size
  clear hE own2 s2 r2 hp' b3 B2 L2 H2 c0 c1 c2 c3 c4 c5 c6 c7 lx S1 OR HP
  generalize hA2 : at0 β2 = A2 at *
  have HA2 := hd hA2
  clear hA2
  obtain ⟨c0, c1, c2, c3, c4, c5, c6, c7⟩ := X3.out.at
  have lx := block_lt X3.out
  go_wp2_with fail
  refine (CE.out w3 L3.out).mono ?_
  rintro e w4 hE
  have b4 := hE.1
  obtain ⟨u3, er3, c3', p3', rfl, own3, -, -⟩ := hE.form2
  rw [HXS.out] at own3
  obtain ⟨β3, q3, rfl, s3, r3⟩ := own_row own3 HN.out
  have S3 := hd (And.intro (S2.out.1.below b4) (And.intro (S2.out.2.below b4) s3))
  have R3 := hd r3
  have OR4 : Hid ((er = .nilIface ∧ c = 0 ∧ p = -1) ∨ IsF w4 er p c) := hd (OR3.out.imp id (fun h => h.below b4))
  have B4 := hd (B3.out.trans (b4.mono B3.out.size))
  have X4 := hd (X3.out.below b4)
  have L4 := hd (L3.out.below b4 L3.out.lt)
  have H4 := hd (H3.out.below b4 H3.out.pos)
  have Z4 := b4.size
  clear hE own3 s3 r3 b4 B3 L3 H3 c0 c1 c2 c3 c4 c5 c6 c7 lx S2 OR3 CR
  generalize hA3 : at0 β3 = A3 at *
  have HA3 := hd hA3
  clear hA3
  go_wp2_with fail
  refine (eq_true A1 A2 n q1 q2 xs w4 (by rw [← HA1.out] at S3 ⊢; exact S3.out.1.isB') (by rw [← HA2.out] at S3 ⊢; exact S3.out.2.1.isB')).mono ?_
  rintro e w5 ⟨rfl, m5, hm5⟩
  have b5 : Below w4.heap.size w4 w5 := by rw [hm5]; exact below_drewN (Below.refl _ _) m5
  have S5 := hd (And.intro (S3.out.1.below b5) (And.intro (S3.out.2.1.below b5) (S3.out.2.2.below b5)))
  have OR5 : Hid ((er = .nilIface ∧ c = 0 ∧ p = -1) ∨ IsF w5 er p c) := hd (OR4.out.imp id (fun h => h.below b5))
  have B5 := hd (B4.out.trans (b5.mono B4.out.size))
  have X5 := hd (X4.out.below b5)
  have L5 := hd (L4.out.below b5 L4.out.lt)
  have H5 := hd (H4.out.below b5 H4.out.pos)
  have Z5 := b5.size
  clear b5 hm5 m5 B4 X4 L4 H4 OR4 S3
  have CI : Hid (Calls Tryd.prog 13 #[er, .int .i64 c, .int .i64 p] w5 fun e w' => e = .returned (.bool true) ∧ Below w5.heap.size w5 w') := hd (by
    rcases OR5.out with ⟨rfl, rfl, rfl⟩ | h
    · exact is_nil w5
    · exact is_err er p c w5 h H5.out)
  clear OR5
  go_wp2_with fail
  refine CI.out.mono ?_
  rintro e w6 ⟨rfl, b6⟩
  have S6 := hd (And.intro (S5.out.1.below b6) (And.intro (S5.out.2.1.below b6) (S5.out.2.2.below b6)))
  have B6 := hd (B5.out.trans (b6.mono B5.out.size))
  have X6 := hd (X5.out.below b6)
  have L6 := hd (L5.out.below b6 L5.out.lt)
  have Z6 := b6.size
  clear b6 B5 X5 L5 H5 S5 CI
  go_wp2_with fail
  refine (eq_true A3 A2 n q3 q2 xs w6 (by rw [← HA3.out] at S6 ⊢; exact S6.out.2.2.isB') (by rw [← HA2.out] at S6 ⊢; exact S6.out.2.1.isB')).mono ?_
  rintro e w7 ⟨rfl, m7, hm7⟩
  have b7 : Below w6.heap.size w6 w7 := by rw [hm7]; exact below_drewN (Below.refl _ _) m7
  have S7 := hd (And.intro (S6.out.1.below b7) (And.intro (S6.out.2.1.below b7) (S6.out.2.2.below b7)))
  have B7 := hd (B6.out.trans (b7.mono B6.out.size))
  have X7 := hd (X6.out.below b7)
  have L7 := hd (L6.out.below b7 L6.out.lt)
  have Z7 := b7.size
  have HZ := hd (And.intro (And.intro (block_lt X1.out) Z2) (And.intro Z3 (And.intro Z4 (And.intro Z5 (And.intro Z6 Z7)))))
  clear b7 hm7 m7 B6 X6 L6 S6 Z2 Z3 Z4 Z5 Z6 Z7
  go_wp2_with fail
  have M0 : Hid (MK w7 w7 β1 n q1 238 xs 0) := hd (MK.zero (by have := S7.out.1; rw [← HA1.out] at this; exact this) 238)
  go_loopw [10] (fun i wr => ∃ k : Nat, k ≤ n ∧ i = .int .i64 k ∧ Hid (MK w7 wr β1 n q1 238 xs k)) (fun i _ => n - (intOf i).toNat)
  case atStart => exact ⟨0, Nat.zero_le _, rfl, M0⟩
  case round =>
    obtain ⟨k, hk, rfl, hq⟩ := hrel
    clear M0
    by_cases hlt : k < n
    · have i1 : (k : Int) < (n : Int) := by omega
      have i0 : (0 : Int) ≤ k := by omega
      obtain ⟨g, u, hg, cc, cf, m1⟩ := hq.out.step (by rw [HN.out]; exact hlt)
      have M1 := hd m1
      have lg : g < wr.heap.size := hq.out.1.lt g hg
      clear hq m1
      subst hg
      have A := HA1.out
      simp only [at0, Option.map] at A
      subst A
      go_wp2
      exact ⟨⟨k + 1, by omega, by go_num, M1⟩, by simp [intOf]; omega⟩
    · obtain rfl : n = k := by omega
      have i1 : ¬ (n : Int) < (n : Int) := by omega
      obtain ⟨f1, F1⟩ := hq.out.full HN.out.symm
      obtain ⟨g', c', w9, hap, G9, IB9, F2, hg'⟩ := push_mark f1 (by omega)
      have F79 := F1.trans F2
      have hs8 := F1.size
      obtain ⟨⟨z1, z0⟩, z3, z4, z5, z6, z7⟩ := HZ.out
      have z2 : ∀ g, β1 = some g → w1.heap.size ≤ g ∧ g < w2.heap.size := R1.out
      have C9 := S7.out.2.1.fr F79 (fun g e e' => by have := (R1.out g e').2; have := (R2.out g e).1; omega)
      have T9 := S7.out.2.2.fr F79 (fun g e e' => by have := (R1.out g e').2; have := (R3.out g e).1; omega)
      have X9 := hd (X7.out.fr F79 (fun e => by have := (R1.out _ e).1; omega))
      have L9 := hd (L7.out.fr F79 (fun e => by have := (R1.out _ e).1; have := HLL.out; omega))
      have b9 := B7.out.trans (F79.below B7.out.size (fun g e => by have := (R1.out g e).1; omega))
      have NB : Hid (∀ g, β1 = some g → ¬ β3 = some g) := hd (fun g e e' => by have := (R1.out g e).2; have := (R3.out g e').1; omega)
      have NC : Hid (∀ g, β2 = some g → ¬ β3 = some g) := hd (fun g e e' => by have := (R2.out g e).2; have := (R3.out g e').1; omega)
      have NG : Hid (¬ β3 = some g') := hd (fun e => by
        rcases hg' with h | h
        · exact NB.out _ h e
        · have := (R3.out _ e).2
          omega)
      have NX : Hid (∀ g, β3 = some g → W.heap.size < g ∧ 1 < g) := hd (fun g e => by have := (R3.out _ e).1; have := HLL.out; have := (X7.out); omega)
      have S9 := hd (And.intro C9 (And.intro T9 (And.intro G9 IB9)))
      have B9 := hd b9
      simp only [HA1.out] at hap
      clear hq f1 F1 F2 F79 C9 T9 G9 IB9 b9 hs8 z1 z0 z2 z3 z4 z5 z6 z7 X7 L7 S7 B7 R1 R2 R3 hg' HZ
      go_wp2_with (at_builtin; refine wpList_append_k _ rfl _ _ 22 22 rfl _ _ rfl rfl (hap _) ?_)
      clear hap
      refine (eq_true A3 A2 n q3 q2 xs w9 (by rw [← HA3.out] at S9 ⊢; exact S9.out.2.1.isB') (by rw [← HA2.out] at S9 ⊢; exact S9.out.1.isB')).mono ?_
      rintro e w10 ⟨rfl, m10, hm10⟩
      have b10 : Below w9.heap.size w9 w10 := by rw [hm10]; exact below_drewN (Below.refl _ _) m10
      have S10 := hd (And.intro (S9.out.1.below b10) (And.intro (S9.out.2.1.below b10) (And.intro (S9.out.2.2.1.below b10) (S9.out.2.2.2.below b10))))
      have X10 := hd (X9.out.below b10)
      have L10 := hd (L9.out.below b10 L9.out.lt)
      have B10 := hd (B9.out.trans (b10.mono B9.out.size))
      clear b10 hm10 m10 S9 X9 L9 B9
      go_wp2_with fail
      have M0 : Hid (MK w10 w10 β3 n q3 221 xs 0) := hd (MK.zero (by have := S10.out.2.1; rw [← HA3.out] at this; exact this) 221)
      go_loopw [12] (fun i wr => ∃ k : Nat, k ≤ n ∧ i = .int .i64 k ∧ Hid (MK w10 wr β3 n q3 221 xs k)) (fun i _ => n - (intOf i).toNat)
      case atStart => exact ⟨0, Nat.zero_le _, rfl, M0⟩
      case round =>
        obtain ⟨k, hk, rfl, hq⟩ := hrel
        clear M0
        by_cases hlt : k < n
        · have i1 : (k : Int) < (n : Int) := by omega
          have i0 : (0 : Int) ≤ k := by omega
          obtain ⟨g, u, hg, cc, cf, m1⟩ := hq.out.step (by rw [HN.out]; exact hlt)
          have M1 := hd m1
          have lg : g < wr.heap.size := hq.out.1.lt g hg
          clear hq m1
          subst hg
          have A := HA3.out
          simp only [at0, Option.map] at A
          subst A
          go_wp2
          exact ⟨⟨k + 1, by omega, by go_num, M1⟩, by simp [intOf]; omega⟩
        · obtain rfl : n = k := by omega
          have i1 : ¬ (n : Int) < (n : Int) := by omega
          obtain ⟨f1, F1⟩ := hq.out.full HN.out.symm
          obtain ⟨h', c'', w12, hap, T12, -, F2, hh'⟩ := push_mark f1 (by omega)
          have F := F1.trans F2
          have C12 := S10.out.1.fr F (fun g e => NC.out g e)
          have G12 := S10.out.2.2.1.fr F (fun g e => by cases e; exact NG.out)
          have I12 := IsB.fr (β := β1) S10.out.2.2.2 F (fun g e => NB.out g e)
          have X12 := hd (X10.out.fr F (fun e => by have := (NX.out _ e).1; omega))
          have L12 := hd (L10.out.fr F (fun e => by have := (NX.out _ e).2; omega))
          have B12 := hd (B10.out.trans (F.below B10.out.size (fun g e => by have := (NX.out g e).1; omega)))
          have S12 := hd (And.intro C12 (And.intro T12 (And.intro G12 I12)))
          simp only [HA3.out] at hap
          clear hq f1 F1 F2 F C12 G12 I12 T12 S10 X10 L10 B10 NB NC NG NX hh'
          obtain ⟨c0, c1, c2, c3, c4, c5, c6, c7⟩ := X12.out.at
          have lx := block_lt X12.out
          go_wp2_with (at_builtin; refine wpList_append_k _ rfl _ _ 22 22 rfl _ _ rfl rfl (hap _) ?_)
          clear hap
          refine (CE.out w12 L12.out).mono ?_
          rintro e w13 hE
          have b13 := hE.1
          obtain ⟨u4, er4, c4', p4', rfl, own4, -, -⟩ := hE.form2
          rw [HXS.out] at own4
          obtain ⟨β4, q4, rfl, s4, -⟩ := own_row own4 HN.out
          have S13 := hd (And.intro (S12.out.1.below b13) (And.intro (S12.out.2.1.below b13) (And.intro (S12.out.2.2.1.below b13) (And.intro (S12.out.2.2.2.below b13) s4))))
          have B13 := hd (B12.out.trans (b13.mono B12.out.size))
          clear hE own4 s4 b13 B12 L12 X12 S12 c0 c1 c2 c3 c4 c5 c6 c7 lx CE
          generalize hA4 : at0 β4 = A4 at *
          have HA4 := hd hA4
          clear hA4
          go_wp2_with fail
          go_loopw [15] (fun i wr => ∃ k : Nat, k ≤ n + 2 ∧ i = .int .i64 k ∧ wr = w13) (fun i _ => n + 2 - (intOf i).toNat)
          case atStart => exact ⟨0, Nat.zero_le _, rfl, rfl⟩
          case round =>
            obtain ⟨k, hk, rfl, rfl⟩ := hrel
            by_cases hlt : k < n + 2
            · have i1 : (k : Int) < (n : Int) + 2 := by omega
              have i0 : (0 : Int) ≤ k := by omega
              obtain ⟨cg, -, lg⟩ := S13.out.2.2.1.byte k (by simpa using hlt)
              obtain ⟨ct, -, lt⟩ := S13.out.2.1.byte k (by simpa using hlt)
              rw [rep_get _ _ _ hlt] at cg ct
              by_cases hkn : k < n
              · have i2 : (k : Int) < (n : Int) := by omega
                obtain ⟨bb, off, eA, lb, cb⟩ := S13.out.2.2.2.1.2.2.2 (by omega)
                have cb := cb k hkn
                rw [rep_get _ _ _ hkn] at cb
                rw [HA1.out] at eA
                subst eA
                clear S13
                go_wp2
                exact ⟨⟨k + 1, by omega, by go_num, by first | trivial | rfl⟩, by simp [intOf]; omega⟩
              · have i2 : ¬ (k : Int) < (n : Int) := by omega
                clear S13
                go_wp2
                exact ⟨⟨k + 1, by omega, by go_num, by first | trivial | rfl⟩, by simp [intOf]; omega⟩
            · have i1 : ¬ (k : Int) < (n : Int) + 2 := by omega
              go_wp2_with fail
              refine (eq_true A4 A2 n q4 q2 xs wr (by rw [← HA4.out] at S13 ⊢; exact S13.out.2.2.2.2.isB') (by rw [← HA2.out] at S13 ⊢; exact S13.out.1.isB')).mono ?_
              rintro e w14 ⟨rfl, m14, hm14⟩
              have Z : Hid (Below W.heap.size W w14) := hd (by rw [hm14]; exact below_drewN B13.out m14)
              clear hm14 S13 B13
              go_wp2_with fail
              go_ret
              exact ⟨rfl, Z.out⟩

end Go.Proofs.YtibnlfdnnlbeeaaDoor
