/-
  ScriptLines: the walk.
-/
import Derived.Test.YtplmhilkehkeiaaDoorLz
namespace Go.Proofs.YtplmhilkehkeiaaDoor
open Go.RowKit
set_option linter.unusedVariables false

set_option maxRecDepth 100000 in
set_option maxHeartbeats 16000000 in
theorem lines_any (s : ByteArray) (w : World) (hz : s.size ≤ 1048576) (hV : Verbs w) : Calls Tryd.prog 3 #[.string s] w fun e w' => e = .returned (.bool true) ∧ Below w.heap.size w w' := by
  have hm0 : (bI (lineP (tl s)).bytes).length ≤ 1048576 := by
    rw [bI_len]
    have h1 := line_le (tl s)
    have h2 := tl_size s
    omega
  generalize hE : lineP (tl s) = E at hm0
  obtain ⟨m, hm⟩ : ∃ m, (bI E.bytes).length = m := ⟨_, rfl⟩
  rw [hm] at hm0
  have CL : Hid (∀ U, Verbs U → Calls Tryd.prog 9 #[.string s] U fun e w' => ∃ a c, e = .returned (.agg #[.int .i64 E.kind, .int .i64 E.site, .int .i64 E.a, .int .i64 E.b, .int .i64 E.c, .int .u8 E.ch, .slice a m c, .int .i64 E.err]) ∧ Hid (Ob (w'.alloc (.cells #[.int .i64 E.kind, .int .i64 E.site, .int .i64 E.a, .int .i64 E.b, .int .i64 E.c, .int .u8 E.ch, .slice a m c, .int .i64 E.err] 25 (0, 0))) U.heap.size w'.heap.size E a m c (bI E.bytes) ∧ Below U.heap.size U w')) := fun U hU => line_new s E m U (by omega) hU hE hm
  have CR : Hid (∀ U, Calls Tryd.prog 11 #[.string s] U fun e w' => ∃ a c, e = .returned (.agg #[.int .i64 E.kind, .int .i64 E.site, .int .i64 E.a, .int .i64 E.b, .int .i64 E.c, .int .u8 E.ch, .slice a m c, .int .i64 E.err]) ∧ Hid (Ob (w'.alloc (.cells #[.int .i64 E.kind, .int .i64 E.site, .int .i64 E.a, .int .i64 E.b, .int .i64 E.c, .int .u8 E.ch, .slice a m c, .int .i64 E.err] 25 (0, 0))) U.heap.size w'.heap.size E a m c (bI E.bytes) ∧ Below U.heap.size U w')) := fun U => rline_new s E m U (by omega) hE hm
  have CK : Hid (∀ U, Verbs U → Calls Tryd.prog 9 #[.string ⟨#[99, 114, 97, 115, 104, 32, 51, 32, 48, 32, 50, 53, 53]⟩] U fun e w' => ∃ a c, e = .returned (.agg #[.int .i64 10, .int .i64 0, .int .i64 3, .int .i64 0, .int .i64 255, .int .u8 0, .slice a 0 c, .int .i64 0]) ∧ Hid (Ob (w'.alloc (.cells #[.int .i64 10, .int .i64 0, .int .i64 3, .int .i64 0, .int .i64 255, .int .u8 0, .slice a 0 c, .int .i64 0] 25 (0, 0))) U.heap.size w'.heap.size ({ kind := 10, a := 3, c := 255 } : En) a 0 c [] ∧ Below U.heap.size U w')) := fun U hU => line_new ⟨#[99, 114, 97, 115, 104, 32, 51, 32, 48, 32, 50, 53, 53]⟩ ({ kind := 10, a := 3, c := 255 } : En) 0 U (by decide) hU lit_crash rfl
  have CF : Hid (∀ U, Verbs U → Calls Tryd.prog 9 #[.string ⟨#[102, 111, 114, 103, 101, 32, 49, 32, 102, 102, 101, 101]⟩] U fun e w' => ∃ a c, e = .returned (.agg #[.int .i64 13, .int .i64 1, .int .i64 0, .int .i64 0, .int .i64 0, .int .u8 0, .slice a 2 c, .int .i64 0]) ∧ Hid (Ob (w'.alloc (.cells #[.int .i64 13, .int .i64 1, .int .i64 0, .int .i64 0, .int .i64 0, .int .u8 0, .slice a 2 c, .int .i64 0] 25 (0, 0))) U.heap.size w'.heap.size ({ kind := 13, site := 1, bytes := [255, 238] } : En) a 2 c [255, 238] ∧ Below U.heap.size U w')) := fun U hU => line_new ⟨#[102, 111, 114, 103, 101, 32, 49, 32, 102, 102, 101, 101]⟩ ({ kind := 13, site := 1, bytes := [255, 238] } : En) 2 U (by decide) hU lit_forge rfl
  have HM := hd hm
  have HV := hd hV
  have hpos : 0 < w.heap.size := by obtain ⟨t, fr, h⟩ := hV; exact block_lt h
  clear hE hm hV
  go_enter Tryd.func3, Tryd.ntmps3
  go_upto_region 2 with (go_at_call 9; refine (CK.out _ HV.out).mono ?_; rintro e w1 ⟨ae, ce, rfl, HO⟩)
  have b1 : Below w.heap.size w (w1.alloc (.cells #[.int .i64 10, .int .i64 0, .int .i64 3, .int .i64 0, .int .i64 255, .int .u8 0, .slice ae 0 ce, .int .i64 0] 25)) := HO.out.2.alloc HO.out.2.size _
  have OE := hd HO.out.1
  have B1 := hd b1
  clear b1 HO
  generalize w1.alloc (.cells #[.int .i64 10, .int .i64 0, .int .i64 3, .int .i64 0, .int .i64 255, .int .u8 0, .slice ae 0 ce, .int .i64 0] 25) = W1 at *
  obtain ⟨⟨q0, q1, q2, q3⟩, q4, q5, q6, q7⟩ := en_cells OE.out.ent
  simp only at q0 q1 q2 q3 q4 q5 q6 q7
  have RBA := hd OE.out.rb
  have RBB : Hid (RB W1 none 0 []) := ⟨rfl, .inl rfl⟩
  go_upto_region 4 with (go_at_call 10; refine (alike_any _ _ _ _ _ _ _ _ _ _ _ _ _ _ RBA.out RBB.out (by omega)).mono ?_; rintro x wy ⟨rfl, hy⟩; have BY := hd hy; clear hy)
  have BW := hd (B1.out.trans (BY.out.mono B1.out.size))
  clear q0 q1 q2 q3 q4 q5 q6 q7 RBA RBB OE B1 BY
  go_upto_region 5 with (go_at_call 11; refine (CR.out _).mono ?_; rintro e w3 ⟨ab, cb, rfl, HO⟩)
  have b3 : Below wy.heap.size wy (w3.alloc (.cells #[.int .i64 E.kind, .int .i64 E.site, .int .i64 E.a, .int .i64 E.b, .int .i64 E.c, .int .u8 E.ch, .slice ab m cb, .int .i64 E.err] 25)) := HO.out.2.alloc HO.out.2.size _
  have OB := hd HO.out.1
  have SB := hd (show w3.heap.size < (w3.alloc (.cells #[.int .i64 E.kind, .int .i64 E.site, .int .i64 E.a, .int .i64 E.b, .int .i64 E.c, .int .u8 E.ch, .slice ab m cb, .int .i64 E.err] 25)).heap.size by simp)
  have LB := hd BW.out.size
  have B3 := hd (BW.out.trans (b3.mono BW.out.size))
  clear b3 HO BW
  generalize w3.alloc (.cells #[.int .i64 E.kind, .int .i64 E.site, .int .i64 E.a, .int .i64 E.b, .int .i64 E.c, .int .u8 E.ch, .slice ab m cb, .int .i64 E.err] 25) = W3 at *
  generalize w3.heap.size = xb at *
  generalize wy.heap.size = lb at *
  go_upto_region 6 with (go_at_call 9; refine (CL.out _ (HV.out.below B3.out hpos)).mono ?_; rintro e w4 ⟨aa, ca, rfl, HO⟩)
  have b4 : Below W3.heap.size W3 (w4.alloc (.cells #[.int .i64 E.kind, .int .i64 E.site, .int .i64 E.a, .int .i64 E.b, .int .i64 E.c, .int .u8 E.ch, .slice aa m ca, .int .i64 E.err] 25)) := HO.out.2.alloc HO.out.2.size _
  have OA := hd HO.out.1
  have OB4 := hd (OB.out.to b4 SB.out)
  have SA := hd (show w4.heap.size < (w4.alloc (.cells #[.int .i64 E.kind, .int .i64 E.site, .int .i64 E.a, .int .i64 E.b, .int .i64 E.c, .int .u8 E.ch, .slice aa m ca, .int .i64 E.err] 25)).heap.size by simp)
  have LA := hd (show xb < W3.heap.size from SB.out)
  have B4 := hd (B3.out.trans (b4.mono B3.out.size))
  clear b4 HO OB SB B3
  generalize w4.alloc (.cells #[.int .i64 E.kind, .int .i64 E.site, .int .i64 E.a, .int .i64 E.b, .int .i64 E.c, .int .u8 E.ch, .slice aa m ca, .int .i64 E.err] 25) = W4 at *
  generalize w4.heap.size = xa at *
  generalize W3.heap.size = la at *
  go_upto_region 7 with (go_at_call 9; refine (CF.out _ (HV.out.below B4.out hpos)).mono ?_; rintro e w5 ⟨af, cf, rfl, HO⟩)
  have b5 : Below W4.heap.size W4 (w5.alloc (.cells #[.int .i64 13, .int .i64 1, .int .i64 0, .int .i64 0, .int .i64 0, .int .u8 0, .slice af 2 cf, .int .i64 0] 25)) := HO.out.2.alloc HO.out.2.size _
  have OF := hd HO.out.1
  have xaS := SA.out
  have laS := OA.out.le
  have LA1 := LA.out
  have OB5 := hd (OB4.out.to b5 (by omega))
  have OA5 := hd (OA.out.to b5 SA.out)
  have SF := hd (show w5.heap.size < (w5.alloc (.cells #[.int .i64 13, .int .i64 1, .int .i64 0, .int .i64 0, .int .i64 0, .int .u8 0, .slice af 2 cf, .int .i64 0] 25)).heap.size by simp)
  have LF := hd (show xa < W4.heap.size from SA.out)
  have B5 := hd (B4.out.trans (b5.mono B4.out.size))
  clear b5 HO OB4 OA SA B4 xaS laS LA1
  generalize w5.alloc (.cells #[.int .i64 13, .int .i64 1, .int .i64 0, .int .i64 0, .int .i64 0, .int .u8 0, .slice af 2 cf, .int .i64 0] 25) = W5 at *
  generalize w5.heap.size = xf at *
  generalize W4.heap.size = lf at *
  go_upto_region 8 with (go_at_call 9; refine (CL.out _ (HV.out.below B5.out hpos)).mono ?_; rintro e w6 ⟨at', ct, rfl, HO⟩)
  have b6 : Below W5.heap.size W5 (w6.alloc (.cells #[.int .i64 E.kind, .int .i64 E.site, .int .i64 E.a, .int .i64 E.b, .int .i64 E.c, .int .u8 E.ch, .slice at' m ct, .int .i64 E.err] 25)) := HO.out.2.alloc HO.out.2.size _
  have L0 : Hid (LS w (w6.alloc (.cells #[.int .i64 E.kind, .int .i64 E.site, .int .i64 E.a, .int .i64 E.b, .int .i64 E.c, .int .u8 E.ch, .slice at' m ct, .int .i64 E.err] 25)) E m lb xb la xa lf xf W5.heap.size w6.heap.size ab aa af at' cb ca cf ct (bI E.bytes) (bI E.bytes)) := by
    have h1 := LB.out; have h2 := LA.out; have h3 := LF.out; have h4 := SF.out; have h5 := OB5.out.le; have h6 := OA5.out.le; have h7 := OF.out.le
    exact ⟨B5.out.trans (b6.mono B5.out.size), OB5.out.to b6 (by omega), OA5.out.to b6 (by omega), OF.out.to b6 h4, HO.out.1, h1, h2, h3, h4, by simp⟩
  clear b6 HO OB5 OA5 OF SF LF LA LB B5
  generalize w6.alloc (.cells #[.int .i64 E.kind, .int .i64 E.site, .int .i64 E.a, .int .i64 E.b, .int .i64 E.c, .int .u8 E.ch, .slice at' m ct, .int .i64 E.err] 25) = W6 at *
  generalize w6.heap.size = xt at *
  generalize W5.heap.size = lt at *
  obtain ⟨⟨q0, q1, q2, q3⟩, q4, q5, q6, q7⟩ := en_cells L0.out.a.ent
  obtain ⟨⟨r0, r1, r2, r3⟩, r4, r5, r6, r7⟩ := en_cells L0.out.b.ent
  have RBA := hd L0.out.a.rb
  have RBB := hd L0.out.b.rb
  go_upto_region 10 with (go_at_call 10; refine (alike_any _ _ _ _ _ _ _ _ _ _ _ _ _ _ RBA.out RBB.out (by omega)).mono ?_; rintro x wz ⟨rfl, hy⟩; have BY := hd hy; clear hy)
  have L1 := hd (L0.out.to BY.out)
  clear q0 q1 q2 q3 q4 q5 q6 q7 r0 r1 r2 r3 r4 r5 r6 r7 RBA RBB L0 BY
  go_wp2_with fail
  go_loopw [8] (fun v wr => ∃ i : Nat, i ≤ m ∧ v = .int .i64 i ∧ Hid (LS w wr E m lb xb la xa lf xf lt xt ab aa af at' cb ca cf ct (List.replicate i 17 ++ (bI E.bytes).drop i) (bI E.bytes))) (fun v _ => m - (intOf v).toNat)
  case atStart => exact ⟨0, Nat.zero_le _, rfl, by simpa using L1⟩
  case round =>
    clear L1
    obtain ⟨i, hi, rfl, HD⟩ := hrel
    obtain ⟨⟨-, -, -, -⟩, -, -, q6, -⟩ := en_cells HD.out.a.ent
    by_cases hlt : i < m
    · obtain ⟨ga, hga, z1, z2, z3, z4⟩ := HD.out.seta i hlt
      subst hga
      have Z := hd (z4 17)
      rw [mark_step 17 (by have := HM.out; omega)] at Z
      have i1 : (i : Int) < (m : Int) := by omega
      clear z4
      go_wp2
      have e3 : wrap64 ((i : Int) + 1) = ((i + 1 : Nat) : Int) := by rw [wrap64]; omega
      first
        | exact ⟨⟨i + 1, by omega, rfl, Z⟩, by simp [intOf]; omega⟩
        | (rw [e3]; exact ⟨⟨i + 1, by omega, rfl, Z⟩, by simp [intOf]; omega⟩)
    · have i1 : ¬ (i : Int) < (m : Int) := by omega
      obtain rfl : i = m := by omega
      have L2 := HD
      rw [List.drop_eq_nil_of_le (by rw [HM.out]; exact Nat.le_refl _), List.append_nil] at L2
      clear HD
      obtain ⟨gg, cg, wp, hap, LP⟩ := L2.out.push (by omega)
      clear L2
      go_upto_region 15 with (at_builtin; refine wpList_append_k _ rfl _ _ 22 22 rfl _ _ rfl rfl (hap _) ?_)
      clear hap q6 i1
      obtain ⟨⟨q0, q1, q2, q3⟩, q4, q5, q6, q7⟩ := en_cells LP.out.t.ent
      obtain ⟨⟨r0, r1, r2, r3⟩, r4, r5, r6, r7⟩ := en_cells LP.out.b.ent
      have RBA := hd LP.out.t.rb
      have RBB := hd LP.out.b.rb
      go_upto_region 17 with (go_at_call 10; refine (alike_any _ _ _ _ _ _ _ _ _ _ _ _ _ _ RBA.out RBB.out (by omega)).mono ?_; rintro x wq ⟨rfl, hy⟩; have BY := hd hy; clear hy)
      have LQ := hd (LP.out.to BY.out)
      clear q0 q1 q2 q3 q4 q5 q6 q7 r0 r1 r2 r3 r4 r5 r6 r7 RBA RBB LP BY
      go_wp2_with fail
      go_loopw [10] (fun v wr => ∃ j : Nat, j ≤ i ∧ v = .int .i64 j ∧ Hid (LT w wr E i lb xb la xa lf xf lt xt ab aa af at' cb ca cf ct gg (List.replicate j 34 ++ (bI E.bytes).drop j))) (fun v _ => i - (intOf v).toNat)
      case atStart => exact ⟨0, Nat.zero_le _, rfl, by simpa using LQ⟩
      case round =>
        clear LQ
        obtain ⟨j, hj, rfl, HD⟩ := hrel
        obtain ⟨⟨-, -, -, -⟩, -, -, q6, -⟩ := en_cells HD.out.t.ent
        by_cases hlt : j < i
        · obtain ⟨gt, hgt, z1, z2, z3, z4⟩ := HD.out.sett j hlt
          subst hgt
          have Z := hd (z4 34)
          rw [mark_step 34 (by have := HM.out; omega)] at Z
          have i1 : (j : Int) < (i : Int) := by omega
          clear z4
          go_wp2
          have e3 : wrap64 ((j : Int) + 1) = ((j + 1 : Nat) : Int) := by rw [wrap64]; omega
          first
            | exact ⟨⟨j + 1, by omega, rfl, Z⟩, by simp [intOf]; omega⟩
            | (rw [e3]; exact ⟨⟨j + 1, by omega, rfl, Z⟩, by simp [intOf]; omega⟩)
        · have i1 : ¬ (j : Int) < (i : Int) := by omega
          go_upto_region 22 with (go_at_call 9; refine (CL.out _ (HV.out.below HD.out.bel hpos)).mono ?_; rintro e w8 ⟨an, cn, rfl, HO⟩)
          have b8 : Below wr.heap.size wr (w8.alloc (.cells #[.int .i64 E.kind, .int .i64 E.site, .int .i64 E.a, .int .i64 E.b, .int .i64 E.c, .int .u8 E.ch, .slice an i cn, .int .i64 E.err] 25)) := HO.out.2.alloc HO.out.2.size _
          have L8 := hd (HD.out.to b8)
          have O8 := hd HO.out.1
          clear b8 HO HD q6 i1
          generalize w8.alloc (.cells #[.int .i64 E.kind, .int .i64 E.site, .int .i64 E.a, .int .i64 E.b, .int .i64 E.c, .int .u8 E.ch, .slice an i cn, .int .i64 E.err] 25) = W8 at *
          generalize w8.heap.size = xn at *
          generalize wr.heap.size = ln at *
          go_wp2_with fail
          go_loopw [12] (fun v wr => ∃ k : Nat, k ≤ i + 2 ∧ v = .int .i64 k ∧ wr = W8) (fun v _ => i + 2 - (intOf v).toNat)
          case atStart => exact ⟨0, Nat.zero_le _, rfl, rfl⟩
          case round =>
            obtain ⟨k, hk, rfl, rfl⟩ := hrel
            by_cases hlt : k < i + 2
            · have z1 := L8.out.g.2.2 k hlt
              obtain ⟨⟨-, -, -, -⟩, -, -, q6, -⟩ := en_cells L8.out.a.1
              have i1 : (k : Int) < (i : Int) + 2 := by omega
              by_cases hki : k < i
              · obtain ⟨ga, hga, -, -, sga, hc⟩ : ∃ g, aa = some ⟨g, 0, none⟩ ∧ la ≤ g ∧ g < xa ∧ g < wr.heap.size ∧ ∀ i', i' < i → wr.cell? ⟨g, i', none⟩ = some (.int .u8 17) := by
                  rcases L8.out.a.2 with h | h
                  · omega
                  · exact h
                subst hga
                have z2 := hc k hki
                have i2 : (k : Int) < (i : Int) := by omega
                clear hc
                go_wp2
                have e3 : wrap64 ((k : Int) + 1) = ((k + 1 : Nat) : Int) := by rw [wrap64]; omega
                first
                  | exact ⟨⟨k + 1, by omega, rfl, trivial⟩, by simp [intOf]; omega⟩
                  | exact ⟨⟨k + 1, by omega, rfl, rfl⟩, by simp [intOf]; omega⟩
                  | (rw [e3]; exact ⟨⟨k + 1, by omega, rfl, trivial⟩, by simp [intOf]; omega⟩)
              · have i2 : ¬ (k : Int) < (i : Int) := by omega
                go_wp2
                have e3 : wrap64 ((k : Int) + 1) = ((k + 1 : Nat) : Int) := by rw [wrap64]; omega
                first
                  | exact ⟨⟨k + 1, by omega, rfl, trivial⟩, by simp [intOf]; omega⟩
                  | exact ⟨⟨k + 1, by omega, rfl, rfl⟩, by simp [intOf]; omega⟩
                  | (rw [e3]; exact ⟨⟨k + 1, by omega, rfl, trivial⟩, by simp [intOf]; omega⟩)
            · have i1 : ¬ (k : Int) < (i : Int) + 2 := by omega
              obtain ⟨⟨q0, q1, q2, q3⟩, q4, q5, q6, q7⟩ := en_cells O8.out.ent
              obtain ⟨⟨r0, r1, r2, r3⟩, r4, r5, r6, r7⟩ := en_cells L8.out.b.ent
              have RBA := hd O8.out.rb
              have RBB := hd L8.out.b.rb
              have HB8 := hd L8.out.bel
              go_wp2_with (first
                | (go_at_call 10; revert RBC; intro RBC; refine (alike_any _ _ _ _ _ _ _ _ _ _ _ _ _ _ RBC.out RBD.out (by omega)).mono ?_; rintro x wf ⟨rfl, hy⟩; have BF := hd (B9.out.trans (hy.mono B9.out.size)); clear hy)
                | (go_at_call 10; refine (alike_any _ _ _ _ _ _ _ _ _ _ _ _ _ _ RBA.out RBB.out (by omega)).mono ?_; rintro x wz ⟨rfl, hy⟩; have OF9 := hd (L8.out.f.to hy (by have h1 := L8.out.o; have h2 := L8.out.t.le; omega)); obtain ⟨⟨f0, f1, f2, f3⟩, f4, f5, f6, f7⟩ := en_cells OF9.out.ent; simp only at f0 f1 f2 f3 f4 f5 f6 f7; have RBC := hd (OF9.out.rb.below ((Below.refl wz.heap.size wz).alloc (Nat.le_refl _) (.cells #[.int .u8 255, .int .u8 238] 5)) (Nat.le_refl _)); have RBD := hd (lit_rb wz); have B9 := hd ((HB8.out.trans (hy.mono HB8.out.size)).alloc (Nat.le_trans HB8.out.size hy.size) (.cells #[.int .u8 255, .int .u8 238] 5)); clear hy))
              go_ret
              exact ⟨rfl, BF.out⟩

end Go.Proofs.YtplmhilkehkeiaaDoor
