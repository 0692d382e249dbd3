/-
  held.
-/
import Derived.Test.YtpjnhjijipcjkaaPf
namespace Go.Proofs.Ytpjnhjijipcjkaa
open Go.RowKit
set_option linter.unusedVariables false

theorem kin3 {w w1 w2 w3 : World} {k : Nat} (h1 : w.heap.size ≤ k) (h2 : k < w3.heap.size) : (((NoK k ∨ (w.heap.size ≤ k ∧ k < w1.heap.size)) ∨ (w1.heap.size ≤ k ∧ k < w2.heap.size)) ∨ (w2.heap.size ≤ k ∧ k < w3.heap.size)) := by
  rcases (by omega : (w.heap.size ≤ k ∧ k < w1.heap.size) ∨ (w1.heap.size ≤ k ∧ k < w2.heap.size) ∨ (w2.heap.size ≤ k ∧ k < w3.heap.size)) with h | h | h
  · exact .inl (.inl (.inr h))
  · exact .inl (.inr h)
  · exact .inr h

theorem kin5 {w w1 w2 w3 w4 w5 : World} {k : Nat} (h1 : w.heap.size ≤ k) (h2 : k < w5.heap.size) : (((((NoK k ∨ (w.heap.size ≤ k ∧ k < w1.heap.size)) ∨ (w1.heap.size ≤ k ∧ k < w2.heap.size)) ∨ (w2.heap.size ≤ k ∧ k < w3.heap.size)) ∨ (w3.heap.size ≤ k ∧ k < w4.heap.size)) ∨ (w4.heap.size ≤ k ∧ k < w5.heap.size)) := by
  rcases (by omega : (w.heap.size ≤ k ∧ k < w1.heap.size) ∨ (w1.heap.size ≤ k ∧ k < w2.heap.size) ∨ (w2.heap.size ≤ k ∧ k < w3.heap.size) ∨ (w3.heap.size ≤ k ∧ k < w4.heap.size) ∨ (w4.heap.size ≤ k ∧ k < w5.heap.size)) with h | h | h | h | h
  · exact .inl (.inl (.inl (.inl (.inr h))))
  · exact .inl (.inl (.inl (.inr h)))
  · exact .inl (.inl (.inr h))
  · exact .inl (.inr h)
  · exact .inr h

set_option maxRecDepth 100000 in
set_option maxHeartbeats 4000000 in
theorem held_0 {G : Thg} {w0 w : World} {x a b r q : Nat} {A B : Rb} {m : Nat} (h : PB G w0 w NoK x a b r q A B m) (hm : m ≤ 44) :
    Calls Try.prog 29 #[pt x, .int .i64 0] w fun ex w' => ex = .returned (.bool true) ∧ ∃ m', m' ≤ 44 ∧ PB G w0 w' NoK x a b r q A B m' := by
  obtain ⟨aL, cL, vW, hbx, hL1, hL2, hx⟩ := pb_box h
  have hlen := heldR_len (mq_ok h 2 rfl)
  have hbs := h.base.size
  have c0 := cell_row hbx 0
  have c1 := cell_row hbx 1
  have c2 := cell_row hbx 2
  have c3 := cell_row hbx 3
  have c4 := cell_row hbx 4
  simp at c0 c1 c2 c3 c4
  have H0 := hd h
  clear h hbx
  go_enter Try.func29, Try.ntmps29
  go_wp2_with fail
  refine (mk_held H0.out 0 rfl).mono ?_
  rintro _ w1 ⟨u1, rfl, I1, M1, B1⟩
  obtain ⟨β1, a1, n1, k1, rfl, hn1, S1, hb1⟩ := I1.form
  replace c0 := (B1.cell (p := ⟨x, 0, none⟩) hx).trans c0
  replace c1 := (B1.cell (p := ⟨x, 1, none⟩) hx).trans c1
  replace c2 := (B1.cell (p := ⟨x, 2, none⟩) hx).trans c2
  replace c3 := (B1.cell (p := ⟨x, 3, none⟩) hx).trans c3
  replace c4 := (B1.cell (p := ⟨x, 4, none⟩) hx).trans c4
  have z1 := B1.size
  replace hx : x < w1.heap.size := by omega
  have Y1 := hd S1
  have G1 := hd (And.intro hb1 hn1)
  have H1 := hd M1
  have D1 := hd B1
  clear I1 M1 B1 S1 hb1 hn1 H0
  go_wp2_with fail
  refine (mk_held H1.out 0 rfl).mono ?_
  rintro _ w2 ⟨u2, rfl, I2, M2, B2⟩
  obtain ⟨β2, a2, n2, k2, rfl, hn2, S2, hb2⟩ := I2.form
  replace c0 := (B2.cell (p := ⟨x, 0, none⟩) hx).trans c0
  replace c1 := (B2.cell (p := ⟨x, 1, none⟩) hx).trans c1
  replace c2 := (B2.cell (p := ⟨x, 2, none⟩) hx).trans c2
  replace c3 := (B2.cell (p := ⟨x, 3, none⟩) hx).trans c3
  replace c4 := (B2.cell (p := ⟨x, 4, none⟩) hx).trans c4
  have z2 := B2.size
  replace hx : x < w2.heap.size := by omega
  have Z := hd (Y1.out.fr (S := fun _ => False) (Fr.of_below B2) (fun _ _ h => h))
  clear Y1
  have Y1 := hd Z.out
  clear Z
  have Y2 := hd S2
  have G2 := hd (And.intro hb2 hn2)
  have H2 := hd M2
  have D2 := hd B2
  clear I2 M2 B2 S2 hb2 hn2 H1
  go_wp2_with fail
  refine (mr_held H2.out 2 rfl).mono ?_
  rintro _ w3 ⟨u3, rfl, I3, M3, B3⟩
  obtain ⟨β3, a3, n3, k3, rfl, hn3, S3, hb3⟩ := I3.form
  replace c0 := (B3.cell (p := ⟨x, 0, none⟩) hx).trans c0
  replace c1 := (B3.cell (p := ⟨x, 1, none⟩) hx).trans c1
  replace c2 := (B3.cell (p := ⟨x, 2, none⟩) hx).trans c2
  replace c3 := (B3.cell (p := ⟨x, 3, none⟩) hx).trans c3
  replace c4 := (B3.cell (p := ⟨x, 4, none⟩) hx).trans c4
  have z3 := B3.size
  replace hx : x < w3.heap.size := by omega
  have Z := hd (Y1.out.fr (S := fun _ => False) (Fr.of_below B3) (fun _ _ h => h))
  clear Y1
  have Y1 := hd Z.out
  clear Z
  have Z := hd (Y2.out.fr (S := fun _ => False) (Fr.of_below B3) (fun _ _ h => h))
  clear Y2
  have Y2 := hd Z.out
  clear Z
  have Y3 := hd S3
  have G3 := hd (And.intro hb3 hn3)
  have H3 := hd M3
  have D3 := hd B3
  clear I3 M3 B3 S3 hb3 hn3 H2
  go_wp2_with fail
  refine (eq_true _ _ (heldL A.ib) w3 Y1.out.isL Y3.out.isL).mono ?_
  rintro _ _ ⟨rfl, z1', rfl⟩
  go_wp2_with fail
  refine (eq_true _ _ (heldL A.ib) (w3.drewN z1') (Y2.out.isL.below (below_drewN' _ _)) (Y3.out.isL.below (below_drewN' _ _))).mono ?_
  rintro _ _ ⟨rfl, z2', rfl⟩
  obtain ⟨W, hW⟩ : ∃ W, W = (w3.drewN z1').drewN z2' := ⟨_, rfl⟩
  have BW : RowKit.Below w3.heap.size w3 W := by rw [hW]; exact below_drewN (below_drewN' _ _) _
  have eW : W.heap.size = w3.heap.size := by rw [hW]; rfl
  rw [← hW]
  replace c4 := (BW.cell (p := ⟨x, 4, none⟩) hx).trans c4
  have X1 := hd (Y1.out.fr (S := fun _ => False) (Fr.of_below BW) (fun _ _ h => h))
  have X2 := hd (Y2.out.fr (S := fun _ => False) (Fr.of_below BW) (fun _ _ h => h))
  have X3 := hd (Y3.out.fr (S := fun _ => False) (Fr.of_below BW) (fun _ _ h => h))
  have HW := hd (MO.below H3.out BW)
  have EW := hd eW
  clear Y1 Y2 Y3 H3 BW hW c0 c1 c2 c3 eW
  by_cases hm4 : 40 < m
  · have i1 : (40 : Int) < (m : Int) := by omega
    go_wp2_with fail
    go_ret
    exact ⟨rfl, m, hm, MO.less HW.out (fun k hk => hk.elim)⟩
  · have i1 : ¬ (40 : Int) < (m : Int) := by omega
    go_wp2_with fail
    refine (pb_scrawl HW.out X1.out (fun g hg => ?_) (by rw [G1.out.2]; exact hlen) (by omega)).mono ?_
    · obtain ⟨q1, q2⟩ := G1.out.1 g hg
      exact ⟨(kin3 (by omega) (by omega)), by omega⟩
    rintro _ V1 ⟨rfl, M6, P6⟩
    have T2 := X2.out.keepAt (w' := V1) (fun g hg => P6 g ⟨(by obtain ⟨q1, q2⟩ := G2.out.1 g hg; exact (kin3 (by omega) (by omega))), fun e => (by have := G1.out.1 g e; have := G2.out.1 g hg; omega)⟩)
    have T3 := X3.out.keepAt (w' := V1) (fun g hg => P6 g ⟨(by obtain ⟨q1, q2⟩ := G3.out.1 g hg; exact (kin3 (by omega) (by omega))), fun e => (by have := G1.out.1 g e; have := G3.out.1 g hg; omega)⟩)
    have H6 := hd M6
    have HT2 := hd T2
    have HT3 := hd T3
    clear M6 P6 T2 T3 X1 X2 X3 HW
    go_wp2_with fail
    refine (eq_true _ _ (heldL A.ib) V1 HT2.out.isL HT3.out.isL).mono ?_
    rintro _ _ ⟨rfl, z3', rfl⟩
    go_wp2_with fail
    refine (pb_scrawl (MO.below H6.out (below_drewN' _ z3')) (HT2.out.fr (S := fun _ => False) (Fr.of_below (below_drewN' _ _)) (fun _ _ h => h)) (fun g hg => ?_) (by rw [G2.out.2]; exact hlen) (by omega)).mono ?_
    · obtain ⟨q1, q2⟩ := G2.out.1 g hg
      exact ⟨⟨(kin3 (by omega) (by omega)), fun e => (by have := G1.out.1 g e; omega)⟩, by omega⟩
    rintro _ V2 ⟨rfl, M7, -⟩
    have H7 := hd M7
    clear M7 H6 HT2 HT3
    go_wp2_with fail
    go_ret
    exact ⟨rfl, m + 4, by omega, MO.less H7.out (fun k hk => hk.elim)⟩

set_option maxRecDepth 100000 in
set_option maxHeartbeats 4000000 in
theorem held_1 {G : Thg} {w0 w : World} {x a b r q : Nat} {A B : Rb} {m : Nat} (h : PB G w0 w NoK x a b r q A B m) (hm : m ≤ 44) :
    Calls Try.prog 29 #[pt x, .int .i64 1] w fun ex w' => ex = .returned (.bool true) ∧ ∃ m', m' ≤ 44 ∧ PB G w0 w' NoK x a b r q A B m' := by
  obtain ⟨aL, cL, vW, hbx, hL1, hL2, hx⟩ := pb_box h
  have hlen := heldR_len (mq_ok h 3 rfl)
  have hbs := h.base.size
  have c0 := cell_row hbx 0
  have c1 := cell_row hbx 1
  have c2 := cell_row hbx 2
  have c3 := cell_row hbx 3
  have c4 := cell_row hbx 4
  simp at c0 c1 c2 c3 c4
  have H0 := hd h
  clear h hbx
  go_enter Try.func29, Try.ntmps29
  go_wp2_with fail
  refine (mk_held H0.out 0 rfl).mono ?_
  rintro _ w1 ⟨u1, rfl, I1, M1, B1⟩
  obtain ⟨β1, a1, n1, k1, rfl, hn1, S1, hb1⟩ := I1.form
  replace c0 := (B1.cell (p := ⟨x, 0, none⟩) hx).trans c0
  replace c1 := (B1.cell (p := ⟨x, 1, none⟩) hx).trans c1
  replace c2 := (B1.cell (p := ⟨x, 2, none⟩) hx).trans c2
  replace c3 := (B1.cell (p := ⟨x, 3, none⟩) hx).trans c3
  replace c4 := (B1.cell (p := ⟨x, 4, none⟩) hx).trans c4
  have z1 := B1.size
  replace hx : x < w1.heap.size := by omega
  have H1 := hd M1
  have D1 := hd B1
  clear I1 M1 B1 S1 hb1 hn1 H0
  go_wp2_with fail
  refine (mk_held H1.out 0 rfl).mono ?_
  rintro _ w2 ⟨u2, rfl, I2, M2, B2⟩
  obtain ⟨β2, a2, n2, k2, rfl, hn2, S2, hb2⟩ := I2.form
  replace c0 := (B2.cell (p := ⟨x, 0, none⟩) hx).trans c0
  replace c1 := (B2.cell (p := ⟨x, 1, none⟩) hx).trans c1
  replace c2 := (B2.cell (p := ⟨x, 2, none⟩) hx).trans c2
  replace c3 := (B2.cell (p := ⟨x, 3, none⟩) hx).trans c3
  replace c4 := (B2.cell (p := ⟨x, 4, none⟩) hx).trans c4
  have z2 := B2.size
  replace hx : x < w2.heap.size := by omega
  have H2 := hd M2
  have D2 := hd B2
  clear I2 M2 B2 S2 hb2 hn2 H1
  go_wp2_with fail
  refine (mq_held H2.out 1 rfl).mono ?_
  rintro _ w3 ⟨u3, rfl, I3, M3, B3⟩
  obtain ⟨β3, a3, n3, k3, rfl, hn3, S3, hb3⟩ := I3.form
  replace c0 := (B3.cell (p := ⟨x, 0, none⟩) hx).trans c0
  replace c1 := (B3.cell (p := ⟨x, 1, none⟩) hx).trans c1
  replace c2 := (B3.cell (p := ⟨x, 2, none⟩) hx).trans c2
  replace c3 := (B3.cell (p := ⟨x, 3, none⟩) hx).trans c3
  replace c4 := (B3.cell (p := ⟨x, 4, none⟩) hx).trans c4
  have z3 := B3.size
  replace hx : x < w3.heap.size := by omega
  have Y3 := hd S3
  have G3 := hd (And.intro hb3 hn3)
  have H3 := hd M3
  have D3 := hd B3
  clear I3 M3 B3 S3 hb3 hn3 H2
  go_wp2_with fail
  refine (mq_held H3.out 1 rfl).mono ?_
  rintro _ w4 ⟨u4, rfl, I4, M4, B4⟩
  obtain ⟨β4, a4, n4, k4, rfl, hn4, S4, hb4⟩ := I4.form
  replace c0 := (B4.cell (p := ⟨x, 0, none⟩) hx).trans c0
  replace c1 := (B4.cell (p := ⟨x, 1, none⟩) hx).trans c1
  replace c2 := (B4.cell (p := ⟨x, 2, none⟩) hx).trans c2
  replace c3 := (B4.cell (p := ⟨x, 3, none⟩) hx).trans c3
  replace c4 := (B4.cell (p := ⟨x, 4, none⟩) hx).trans c4
  have z4 := B4.size
  replace hx : x < w4.heap.size := by omega
  have Z := hd (Y3.out.fr (S := fun _ => False) (Fr.of_below B4) (fun _ _ h => h))
  clear Y3
  have Y3 := hd Z.out
  clear Z
  have Y4 := hd S4
  have G4 := hd (And.intro hb4 hn4)
  have H4 := hd M4
  have D4 := hd B4
  clear I4 M4 B4 S4 hb4 hn4 H3
  go_wp2_with fail
  refine (mr_held H4.out 3 rfl).mono ?_
  rintro _ w5 ⟨u5, rfl, I5, M5, B5⟩
  obtain ⟨β5, a5, n5, k5, rfl, hn5, S5, hb5⟩ := I5.form
  replace c0 := (B5.cell (p := ⟨x, 0, none⟩) hx).trans c0
  replace c1 := (B5.cell (p := ⟨x, 1, none⟩) hx).trans c1
  replace c2 := (B5.cell (p := ⟨x, 2, none⟩) hx).trans c2
  replace c3 := (B5.cell (p := ⟨x, 3, none⟩) hx).trans c3
  replace c4 := (B5.cell (p := ⟨x, 4, none⟩) hx).trans c4
  have z5 := B5.size
  replace hx : x < w5.heap.size := by omega
  have Z := hd (Y3.out.fr (S := fun _ => False) (Fr.of_below B5) (fun _ _ h => h))
  clear Y3
  have Y3 := hd Z.out
  clear Z
  have Z := hd (Y4.out.fr (S := fun _ => False) (Fr.of_below B5) (fun _ _ h => h))
  clear Y4
  have Y4 := hd Z.out
  clear Z
  have Y5 := hd S5
  have G5 := hd (And.intro hb5 hn5)
  have H5 := hd M5
  have D5 := hd B5
  clear I5 M5 B5 S5 hb5 hn5 H4
  go_wp2_with fail
  refine (eq_true _ _ (heldL B.ib) w5 Y3.out.isL Y5.out.isL).mono ?_
  rintro _ _ ⟨rfl, z1', rfl⟩
  go_wp2_with fail
  refine (eq_true _ _ (heldL B.ib) (w5.drewN z1') (Y4.out.isL.below (below_drewN' _ _)) (Y5.out.isL.below (below_drewN' _ _))).mono ?_
  rintro _ _ ⟨rfl, z2', rfl⟩
  obtain ⟨W, hW⟩ : ∃ W, W = (w5.drewN z1').drewN z2' := ⟨_, rfl⟩
  have BW : RowKit.Below w5.heap.size w5 W := by rw [hW]; exact below_drewN (below_drewN' _ _) _
  have eW : W.heap.size = w5.heap.size := by rw [hW]; rfl
  rw [← hW]
  replace c4 := (BW.cell (p := ⟨x, 4, none⟩) hx).trans c4
  have X1 := hd (Y3.out.fr (S := fun _ => False) (Fr.of_below BW) (fun _ _ h => h))
  have X2 := hd (Y4.out.fr (S := fun _ => False) (Fr.of_below BW) (fun _ _ h => h))
  have X3 := hd (Y5.out.fr (S := fun _ => False) (Fr.of_below BW) (fun _ _ h => h))
  have HW := hd (MO.below H5.out BW)
  have EW := hd eW
  clear Y3 Y4 Y5 H5 BW hW c0 c1 c2 c3 eW
  by_cases hm4 : 40 < m
  · have i1 : (40 : Int) < (m : Int) := by omega
    go_wp2_with fail
    go_ret
    exact ⟨rfl, m, hm, MO.less HW.out (fun k hk => hk.elim)⟩
  · have i1 : ¬ (40 : Int) < (m : Int) := by omega
    go_wp2_with fail
    refine (pb_scrawl HW.out X1.out (fun g hg => ?_) (by rw [G3.out.2]; exact hlen) (by omega)).mono ?_
    · obtain ⟨q1, q2⟩ := G3.out.1 g hg
      exact ⟨(kin5 (by omega) (by omega)), by omega⟩
    rintro _ V1 ⟨rfl, M6, P6⟩
    have T2 := X2.out.keepAt (w' := V1) (fun g hg => P6 g ⟨(by obtain ⟨q1, q2⟩ := G4.out.1 g hg; exact (kin5 (by omega) (by omega))), fun e => (by have := G3.out.1 g e; have := G4.out.1 g hg; omega)⟩)
    have T3 := X3.out.keepAt (w' := V1) (fun g hg => P6 g ⟨(by obtain ⟨q1, q2⟩ := G5.out.1 g hg; exact (kin5 (by omega) (by omega))), fun e => (by have := G3.out.1 g e; have := G5.out.1 g hg; omega)⟩)
    have H6 := hd M6
    have HT2 := hd T2
    have HT3 := hd T3
    clear M6 P6 T2 T3 X1 X2 X3 HW
    go_wp2_with fail
    refine (eq_true _ _ (heldL B.ib) V1 HT2.out.isL HT3.out.isL).mono ?_
    rintro _ _ ⟨rfl, z3', rfl⟩
    go_wp2_with fail
    refine (pb_scrawl (MO.below H6.out (below_drewN' _ z3')) (HT2.out.fr (S := fun _ => False) (Fr.of_below (below_drewN' _ _)) (fun _ _ h => h)) (fun g hg => ?_) (by rw [G4.out.2]; exact hlen) (by omega)).mono ?_
    · obtain ⟨q1, q2⟩ := G4.out.1 g hg
      exact ⟨⟨(kin5 (by omega) (by omega)), fun e => (by have := G3.out.1 g e; omega)⟩, by omega⟩
    rintro _ V2 ⟨rfl, M7, -⟩
    have H7 := hd M7
    clear M7 H6 HT2 HT3
    go_wp2_with fail
    go_ret
    exact ⟨rfl, m + 4, by omega, MO.less H7.out (fun k hk => hk.elim)⟩

end Go.Proofs.Ytpjnhjijipcjkaa
