/-
  step, the rest of the kinds.
-/
import Derived.Test.YtdlelbdhcpjdfabPd
namespace Go.Proofs.Ytdlelbdhcpjdfab
open Go.RowKit
set_option linter.unusedVariables false

set_option maxRecDepth 100000 in
set_option maxHeartbeats 4000000 in
theorem step_fill (P : Nat) (F : Nat → FS) (site oa ob oc : Int) (xs : List Int) (xa : Option Addr) (xn xc : Nat) (w wr : World) (h : PS w wr P F F) (hx : IsB w xa xn xc xs) (hxn : xn ≤ 140737488351232) :
    Calls Try.prog 19 #[.pointer (some ⟨P, 0, none⟩), .agg #[.int .i64 10, .int .i64 site, .int .i64 oa, .int .i64 ob, .int .i64 oc, .slice xa xn xc]] wr fun x w' => x = .returned (.bool true) ∧ QS w w' P := by
  obtain ⟨i, hi, hsi⟩ := siteP_nat site
  have HSI := hd hsi
  have X := hd hx
  clear hsi hx
  obtain ⟨D, ρ, R, β, tag, h0⟩ := h
  have al : Below wr.heap.size wr (wr.alloc (.cells #[.int .i64 10, .int .i64 site, .int .i64 oa, .int .i64 ob, .int .i64 oc, .slice xa xn xc] 29)) := (Below.refl _ _).alloc (Nat.le_refl _) _
  have H1 := hd (h0.belowP al)
  have LQ : Hid (∀ k, Own (D i) (ρ i) k → ¬ k = wr.heap.size) := fun k hk e => by
    have := (h0.disk i hi).lt k hk
    omega
  have LR : Hid (∀ k, Own (R i) (β i) k → ¬ k = wr.heap.size) := fun k hk e => by
    have := (h0.ref i hi).lt k hk
    omega
  have OB : Hid ((wr.alloc (.cells #[.int .i64 10, .int .i64 site, .int .i64 oa, .int .i64 ob, .int .i64 oc, .slice xa xn xc] 29)).heap[wr.heap.size]? = some (.cells #[.int .i64 10, .int .i64 site, .int .i64 oa, .int .i64 ob, .int .i64 oc, .slice xa xn xc] 29 (0, 0))) := heap_alloc_new _ _
  clear al h0
  have i1 : (i : Int) < 2 := by omega
  have i2 : (0 : Int) ≤ (i : Int) := by omega
  obtain ⟨yy, hyy⟩ : ∃ yy, yy = byteOf ob := ⟨_, rfl⟩
  have HYY : Hid (ob % 256 = yy) := hyy.symm
  have hfl := hd (fillN_le oa)
  clear hyy
  go_enter Try.func19, Try.ntmps19
  go_wp2_with fail
  refine (site_any site _).mono ?_
  rintro e w1 ⟨rfl, rfl⟩
  rw [HSI.out]
  obtain ⟨p0, p1, p2, p3, p4, p5⟩ := op_cells OB.out
  have c0 := H1.out.cellD i hi
  generalize wr.alloc (.cells #[.int .i64 10, .int .i64 site, .int .i64 oa, .int .i64 ob, .int .i64 oc, .slice xa xn xc] 29) = wb at *
  generalize wr.heap.size = Q at *
  go_wp2_with fail
  rw [HYY.out]
  refine (filled_any oa yy _).mono ?_
  rintro e w2 ⟨v2, rfl, hN, hb2⟩
  obtain ⟨g2, rfl, hg2, hG⟩ := hN.isB (by have := hfl.out; omega)
  have G2 := hd hG
  have H2 := hd (H1.out.belowP hb2)
  have hgD : Hid (¬ Own (D i) (ρ i) g2) := fun hk => by
    have := (H1.out.disk i hi).lt _ hk
    omega
  have hgR : Hid (¬ Own (R i) (β i) g2) := fun hk => by
    have := (H1.out.ref i hi).lt _ hk
    omega
  have H3 := hd (H2.out.belowP (below_drewN (Below.refl _ _) 1))
  have G3 := hd (G2.out.below (below_drewN (Below.refl _ _) 1))
  have c3 := H2.out.cellD i hi
  generalize fillN oa = fn at *
  generalize hys : List.replicate fn yy = ys at *
  clear hN hb2 hG hg2 p0 p1 p2 p3 p4 p5 c0 H1 OB G2 hys
  go_wp2_with fail
  go_region_held3 (fun w' => w'.cell? ⟨P, i, none⟩ = some (.pointer (some ⟨D i, 0, none⟩))) (first | go_keep | assumption) (first | (go_at_call 12; refine (copied_any _ fn fn ys _ G3.out (by have := hfl.out; omega)).mono ?_; rintro e w3 ⟨v3, rfl, hN, hb3⟩; obtain ⟨g3, rfl, hG, hne⟩ := newB_blk hN (by have := hfl.out; omega) (D i) ((H3.out.disk i hi).lt _ (.inl rfl)); have HG := hd hG; have HN := hd hne; have H4 := hd (H3.out.belowP hb3); have G4 := hd (G3.out.below hb3); have q0 := H4.out.cellD i hi; clear hN hG hne hb3) | (go_at_call 14; refine (append_any (D i) (ρ i) (F i).B (F i).s _ _ _ ys _ (H4.out.disk i hi) HG.out HN.out).mono ?_; rintro e w4 ⟨rfl, hnow⟩; clear q0; have hF := hnow; obtain ⟨_, _, _, hFF⟩ := hF; obtain ⟨ρ5, tag5, h5⟩ := H4.out.dstep i hi hnow; have H5 := hd h5; have q0 := h5.cellD i hi; have G5 : Hid (IsB w4 (some ⟨g2, 0, none⟩) fn fn ys) := (G4.out.fr hFF (fun _ b off e hk => hgD.out ((Addr.mk.inj (Option.some.inj e)).1 ▸ hk))); clear hnow h5 hFF))
  have H6 := hd (H5.out.belowP (below_drewN (Below.refl _ _) 1))
  have G6 := hd (G5.out.below (below_drewN (Below.refl _ _) 1))
  have c5 := H5.out.cellR i hi
  have SEP : Hid (0 < fn → ∀ b off, some (⟨g2, 0, none⟩ : Addr) = some ⟨b, off, none⟩ → ¬ Own (R i) (β i) b) := fun _ b off e hk => hgR.out ((Addr.mk.inj (Option.some.inj e)).1 ▸ hk)
  clear H2 H3 H4 G3 G4 HG HN c3 q0
  go_wp2_with fail
  go_region_held3 (fun w' => w'.cell? ⟨P, 2 + i, none⟩ = some (.pointer (some ⟨R i, 0, none⟩))) (first | go_keep | assumption) (first | (go_at_call 13; refine (num_any _ _).mono ?_; rintro e w6 ⟨rfl, rfl⟩) | (go_at_call 30; refine (rappend_any (R i) (β i) (F i).B (F i).s _ fn fn ys _ (H6.out.ref i hi) G6.out SEP.out).mono ?_; rintro e w7 ⟨rfl, hnow⟩; obtain ⟨β7, tag7, h7⟩ := H6.out.rstep i hi hnow; have H7 := hd h7; have r0 := h7.cellR i hi; clear hnow h7))
  go_wp2
  go_ret
  exact ⟨rfl, _, D, _, R, _, tag7, H7.out⟩

set_option maxRecDepth 100000 in
set_option maxHeartbeats 4000000 in
theorem step_ask7 (P : Nat) (F : Nat → FS) (site oa ob oc : Int) (xs : List Int) (xa : Option Addr) (xn xc : Nat) (w wr : World) (h : PS w wr P F F) (hx : IsB w xa xn xc xs) (hxn : xn ≤ 140737488351232) :
    Calls Try.prog 19 #[.pointer (some ⟨P, 0, none⟩), .agg #[.int .i64 7, .int .i64 site, .int .i64 oa, .int .i64 ob, .int .i64 oc, .slice xa xn xc]] wr fun x w' => x = .returned (.bool true) ∧ QS w w' P := by
  obtain ⟨i, hi, hsi⟩ := siteP_nat site
  have HSI := hd hsi
  have X := hd hx
  clear hsi hx
  obtain ⟨D, ρ, R, β, tag, h0⟩ := h
  have al : Below wr.heap.size wr (wr.alloc (.cells #[.int .i64 7, .int .i64 site, .int .i64 oa, .int .i64 ob, .int .i64 oc, .slice xa xn xc] 29)) := (Below.refl _ _).alloc (Nat.le_refl _) _
  have H1 := hd (h0.belowP al)
  have LQ : Hid (∀ k, Own (D i) (ρ i) k → ¬ k = wr.heap.size) := fun k hk e => by
    have := (h0.disk i hi).lt k hk
    omega
  have LR : Hid (∀ k, Own (R i) (β i) k → ¬ k = wr.heap.size) := fun k hk e => by
    have := (h0.ref i hi).lt k hk
    omega
  have OB : Hid ((wr.alloc (.cells #[.int .i64 7, .int .i64 site, .int .i64 oa, .int .i64 ob, .int .i64 oc, .slice xa xn xc] 29)).heap[wr.heap.size]? = some (.cells #[.int .i64 7, .int .i64 site, .int .i64 oa, .int .i64 ob, .int .i64 oc, .slice xa xn xc] 29 (0, 0))) := heap_alloc_new _ _
  clear al h0
  have i1 : (i : Int) < 2 := by omega
  have i2 : (0 : Int) ≤ (i : Int) := by omega
  go_enter Try.func19, Try.ntmps19
  go_wp2_with fail
  refine (site_any site _).mono ?_
  rintro e w1 ⟨rfl, rfl⟩
  rw [HSI.out]
  obtain ⟨p0, p1, p2, p3, p4, p5⟩ := op_cells OB.out
  have c0 := H1.out.cellD i hi
  generalize wr.alloc (.cells #[.int .i64 7, .int .i64 site, .int .i64 oa, .int .i64 ob, .int .i64 oc, .slice xa xn xc] 29) = wb at *
  generalize wr.heap.size = Q at *
  go_wp2_with fail
  refine (asked_any P F 7 site oa ob oc xa xn xc w _ ⟨D, ρ, R, β, tag, H1.out⟩).mono ?_
  rintro e w3 ⟨rfl, hP⟩
  have Q3 : Hid (QS w w3 P) := ⟨F, hP⟩
  clear hP p0 p1 p2 p3 p4 p5 c0
  go_wp2
  go_ret
  exact ⟨rfl, Q3.out⟩

set_option maxRecDepth 100000 in
set_option maxHeartbeats 4000000 in
theorem step_ask8 (P : Nat) (F : Nat → FS) (site oa ob oc : Int) (xs : List Int) (xa : Option Addr) (xn xc : Nat) (w wr : World) (h : PS w wr P F F) (hx : IsB w xa xn xc xs) (hxn : xn ≤ 140737488351232) :
    Calls Try.prog 19 #[.pointer (some ⟨P, 0, none⟩), .agg #[.int .i64 8, .int .i64 site, .int .i64 oa, .int .i64 ob, .int .i64 oc, .slice xa xn xc]] wr fun x w' => x = .returned (.bool true) ∧ QS w w' P := by
  obtain ⟨i, hi, hsi⟩ := siteP_nat site
  have HSI := hd hsi
  have X := hd hx
  clear hsi hx
  obtain ⟨D, ρ, R, β, tag, h0⟩ := h
  have al : Below wr.heap.size wr (wr.alloc (.cells #[.int .i64 8, .int .i64 site, .int .i64 oa, .int .i64 ob, .int .i64 oc, .slice xa xn xc] 29)) := (Below.refl _ _).alloc (Nat.le_refl _) _
  have H1 := hd (h0.belowP al)
  have LQ : Hid (∀ k, Own (D i) (ρ i) k → ¬ k = wr.heap.size) := fun k hk e => by
    have := (h0.disk i hi).lt k hk
    omega
  have LR : Hid (∀ k, Own (R i) (β i) k → ¬ k = wr.heap.size) := fun k hk e => by
    have := (h0.ref i hi).lt k hk
    omega
  have OB : Hid ((wr.alloc (.cells #[.int .i64 8, .int .i64 site, .int .i64 oa, .int .i64 ob, .int .i64 oc, .slice xa xn xc] 29)).heap[wr.heap.size]? = some (.cells #[.int .i64 8, .int .i64 site, .int .i64 oa, .int .i64 ob, .int .i64 oc, .slice xa xn xc] 29 (0, 0))) := heap_alloc_new _ _
  clear al h0
  have i1 : (i : Int) < 2 := by omega
  have i2 : (0 : Int) ≤ (i : Int) := by omega
  go_enter Try.func19, Try.ntmps19
  go_wp2_with fail
  refine (site_any site _).mono ?_
  rintro e w1 ⟨rfl, rfl⟩
  rw [HSI.out]
  obtain ⟨p0, p1, p2, p3, p4, p5⟩ := op_cells OB.out
  have c0 := H1.out.cellD i hi
  generalize wr.alloc (.cells #[.int .i64 8, .int .i64 site, .int .i64 oa, .int .i64 ob, .int .i64 oc, .slice xa xn xc] 29) = wb at *
  generalize wr.heap.size = Q at *
  go_wp2_with fail
  refine (asked_any P F 8 site oa ob oc xa xn xc w _ ⟨D, ρ, R, β, tag, H1.out⟩).mono ?_
  rintro e w3 ⟨rfl, hP⟩
  have Q3 : Hid (QS w w3 P) := ⟨F, hP⟩
  clear hP p0 p1 p2 p3 p4 p5 c0
  go_wp2
  go_ret
  exact ⟨rfl, Q3.out⟩

set_option maxRecDepth 100000 in
set_option maxHeartbeats 4000000 in
theorem step_ask9 (P : Nat) (F : Nat → FS) (site oa ob oc : Int) (xs : List Int) (xa : Option Addr) (xn xc : Nat) (w wr : World) (h : PS w wr P F F) (hx : IsB w xa xn xc xs) (hxn : xn ≤ 140737488351232) :
    Calls Try.prog 19 #[.pointer (some ⟨P, 0, none⟩), .agg #[.int .i64 9, .int .i64 site, .int .i64 oa, .int .i64 ob, .int .i64 oc, .slice xa xn xc]] wr fun x w' => x = .returned (.bool true) ∧ QS w w' P := by
  obtain ⟨i, hi, hsi⟩ := siteP_nat site
  have HSI := hd hsi
  have X := hd hx
  clear hsi hx
  obtain ⟨D, ρ, R, β, tag, h0⟩ := h
  have al : Below wr.heap.size wr (wr.alloc (.cells #[.int .i64 9, .int .i64 site, .int .i64 oa, .int .i64 ob, .int .i64 oc, .slice xa xn xc] 29)) := (Below.refl _ _).alloc (Nat.le_refl _) _
  have H1 := hd (h0.belowP al)
  have LQ : Hid (∀ k, Own (D i) (ρ i) k → ¬ k = wr.heap.size) := fun k hk e => by
    have := (h0.disk i hi).lt k hk
    omega
  have LR : Hid (∀ k, Own (R i) (β i) k → ¬ k = wr.heap.size) := fun k hk e => by
    have := (h0.ref i hi).lt k hk
    omega
  have OB : Hid ((wr.alloc (.cells #[.int .i64 9, .int .i64 site, .int .i64 oa, .int .i64 ob, .int .i64 oc, .slice xa xn xc] 29)).heap[wr.heap.size]? = some (.cells #[.int .i64 9, .int .i64 site, .int .i64 oa, .int .i64 ob, .int .i64 oc, .slice xa xn xc] 29 (0, 0))) := heap_alloc_new _ _
  clear al h0
  have i1 : (i : Int) < 2 := by omega
  have i2 : (0 : Int) ≤ (i : Int) := by omega
  go_enter Try.func19, Try.ntmps19
  go_wp2_with fail
  refine (site_any site _).mono ?_
  rintro e w1 ⟨rfl, rfl⟩
  rw [HSI.out]
  obtain ⟨p0, p1, p2, p3, p4, p5⟩ := op_cells OB.out
  have c0 := H1.out.cellD i hi
  generalize wr.alloc (.cells #[.int .i64 9, .int .i64 site, .int .i64 oa, .int .i64 ob, .int .i64 oc, .slice xa xn xc] 29) = wb at *
  generalize wr.heap.size = Q at *
  go_wp2_with fail
  refine (asked_any P F 9 site oa ob oc xa xn xc w _ ⟨D, ρ, R, β, tag, H1.out⟩).mono ?_
  rintro e w3 ⟨rfl, hP⟩
  have Q3 : Hid (QS w w3 P) := ⟨F, hP⟩
  clear hP p0 p1 p2 p3 p4 p5 c0
  go_wp2
  go_ret
  exact ⟨rfl, Q3.out⟩

set_option maxRecDepth 100000 in
set_option maxHeartbeats 4000000 in
theorem step_new1 (P : Nat) (F : Nat → FS) (site oa ob oc : Int) (xs : List Int) (xa : Option Addr) (xn xc : Nat) (w wr : World) (h : PS w wr P F F) (hx : IsB w xa xn xc xs) (hxn : xn ≤ 140737488351232) :
    Calls Try.prog 19 #[.pointer (some ⟨P, 0, none⟩), .agg #[.int .i64 1, .int .i64 site, .int .i64 oa, .int .i64 ob, .int .i64 oc, .slice xa xn xc]] wr fun x w' => x = .returned (.bool true) ∧ QS w w' P := by
  obtain ⟨i, hi, hsi⟩ := siteP_nat site
  have HSI := hd hsi
  have X := hd hx
  clear hsi hx
  obtain ⟨D, ρ, R, β, tag, h0⟩ := h
  have al : Below wr.heap.size wr (wr.alloc (.cells #[.int .i64 1, .int .i64 site, .int .i64 oa, .int .i64 ob, .int .i64 oc, .slice xa xn xc] 29)) := (Below.refl _ _).alloc (Nat.le_refl _) _
  have H1 := hd (h0.belowP al)
  have LQ : Hid (∀ k, Own (D i) (ρ i) k → ¬ k = wr.heap.size) := fun k hk e => by
    have := (h0.disk i hi).lt k hk
    omega
  have LR : Hid (∀ k, Own (R i) (β i) k → ¬ k = wr.heap.size) := fun k hk e => by
    have := (h0.ref i hi).lt k hk
    omega
  have OB : Hid ((wr.alloc (.cells #[.int .i64 1, .int .i64 site, .int .i64 oa, .int .i64 ob, .int .i64 oc, .slice xa xn xc] 29)).heap[wr.heap.size]? = some (.cells #[.int .i64 1, .int .i64 site, .int .i64 oa, .int .i64 ob, .int .i64 oc, .slice xa xn xc] 29 (0, 0))) := heap_alloc_new _ _
  clear al h0
  have i1 : (i : Int) < 2 := by omega
  have i2 : (0 : Int) ≤ (i : Int) := by omega
  go_enter Try.func19, Try.ntmps19
  go_wp2_with fail
  refine (site_any site _).mono ?_
  rintro e w1 ⟨rfl, rfl⟩
  rw [HSI.out]
  obtain ⟨p0, p1, p2, p3, p4, p5⟩ := op_cells OB.out
  have c0 := H1.out.cellD i hi
  generalize wr.alloc (.cells #[.int .i64 1, .int .i64 site, .int .i64 oa, .int .i64 ob, .int .i64 oc, .slice xa xn xc] 29) = wb at *
  generalize wr.heap.size = Q at *
  go_wp2_with fail
  refine (renewed_any P F 1 site oa ob oc xs xa xn xc w _ ⟨D, ρ, R, β, tag, H1.out⟩ (X.out.below H1.out.below) hxn).mono ?_
  rintro e w3 ⟨rfl, hP⟩
  have Q3 := hd hP
  clear hP p0 p1 p2 p3 p4 p5 c0
  go_wp2
  go_ret
  exact ⟨rfl, Q3.out⟩

set_option maxRecDepth 100000 in
set_option maxHeartbeats 4000000 in
theorem step_new2 (P : Nat) (F : Nat → FS) (site oa ob oc : Int) (xs : List Int) (xa : Option Addr) (xn xc : Nat) (w wr : World) (h : PS w wr P F F) (hx : IsB w xa xn xc xs) (hxn : xn ≤ 140737488351232) :
    Calls Try.prog 19 #[.pointer (some ⟨P, 0, none⟩), .agg #[.int .i64 2, .int .i64 site, .int .i64 oa, .int .i64 ob, .int .i64 oc, .slice xa xn xc]] wr fun x w' => x = .returned (.bool true) ∧ QS w w' P := by
  obtain ⟨i, hi, hsi⟩ := siteP_nat site
  have HSI := hd hsi
  have X := hd hx
  clear hsi hx
  obtain ⟨D, ρ, R, β, tag, h0⟩ := h
  have al : Below wr.heap.size wr (wr.alloc (.cells #[.int .i64 2, .int .i64 site, .int .i64 oa, .int .i64 ob, .int .i64 oc, .slice xa xn xc] 29)) := (Below.refl _ _).alloc (Nat.le_refl _) _
  have H1 := hd (h0.belowP al)
  have LQ : Hid (∀ k, Own (D i) (ρ i) k → ¬ k = wr.heap.size) := fun k hk e => by
    have := (h0.disk i hi).lt k hk
    omega
  have LR : Hid (∀ k, Own (R i) (β i) k → ¬ k = wr.heap.size) := fun k hk e => by
    have := (h0.ref i hi).lt k hk
    omega
  have OB : Hid ((wr.alloc (.cells #[.int .i64 2, .int .i64 site, .int .i64 oa, .int .i64 ob, .int .i64 oc, .slice xa xn xc] 29)).heap[wr.heap.size]? = some (.cells #[.int .i64 2, .int .i64 site, .int .i64 oa, .int .i64 ob, .int .i64 oc, .slice xa xn xc] 29 (0, 0))) := heap_alloc_new _ _
  clear al h0
  have i1 : (i : Int) < 2 := by omega
  have i2 : (0 : Int) ≤ (i : Int) := by omega
  go_enter Try.func19, Try.ntmps19
  go_wp2_with fail
  refine (site_any site _).mono ?_
  rintro e w1 ⟨rfl, rfl⟩
  rw [HSI.out]
  obtain ⟨p0, p1, p2, p3, p4, p5⟩ := op_cells OB.out
  have c0 := H1.out.cellD i hi
  generalize wr.alloc (.cells #[.int .i64 2, .int .i64 site, .int .i64 oa, .int .i64 ob, .int .i64 oc, .slice xa xn xc] 29) = wb at *
  generalize wr.heap.size = Q at *
  go_wp2_with fail
  refine (renewed_any P F 2 site oa ob oc xs xa xn xc w _ ⟨D, ρ, R, β, tag, H1.out⟩ (X.out.below H1.out.below) hxn).mono ?_
  rintro e w3 ⟨rfl, hP⟩
  have Q3 := hd hP
  clear hP p0 p1 p2 p3 p4 p5 c0
  go_wp2
  go_ret
  exact ⟨rfl, Q3.out⟩

set_option maxRecDepth 100000 in
set_option maxHeartbeats 4000000 in
theorem step_else (P : Nat) (F : Nat → FS) (kind : Int) (site oa ob oc : Int) (xs : List Int) (xa : Option Addr) (xn xc : Nat) (w wr : World) (h : PS w wr P F F) (hx : IsB w xa xn xc xs) (hxn : xn ≤ 140737488351232) (hk : ¬ kind = 1 ∧ ¬ kind = 2 ∧ ¬ kind = 3 ∧ ¬ kind = 4 ∧ ¬ kind = 5 ∧ ¬ kind = 6 ∧ ¬ kind = 7 ∧ ¬ kind = 8 ∧ ¬ kind = 9 ∧ ¬ kind = 10) :
    Calls Try.prog 19 #[.pointer (some ⟨P, 0, none⟩), .agg #[.int .i64 kind, .int .i64 site, .int .i64 oa, .int .i64 ob, .int .i64 oc, .slice xa xn xc]] wr fun x w' => x = .returned (.bool true) ∧ QS w w' P := by
  obtain ⟨i, hi, hsi⟩ := siteP_nat site
  have HSI := hd hsi
  have X := hd hx
  clear hsi hx
  obtain ⟨D, ρ, R, β, tag, h0⟩ := h
  have al : Below wr.heap.size wr (wr.alloc (.cells #[.int .i64 kind, .int .i64 site, .int .i64 oa, .int .i64 ob, .int .i64 oc, .slice xa xn xc] 29)) := (Below.refl _ _).alloc (Nat.le_refl _) _
  have H1 := hd (h0.belowP al)
  have LQ : Hid (∀ k, Own (D i) (ρ i) k → ¬ k = wr.heap.size) := fun k hk e => by
    have := (h0.disk i hi).lt k hk
    omega
  have LR : Hid (∀ k, Own (R i) (β i) k → ¬ k = wr.heap.size) := fun k hk e => by
    have := (h0.ref i hi).lt k hk
    omega
  have OB : Hid ((wr.alloc (.cells #[.int .i64 kind, .int .i64 site, .int .i64 oa, .int .i64 ob, .int .i64 oc, .slice xa xn xc] 29)).heap[wr.heap.size]? = some (.cells #[.int .i64 kind, .int .i64 site, .int .i64 oa, .int .i64 ob, .int .i64 oc, .slice xa xn xc] 29 (0, 0))) := heap_alloc_new _ _
  clear al h0
  have i1 : (i : Int) < 2 := by omega
  have i2 : (0 : Int) ≤ (i : Int) := by omega
  obtain ⟨n1, n2, n3, n4, n5, n6, n7, n8, n9, n10⟩ := hk
  go_enter Try.func19, Try.ntmps19
  go_wp2_with fail
  refine (site_any site _).mono ?_
  rintro e w1 ⟨rfl, rfl⟩
  rw [HSI.out]
  obtain ⟨p0, p1, p2, p3, p4, p5⟩ := op_cells OB.out
  have c0 := H1.out.cellD i hi
  generalize wr.alloc (.cells #[.int .i64 kind, .int .i64 site, .int .i64 oa, .int .i64 ob, .int .i64 oc, .slice xa xn xc] 29) = wb at *
  generalize wr.heap.size = Q at *
  go_wp2
  go_ret
  exact ⟨rfl, F, D, ρ, R, β, tag, H1.out⟩

theorem step_any (P : Nat) (kind site oa ob oc : Int) (xs : List Int) (xa : Option Addr) (xn xc : Nat) (w wr : World) (h : QS w wr P) (hx : IsB w xa xn xc xs) (hxn : xn ≤ 140737488351232) :
    Calls Try.prog 19 #[.pointer (some ⟨P, 0, none⟩), .agg #[.int .i64 kind, .int .i64 site, .int .i64 oa, .int .i64 ob, .int .i64 oc, .slice xa xn xc]] wr fun x w' => x = .returned (.bool true) ∧ QS w w' P := by
  obtain ⟨F, h⟩ := h
  by_cases k1 : kind = 1
  · subst k1
    exact step_new1 P F site oa ob oc xs xa xn xc w wr h hx hxn
  by_cases k2 : kind = 2
  · subst k2
    exact step_new2 P F site oa ob oc xs xa xn xc w wr h hx hxn
  by_cases k3 : kind = 3
  · subst k3
    exact step_app P F site oa ob oc xs xa xn xc w wr h hx hxn
  by_cases k4 : kind = 4
  · subst k4
    exact step_sync P F site oa ob oc xs xa xn xc w wr h hx hxn
  by_cases k5 : kind = 5
  · subst k5
    exact step_cut P F site oa ob oc xs xa xn xc w wr h hx hxn
  by_cases k6 : kind = 6
  · subst k6
    exact step_crash P F site oa ob oc xs xa xn xc w wr h hx hxn
  by_cases k7 : kind = 7
  · subst k7
    exact step_ask7 P F site oa ob oc xs xa xn xc w wr h hx hxn
  by_cases k8 : kind = 8
  · subst k8
    exact step_ask8 P F site oa ob oc xs xa xn xc w wr h hx hxn
  by_cases k9 : kind = 9
  · subst k9
    exact step_ask9 P F site oa ob oc xs xa xn xc w wr h hx hxn
  by_cases k10 : kind = 10
  · subst k10
    exact step_fill P F site oa ob oc xs xa xn xc w wr h hx hxn
  exact step_else P F kind site oa ob oc xs xa xn xc w wr h hx hxn ⟨k1, k2, k3, k4, k5, k6, k7, k8, k9, k10⟩

end Go.Proofs.Ytdlelbdhcpjdfab
