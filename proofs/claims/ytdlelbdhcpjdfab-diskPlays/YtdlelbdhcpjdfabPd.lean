/-
  step.
-/
import Derived.Test.YtdlelbdhcpjdfabPb
namespace Go.Proofs.Ytdlelbdhcpjdfab
open Go.RowKit
set_option linter.unusedVariables false

/-- Bytes that came in lie in no file of the call itself. -/
theorem sepR {w wr : World} {P : Nat} {D : Nat → Nat} {ρ : Nat → Option Nat} {FD : Nat → FS} {R : Nat → Nat} {β : Nat → Option Nat} {FR : Nat → FS} {tag : Nat → Nat} (h : PSt w wr P D ρ FD R β FR tag) (i : Nat) (hi : i < 2) {xa : Option Addr} {xn xc : Nat} {xs : List Int} (hx : IsB w xa xn xc xs) :
    0 < xn → ∀ b off, xa = some ⟨b, off, none⟩ → ¬ Own (R i) (β i) b := by
  intro h0 b off e hk
  obtain ⟨b', off', e', hb', _⟩ := hx.2.2.2 h0
  rw [e'] at e
  have e2 := Option.some.inj e
  simp at e2
  have := (h.tagR i b hi hk).2
  omega

set_option maxRecDepth 100000 in
set_option maxHeartbeats 4000000 in
theorem step_app (P : Nat) (F : Nat → FS) (site oa ob oc : Int) (xs : List Int) (xa : Option Addr) (xn xc : Nat) (w wr : World) (h : PS w wr P F F) (hx : IsB w xa xn xc xs) (hxn : xn ≤ 140737488351232) :
    Calls Try.prog 19 #[.pointer (some ⟨P, 0, none⟩), .agg #[.int .i64 3, .int .i64 site, .int .i64 oa, .int .i64 ob, .int .i64 oc, .slice xa xn xc]] wr fun x w' => x = .returned (.bool true) ∧ QS w w' P := by
  obtain ⟨i, hi, hsi⟩ := siteP_nat site
  have HSI := hd hsi
  have X := hd hx
  clear hsi hx
  obtain ⟨D, ρ, R, β, tag, h0⟩ := h
  have al : Below wr.heap.size wr (wr.alloc (.cells #[.int .i64 3, .int .i64 site, .int .i64 oa, .int .i64 ob, .int .i64 oc, .slice xa xn xc] 29)) := (Below.refl _ _).alloc (Nat.le_refl _) _
  have H1 := hd (h0.belowP al)
  have LQ : Hid (∀ k, Own (D i) (ρ i) k → ¬ k = wr.heap.size) := fun k hk e => by
    have := (h0.disk i hi).lt k hk
    omega
  have LR : Hid (∀ k, Own (R i) (β i) k → ¬ k = wr.heap.size) := fun k hk e => by
    have := (h0.ref i hi).lt k hk
    omega
  have OB : Hid ((wr.alloc (.cells #[.int .i64 3, .int .i64 site, .int .i64 oa, .int .i64 ob, .int .i64 oc, .slice xa xn xc] 29)).heap[wr.heap.size]? = some (.cells #[.int .i64 3, .int .i64 site, .int .i64 oa, .int .i64 ob, .int .i64 oc, .slice xa xn xc] 29 (0, 0))) := heap_alloc_new _ _
  clear al h0
  have i1 : (i : Int) < 2 := by omega
  have i2 : (0 : Int) ≤ (i : Int) := by omega
  go_enter Try.func19, Try.ntmps19
  go_wp2_with fail
  refine (site_any site _).mono ?_
  rintro e w1 ⟨rfl, rfl⟩
  rw [HSI.out]
  obtain ⟨p0, p1, p2, p3, p4, p5⟩ := op_cells OB.out
  have c0 := H1.out.cellD i hi
  generalize wr.alloc (.cells #[.int .i64 3, .int .i64 site, .int .i64 oa, .int .i64 ob, .int .i64 oc, .slice xa xn xc] 29) = wb at *
  generalize wr.heap.size = Q at *
  have H2 := hd (H1.out.belowP (below_drewN (Below.refl _ _) 1))
  have O2 := hd ((Fr.drewN (fun _ => False) wb 1).keeps OB.out (fun h => h))
  go_wp2_with fail
  go_region_held3 (fun w' => w'.cell? ⟨P, i, none⟩ = some (.pointer (some ⟨D i, 0, none⟩)) ∧ w'.cell? ⟨Q, 5, none⟩ = some (.slice xa xn xc)) (first | go_keep | (exact ⟨by assumption, by assumption⟩)) (first | (go_at_call 12; refine (copied_any xa xn xc xs _ (X.out.below H2.out.below) (by omega)).mono ?_; rintro e w2 ⟨v2, rfl, hN, hb2⟩; obtain ⟨g2, rfl, hG, hne⟩ := newB_blk hN (by omega) (D i) ((H2.out.disk i hi).lt _ (.inl rfl)); have HG := hd hG; have HN := hd hne; have H3 := hd (H2.out.belowP hb2); have O3 := hd ((Fr.of_below hb2 : Fr (fun _ => False) _ _).keeps O2.out (fun h => h)); have q0 := H3.out.cellD i hi; obtain ⟨t0, t1, t2, t3, t4, t5⟩ := op_cells O3.out; clear hN hG hne hb2) | (go_at_call 14; refine (append_any (D i) (ρ i) (F i).B (F i).s _ _ _ xs _ (H3.out.disk i hi) HG.out HN.out).mono ?_; rintro e w3 ⟨rfl, hnow⟩; clear t0 t1 t2 t3 t4 t5 q0; have hF := hnow; obtain ⟨_, _, _, hFF⟩ := hF; obtain ⟨ρ4, tag4, h4⟩ := H3.out.dstep i hi hnow; have H4 := hd h4; have q0 := h4.cellD i hi; have O4 := hd (hFF.keeps O3.out (fun hk => LQ.out _ hk rfl)); obtain ⟨t0, t1, t2, t3, t4, t5⟩ := op_cells O4.out; clear hnow h4 hFF))
  have H5 := hd (H4.out.belowP (below_drewN (Below.refl _ _) 1))
  have O5 := hd ((Fr.drewN (fun _ => False) w3 1).keeps O4.out (fun h => h))
  have c5 := H4.out.cellR i hi
  clear H1 H2 H3 OB O2 O3 HG HN p0 p1 p2 p3 p4 p5 c0
  go_wp2_with fail
  go_region_held3 (fun w' => w'.cell? ⟨P, 2 + i, none⟩ = some (.pointer (some ⟨R i, 0, none⟩)) ∧ w'.cell? ⟨Q, 5, none⟩ = some (.slice xa xn xc)) (first | go_keep | (exact ⟨by assumption, by assumption⟩)) (first | (go_at_call 13; refine (num_any _ _).mono ?_; rintro e w4 ⟨rfl, rfl⟩) | (go_at_call 30; refine (rappend_any (R i) (β i) (F i).B (F i).s xa xn xc xs _ (H5.out.ref i hi) (X.out.below H5.out.below) (sepR H5.out i hi X.out)).mono ?_; rintro e w6 ⟨rfl, hnow⟩; obtain ⟨β6, tag6, h6⟩ := H5.out.rstep i hi hnow; have H6 := hd h6; have r0 := h6.cellR i hi; have hF := hnow; obtain ⟨_, _, _, hFF⟩ := hF; have O6 := hd (hFF.keeps O5.out (fun hk => LR.out _ hk rfl)); obtain ⟨s0, s1, s2, s3, s4, s5⟩ := op_cells O6.out; clear hnow h6 hFF))
  go_wp2
  go_ret
  exact ⟨rfl, _, D, _, R, _, tag6, H6.out⟩

set_option maxRecDepth 100000 in
set_option maxHeartbeats 4000000 in
theorem step_sync (P : Nat) (F : Nat → FS) (site oa ob oc : Int) (xs : List Int) (xa : Option Addr) (xn xc : Nat) (w wr : World) (h : PS w wr P F F) (hx : IsB w xa xn xc xs) (hxn : xn ≤ 140737488351232) :
    Calls Try.prog 19 #[.pointer (some ⟨P, 0, none⟩), .agg #[.int .i64 4, .int .i64 site, .int .i64 oa, .int .i64 ob, .int .i64 oc, .slice xa xn xc]] wr fun x w' => x = .returned (.bool true) ∧ QS w w' P := by
  obtain ⟨i, hi, hsi⟩ := siteP_nat site
  have HSI := hd hsi
  have X := hd hx
  clear hsi hx
  obtain ⟨D, ρ, R, β, tag, h0⟩ := h
  have al : Below wr.heap.size wr (wr.alloc (.cells #[.int .i64 4, .int .i64 site, .int .i64 oa, .int .i64 ob, .int .i64 oc, .slice xa xn xc] 29)) := (Below.refl _ _).alloc (Nat.le_refl _) _
  have H1 := hd (h0.belowP al)
  have LQ : Hid (∀ k, Own (D i) (ρ i) k → ¬ k = wr.heap.size) := fun k hk e => by
    have := (h0.disk i hi).lt k hk
    omega
  have LR : Hid (∀ k, Own (R i) (β i) k → ¬ k = wr.heap.size) := fun k hk e => by
    have := (h0.ref i hi).lt k hk
    omega
  have OB : Hid ((wr.alloc (.cells #[.int .i64 4, .int .i64 site, .int .i64 oa, .int .i64 ob, .int .i64 oc, .slice xa xn xc] 29)).heap[wr.heap.size]? = some (.cells #[.int .i64 4, .int .i64 site, .int .i64 oa, .int .i64 ob, .int .i64 oc, .slice xa xn xc] 29 (0, 0))) := heap_alloc_new _ _
  clear al h0
  have i1 : (i : Int) < 2 := by omega
  have i2 : (0 : Int) ≤ (i : Int) := by omega
  go_enter Try.func19, Try.ntmps19
  go_wp2_with fail
  refine (site_any site _).mono ?_
  rintro e w1 ⟨rfl, rfl⟩
  rw [HSI.out]
  obtain ⟨p0, p1, p2, p3, p4, p5⟩ := op_cells OB.out
  have c0 := H1.out.cellD i hi
  generalize wr.alloc (.cells #[.int .i64 4, .int .i64 site, .int .i64 oa, .int .i64 ob, .int .i64 oc, .slice xa xn xc] 29) = wb at *
  generalize wr.heap.size = Q at *
  go_wp2_with fail
  refine (sync_any (D i) (ρ i) (F i).B (F i).s _ (H1.out.disk i hi)).mono ?_
  rintro e w3 ⟨rfl, hD, hF⟩
  obtain ⟨ρ4, tag4, h4⟩ := H1.out.dstep i hi (Now.of_fr (t := ⟨0, (F i).B, (F i).B.length⟩) hD hF)
  have H4 := hd h4
  have c5 := h4.cellR i hi
  clear hD hF h4 p0 p1 p2 p3 p4 p5 c0
  go_wp2_with fail
  refine (rsync_any (R i) (β i) (F i).B (F i).s _ (H4.out.ref i hi)).mono ?_
  rintro e w6 ⟨rfl, hD, hF⟩
  obtain ⟨β6, tag6, h6⟩ := H4.out.rstep i hi (RNow.of_fr (t := ⟨0, (F i).B, (F i).B.length⟩) hD hF)
  have H6 := hd h6
  clear hD hF h6
  go_wp2
  go_ret
  exact ⟨rfl, _, D, _, R, _, tag6, H6.out⟩

set_option maxRecDepth 100000 in
set_option maxHeartbeats 4000000 in
theorem step_cut (P : Nat) (F : Nat → FS) (site oa ob oc : Int) (xs : List Int) (xa : Option Addr) (xn xc : Nat) (w wr : World) (h : PS w wr P F F) (hx : IsB w xa xn xc xs) (hxn : xn ≤ 140737488351232) :
    Calls Try.prog 19 #[.pointer (some ⟨P, 0, none⟩), .agg #[.int .i64 5, .int .i64 site, .int .i64 oa, .int .i64 ob, .int .i64 oc, .slice xa xn xc]] wr fun x w' => x = .returned (.bool true) ∧ QS w w' P := by
  obtain ⟨i, hi, hsi⟩ := siteP_nat site
  have HSI := hd hsi
  have X := hd hx
  clear hsi hx
  obtain ⟨D, ρ, R, β, tag, h0⟩ := h
  have al : Below wr.heap.size wr (wr.alloc (.cells #[.int .i64 5, .int .i64 site, .int .i64 oa, .int .i64 ob, .int .i64 oc, .slice xa xn xc] 29)) := (Below.refl _ _).alloc (Nat.le_refl _) _
  have H1 := hd (h0.belowP al)
  have LQ : Hid (∀ k, Own (D i) (ρ i) k → ¬ k = wr.heap.size) := fun k hk e => by
    have := (h0.disk i hi).lt k hk
    omega
  have LR : Hid (∀ k, Own (R i) (β i) k → ¬ k = wr.heap.size) := fun k hk e => by
    have := (h0.ref i hi).lt k hk
    omega
  have OB : Hid ((wr.alloc (.cells #[.int .i64 5, .int .i64 site, .int .i64 oa, .int .i64 ob, .int .i64 oc, .slice xa xn xc] 29)).heap[wr.heap.size]? = some (.cells #[.int .i64 5, .int .i64 site, .int .i64 oa, .int .i64 ob, .int .i64 oc, .slice xa xn xc] 29 (0, 0))) := heap_alloc_new _ _
  clear al h0
  have i1 : (i : Int) < 2 := by omega
  have i2 : (0 : Int) ≤ (i : Int) := by omega
  go_enter Try.func19, Try.ntmps19
  go_wp2_with fail
  refine (site_any site _).mono ?_
  rintro e w1 ⟨rfl, rfl⟩
  rw [HSI.out]
  obtain ⟨p0, p1, p2, p3, p4, p5⟩ := op_cells OB.out
  have c0 := H1.out.cellD i hi
  generalize wr.alloc (.cells #[.int .i64 5, .int .i64 site, .int .i64 oa, .int .i64 ob, .int .i64 oc, .slice xa xn xc] 29) = wb at *
  generalize wr.heap.size = Q at *
  have H2 := hd (H1.out.belowP (below_drewN (Below.refl _ _) 1))
  have O2 := hd ((Fr.drewN (fun _ => False) wb 1).keeps OB.out (fun h => h))
  go_wp2_with fail
  go_region_held3 (fun w' => w'.cell? ⟨P, i, none⟩ = some (.pointer (some ⟨D i, 0, none⟩)) ∧ w'.cell? ⟨Q, 2, none⟩ = some (.int .i64 oa)) (first | go_keep | (exact ⟨by assumption, by assumption⟩)) (first | (go_at_call 24; refine (cut_any (D i) (ρ i) (F i).B (F i).s oa _ (H2.out.disk i hi)).mono ?_; rintro e w3 ⟨rfl, hnow⟩; have hF := hnow; obtain ⟨_, _, _, hFF⟩ := hF; obtain ⟨ρ4, tag4, h4⟩ := H2.out.dstep i hi hnow; have H4 := hd h4; have q0 := h4.cellD i hi; have O4 := hd (hFF.keeps O2.out (fun hk => LQ.out _ hk rfl)); obtain ⟨t0, t1, t2, t3, t4, t5⟩ := op_cells O4.out; clear hnow h4 hFF))
  have H5 := hd (H4.out.belowP (below_drewN (Below.refl _ _) 1))
  have O5 := hd ((Fr.drewN (fun _ => False) w3 1).keeps O4.out (fun h => h))
  have c5 := H4.out.cellR i hi
  clear H1 H2 OB O2 p0 p1 p2 p3 p4 p5 c0
  go_wp2_with fail
  go_region_held3 (fun w' => w'.cell? ⟨P, 2 + i, none⟩ = some (.pointer (some ⟨R i, 0, none⟩)) ∧ w'.cell? ⟨Q, 2, none⟩ = some (.int .i64 oa)) (first | go_keep | (exact ⟨by assumption, by assumption⟩)) (first | (go_at_call 13; refine (num_any _ _).mono ?_; rintro e w4 ⟨rfl, rfl⟩) | (go_at_call 32; refine (rcut_any (R i) (β i) (F i).B (F i).s oa _ (H5.out.ref i hi)).mono ?_; rintro e w6 ⟨rfl, hnow⟩; obtain ⟨β6, tag6, h6⟩ := H5.out.rstep i hi hnow; have H6 := hd h6; have r0 := h6.cellR i hi; have hF := hnow; obtain ⟨_, _, _, hFF⟩ := hF; have O6 := hd (hFF.keeps O5.out (fun hk => LR.out _ hk rfl)); obtain ⟨s0, s1, s2, s3, s4, s5⟩ := op_cells O6.out; clear hnow h6 hFF))
  go_wp2
  go_ret
  exact ⟨rfl, _, D, _, R, _, tag6, H6.out⟩

set_option maxRecDepth 100000 in
set_option maxHeartbeats 4000000 in
theorem step_crash (P : Nat) (F : Nat → FS) (site oa ob oc : Int) (xs : List Int) (xa : Option Addr) (xn xc : Nat) (w wr : World) (h : PS w wr P F F) (hx : IsB w xa xn xc xs) (hxn : xn ≤ 140737488351232) :
    Calls Try.prog 19 #[.pointer (some ⟨P, 0, none⟩), .agg #[.int .i64 6, .int .i64 site, .int .i64 oa, .int .i64 ob, .int .i64 oc, .slice xa xn xc]] wr fun x w' => x = .returned (.bool true) ∧ QS w w' P := by
  obtain ⟨i, hi, hsi⟩ := siteP_nat site
  have HSI := hd hsi
  have X := hd hx
  clear hsi hx
  obtain ⟨D, ρ, R, β, tag, h0⟩ := h
  have al : Below wr.heap.size wr (wr.alloc (.cells #[.int .i64 6, .int .i64 site, .int .i64 oa, .int .i64 ob, .int .i64 oc, .slice xa xn xc] 29)) := (Below.refl _ _).alloc (Nat.le_refl _) _
  have H1 := hd (h0.belowP al)
  have LQ : Hid (∀ k, Own (D i) (ρ i) k → ¬ k = wr.heap.size) := fun k hk e => by
    have := (h0.disk i hi).lt k hk
    omega
  have LR : Hid (∀ k, Own (R i) (β i) k → ¬ k = wr.heap.size) := fun k hk e => by
    have := (h0.ref i hi).lt k hk
    omega
  have OB : Hid ((wr.alloc (.cells #[.int .i64 6, .int .i64 site, .int .i64 oa, .int .i64 ob, .int .i64 oc, .slice xa xn xc] 29)).heap[wr.heap.size]? = some (.cells #[.int .i64 6, .int .i64 site, .int .i64 oa, .int .i64 ob, .int .i64 oc, .slice xa xn xc] 29 (0, 0))) := heap_alloc_new _ _
  clear al h0
  have i1 : (i : Int) < 2 := by omega
  have i2 : (0 : Int) ≤ (i : Int) := by omega
  go_enter Try.func19, Try.ntmps19
  go_wp2_with fail
  refine (site_any site _).mono ?_
  rintro e w1 ⟨rfl, rfl⟩
  rw [HSI.out]
  obtain ⟨p0, p1, p2, p3, p4, p5⟩ := op_cells OB.out
  have c0 := H1.out.cellD i hi
  generalize wr.alloc (.cells #[.int .i64 6, .int .i64 site, .int .i64 oa, .int .i64 ob, .int .i64 oc, .slice xa xn xc] 29) = wb at *
  generalize wr.heap.size = Q at *
  have H2 := hd (H1.out.belowP (below_drewN (Below.refl _ _) 1))
  have O2 := hd ((Fr.drewN (fun _ => False) wb 1).keeps OB.out (fun h => h))
  go_wp2_with fail
  go_region_held3 (fun w' => w'.cell? ⟨P, i, none⟩ = some (.pointer (some ⟨D i, 0, none⟩)) ∧ w'.cell? ⟨Q, 2, none⟩ = some (.int .i64 oa) ∧ w'.cell? ⟨Q, 3, none⟩ = some (.int .i64 ob) ∧ w'.cell? ⟨Q, 4, none⟩ = some (.int .i64 oc)) (first | go_keep | (exact ⟨by assumption, by assumption, by assumption, by assumption⟩)) (first | (go_at_call 25; refine (crash_any (D i) (ρ i) (F i).B (F i).s oa ob oc _ (H2.out.disk i hi)).mono ?_; rintro e w3 ⟨rfl, hnow⟩; have hF := hnow; obtain ⟨_, _, _, hFF⟩ := hF; obtain ⟨ρ4, tag4, h4⟩ := H2.out.dstep i hi hnow; have H4 := hd h4; have q0 := h4.cellD i hi; have O4 := hd (hFF.keeps O2.out (fun hk => LQ.out _ hk rfl)); obtain ⟨t0, t1, t2, t3, t4, t5⟩ := op_cells O4.out; clear hnow h4 hFF))
  have H5 := hd (H4.out.belowP (below_drewN (Below.refl _ _) 1))
  have O5 := hd ((Fr.drewN (fun _ => False) w3 1).keeps O4.out (fun h => h))
  have c5 := H4.out.cellR i hi
  clear H1 H2 OB O2 p0 p1 p2 p3 p4 p5 c0
  go_wp2_with fail
  go_region_held3 (fun w' => w'.cell? ⟨P, 2 + i, none⟩ = some (.pointer (some ⟨R i, 0, none⟩)) ∧ w'.cell? ⟨Q, 2, none⟩ = some (.int .i64 oa) ∧ w'.cell? ⟨Q, 3, none⟩ = some (.int .i64 ob) ∧ w'.cell? ⟨Q, 4, none⟩ = some (.int .i64 oc)) (first | go_keep | (exact ⟨by assumption, by assumption, by assumption, by assumption⟩)) (first | (go_at_call 13; refine (num_any _ _).mono ?_; rintro e w4 ⟨rfl, rfl⟩) | (go_at_call 33; refine (rcrash_any (R i) (β i) (F i).B (F i).s oa ob oc _ (H5.out.ref i hi)).mono ?_; rintro e w6 ⟨rfl, hnow⟩; obtain ⟨β6, tag6, h6⟩ := H5.out.rstep i hi hnow; have H6 := hd h6; have r0 := h6.cellR i hi; have hF := hnow; obtain ⟨_, _, _, hFF⟩ := hF; have O6 := hd (hFF.keeps O5.out (fun hk => LR.out _ hk rfl)); obtain ⟨s0, s1, s2, s3, s4, s5⟩ := op_cells O6.out; clear hnow h6 hFF))
  go_wp2
  go_ret
  exact ⟨rfl, _, D, _, R, _, tag6, H6.out⟩

end Go.Proofs.Ytdlelbdhcpjdfab
