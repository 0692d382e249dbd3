/-
  asked.
-/
import Derived.Test.YtdlelbdhcpjdfabPs
namespace Go.Proofs.Ytdlelbdhcpjdfab
open Go.RowKit
set_option linter.unusedVariables false

theorem siteP_nat (n : Int) : ∃ i : Nat, i < 2 ∧ siteP n = (i : Int) := by
  rcases siteP_or n with h | h
  · exact ⟨0, by omega, h⟩
  · exact ⟨1, by omega, h⟩

theorem op_cells {w : World} {P : Nat} {v0 v1 v2 v3 v4 v5 : Value} (h : w.heap[P]? = some (.cells #[v0, v1, v2, v3, v4, v5] 29 (0, 0))) :
    w.cell? ⟨P, 0, none⟩ = some v0 ∧ w.cell? ⟨P, 1, none⟩ = some v1 ∧ w.cell? ⟨P, 2, none⟩ = some v2 ∧ w.cell? ⟨P, 3, none⟩ = some v3 ∧ w.cell? ⟨P, 4, none⟩ = some v4 ∧ w.cell? ⟨P, 5, none⟩ = some v5 := by
  refine ⟨?_, ?_, ?_, ?_, ?_, ?_⟩ <;> (rw [cell_row h]; rfl)

theorem rowB_isB {w : World} {g n : Nat} {ys : List Int} (h : RowB w g n n ys) (hn : n ≤ 9223372036854775807) : IsB w (some ⟨g, 0, none⟩) n n ys := by
  have := h.isB 0 n n (by omega) (Nat.le_refl _) hn
  have hl : ys.length = n := by
    obtain ⟨_, _, _, h, _⟩ := h
    exact h
  rw [List.drop_zero, List.take_of_length_le (by omega)] at this
  exact this

/-- The two sides stand alike. -/
def QS (w wr : World) (P : Nat) : Prop := ∃ F, PS w wr P F F

set_option maxRecDepth 100000 in
set_option maxHeartbeats 4000000 in
theorem asked_any (P : Nat) (F : Nat → FS) (kind site oa ob oc : Int) (xa : Option Addr) (xn xc : Nat) (w wr : World) (h : PS w wr P F F) :
    Calls Try.prog 20 #[.pointer (some ⟨P, 0, none⟩), .agg #[.int .i64 kind, .int .i64 site, .int .i64 oa, .int .i64 ob, .int .i64 oc, .slice xa xn xc]] wr fun x w' => x = .returned (.bool true) ∧ PS w w' P F F := by
  obtain ⟨i, hi, hsi⟩ := siteP_nat site
  have HSI := hd hsi
  clear hsi
  obtain ⟨D, ρ, R, β, tag, h0⟩ := h
  have al : Below wr.heap.size wr (wr.alloc (.cells #[.int .i64 kind, .int .i64 site, .int .i64 oa, .int .i64 ob, .int .i64 oc, .slice xa xn xc] 29)) := (Below.refl _ _).alloc (Nat.le_refl _) _
  have H1 := hd (h0.belowP al)
  clear al h0
  have i1 : (i : Int) < 2 := by omega
  have i2 : (0 : Int) ≤ (i : Int) := by omega
  by_cases k7 : kind = 7
  · subst k7
    go_enter Try.func20, Try.ntmps20
    go_wp2_with fail
    refine (site_any site _).mono ?_
    rintro e w1 ⟨rfl, rfl⟩
    rw [HSI.out]
    have cD := H1.out.cellD i hi
    have cR := H1.out.cellR i hi
    have H2 := hd (H1.out.belowP (below_drewN (Below.refl _ _) 1))
    obtain ⟨p0, p1, p2, p3, p4, p5⟩ := op_cells (heap_alloc_new wr (.cells #[.int .i64 7, .int .i64 site, .int .i64 oa, .int .i64 ob, .int .i64 oc, .slice xa xn xc] 29))
    clear H1
    generalize wr.alloc (.cells #[.int .i64 7, .int .i64 site, .int .i64 oa, .int .i64 ob, .int .i64 oc, .slice xa xn xc] 29) = wb at *
    go_wp2_with fail
    go_region_held3 (fun w' => w'.cell? ⟨P, i, none⟩ = some (.pointer (some ⟨D i, 0, none⟩)) ∧ w'.cell? ⟨P, 2 + i, none⟩ = some (.pointer (some ⟨R i, 0, none⟩))) (first | go_keep | (exact ⟨by assumption, by assumption⟩)) (first | (go_at_call 16; refine (size_any (D i) (ρ i) (F i).B (F i).s _ (H2.out.disk i hi)).mono ?_; rintro e w2 ⟨rfl, rfl⟩) | (go_at_call 34; refine (rsize_any (R i) (β i) (F i).B (F i).s _ (H2.out.ref i hi)).mono ?_; rintro e w2 ⟨rfl, rfl⟩))
    all_goals (
      go_wp2
      go_ret
      exact ⟨rfl, D, ρ, R, β, tag, H2.out⟩)
  · by_cases k8 : kind = 8
    · subst k8
      go_enter Try.func20, Try.ntmps20
      go_wp2_with fail
      refine (site_any site _).mono ?_
      rintro e w1 ⟨rfl, rfl⟩
      rw [HSI.out]
      have cD := H1.out.cellD i hi
      have cR := H1.out.cellR i hi
      have H2 := hd (H1.out.belowP (below_drewN (Below.refl _ _) 1))
      obtain ⟨p0, p1, p2, p3, p4, p5⟩ := op_cells (heap_alloc_new wr (.cells #[.int .i64 8, .int .i64 site, .int .i64 oa, .int .i64 ob, .int .i64 oc, .slice xa xn xc] 29))
      clear H1
      generalize wr.alloc (.cells #[.int .i64 8, .int .i64 site, .int .i64 oa, .int .i64 ob, .int .i64 oc, .slice xa xn xc] 29) = wb at *
      go_wp2_with fail
      go_region_held3 (fun w' => w'.cell? ⟨P, i, none⟩ = some (.pointer (some ⟨D i, 0, none⟩)) ∧ w'.cell? ⟨P, 2 + i, none⟩ = some (.pointer (some ⟨R i, 0, none⟩))) (first | go_keep | (exact ⟨by assumption, by assumption⟩)) (first | (go_at_call 11; refine (synced_any (D i) (ρ i) (F i).B (F i).s _ (H2.out.disk i hi)).mono ?_; rintro e w2 ⟨rfl, rfl⟩) | (go_at_call 35; refine (rsynced_any (R i) (β i) (F i).B (F i).s _ (H2.out.ref i hi)).mono ?_; rintro e w2 ⟨rfl, rfl⟩))
      all_goals (
        go_wp2
        go_ret
        exact ⟨rfl, D, ρ, R, β, tag, H2.out⟩)
    · go_enter Try.func20, Try.ntmps20
      go_wp2_with fail
      refine (site_any site _).mono ?_
      rintro e w1 ⟨rfl, rfl⟩
      rw [HSI.out]
      have cD := H1.out.cellD i hi
      have cR := H1.out.cellR i hi
      have H2 := hd (H1.out.belowP (below_drewN (Below.refl _ _) 1))
      obtain ⟨p0, p1, p2, p3, p4, p5⟩ := op_cells (heap_alloc_new wr (.cells #[.int .i64 kind, .int .i64 site, .int .i64 oa, .int .i64 ob, .int .i64 oc, .slice xa xn xc] 29))
      clear H1
      generalize wr.alloc (.cells #[.int .i64 kind, .int .i64 site, .int .i64 oa, .int .i64 ob, .int .i64 oc, .slice xa xn xc] 29) = wb at *
      go_wp2_with fail
      go_region_held3 (fun w' => w'.cell? ⟨P, i, none⟩ = some (.pointer (some ⟨D i, 0, none⟩)) ∧ w'.cell? ⟨P, 2 + i, none⟩ = some (.pointer (some ⟨R i, 0, none⟩))) (first | go_keep | (exact ⟨by assumption, by assumption⟩)) (first | (go_at_call 10; refine (bytes_any (D i) (ρ i) (F i).B (F i).s _ (H2.out.disk i hi)).mono ?_; rintro e w2 ⟨v2, rfl, hN, hb2⟩; obtain ⟨g2, rfl, -, hG⟩ := hN.isB (by have := (H2.out.disk i hi).size_le; omega); have HG2 := hd hG; have H3 := hd (H2.out.belowP hb2); have q0 := H3.out.cellD i hi; have q1 := H3.out.cellR i hi; clear hN hG hb2) | (go_at_call 36; refine (rbytes_any (R i) (β i) (F i).B (F i).s _ (H3.out.ref i hi)).mono ?_; rintro e w3 ⟨g3, rfl, -, hRow, hb3⟩; have HG3 := hd (rowB_isB hRow (by have := (H2.out.disk i hi).size_le; omega)); have HG23 := hd (HG2.out.below hb3); have H4 := hd (H3.out.belowP hb3); have q2 := H4.out.cellD i hi; have q3 := H4.out.cellR i hi; clear hRow hb3) | (go_at_call 9; refine (same_true _ _ (F i).B.length _ _ (F i).B _ HG23.out HG3.out).mono ?_; rintro e w4 ⟨rfl, m4, rfl⟩; have H5 := hd (H4.out.belowP (below_drewN (Below.refl _ _) m4)); have q4 := H5.out.cellD i hi; have q5 := H5.out.cellR i hi))
      all_goals (
        go_wp2
        go_ret
        exact ⟨rfl, D, ρ, R, β, tag, H5.out⟩)

end Go.Proofs.Ytdlelbdhcpjdfab
