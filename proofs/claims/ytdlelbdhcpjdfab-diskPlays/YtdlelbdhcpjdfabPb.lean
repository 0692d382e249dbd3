/-
  renewed.
-/
import Derived.Test.YtdlelbdhcpjdfabPa
namespace Go.Proofs.Ytdlelbdhcpjdfab
open Go.RowKit
set_option linter.unusedVariables false

theorem fresh_own {w : World} {r : Nat} {ρ : Option Nat} (h : ∀ k, Own r ρ k → w.heap.size ≤ k) (k : Nat) (hk : k < w.heap.size) : ¬ Own r ρ k := fun e => by
  have := h k e
  omega

theorem own_none {n r : Nat} (h : n ≤ r) : ∀ k, Own r none k → n ≤ k := by
  rintro k (rfl | e)
  · exact h
  · cases e

theorem PSt.dfresh {w w0 w1 : World} {P : Nat} {D : Nat → Nat} {ρ : Nat → Option Nat} {FD : Nat → FS} {R : Nat → Nat} {β : Nat → Option Nat} {FR : Nat → FS} {tag : Nat → Nat} (h : PSt w w0 P D ρ FD R β FR tag) (hb : Below w0.heap.size w0 w1) (i : Nat) (hi : i < 2) {r : Nat} {ρ1 : Option Nat} {f : FS} (hDK : DK w1 r ρ1 f.B f.s)
    (hn : ∀ k, Own r ρ1 k → w0.heap.size ≤ k) : ∃ tag', PSt w (w1.setCell ⟨P, i, none⟩ (.pointer (some ⟨r, 0, none⟩))) P (upd D i r) (upd ρ i ρ1) (upd FD i f) R β FR tag' :=
  (h.belowP hb).dnew i hi hDK (fun j k hj hk => fresh_own hn k ((h.disk j hj).lt k hk)) (fun j k hj hk => fresh_own hn k ((h.ref j hj).lt k hk)) (fresh_own hn P (block_lt h.cells)) (fun k hk => Nat.le_trans h.below.size (hn k hk))

theorem PSt.rfresh {w w0 w1 : World} {P : Nat} {D : Nat → Nat} {ρ : Nat → Option Nat} {FD : Nat → FS} {R : Nat → Nat} {β : Nat → Option Nat} {FR : Nat → FS} {tag : Nat → Nat} (h : PSt w w0 P D ρ FD R β FR tag) (hb : Below w0.heap.size w0 w1) (i : Nat) (hi : i < 2) {r : Nat} {ρ1 : Option Nat} {f : FS} (hRK : RK w1 r ρ1 f.B f.s)
    (hn : ∀ k, Own r ρ1 k → w0.heap.size ≤ k) : ∃ tag', PSt w (w1.setCell ⟨P, 2 + i, none⟩ (.pointer (some ⟨r, 0, none⟩))) P D ρ FD (upd R i r) (upd β i ρ1) (upd FR i f) tag' :=
  (h.belowP hb).rnew i hi hRK (fun j k hj hk => fresh_own hn k ((h.disk j hj).lt k hk)) (fun j k hj hk => fresh_own hn k ((h.ref j hj).lt k hk)) (fresh_own hn P (block_lt h.cells)) (fun k hk => Nat.le_trans h.below.size (hn k hk))

set_option maxRecDepth 100000 in
set_option maxHeartbeats 4000000 in
theorem renewed_new (P : Nat) (F : Nat → FS) (site oa ob oc : Int) (xa : Option Addr) (xn xc : Nat) (w wr : World) (h : PS w wr P F F) :
    Calls Try.prog 29 #[.pointer (some ⟨P, 0, none⟩), .agg #[.int .i64 1, .int .i64 site, .int .i64 oa, .int .i64 ob, .int .i64 oc, .slice xa xn xc]] wr fun x w' => x = .returned (.bool true) ∧ QS w w' P := by
    obtain ⟨i, hi, hsi⟩ := siteP_nat site
    have HSI := hd hsi
    clear hsi
    obtain ⟨D, ρ, R, β, tag, h0⟩ := h
    have al : Below wr.heap.size wr (wr.alloc (.cells #[.int .i64 1, .int .i64 site, .int .i64 oa, .int .i64 ob, .int .i64 oc, .slice xa xn xc] 29)) := (Below.refl _ _).alloc (Nat.le_refl _) _
    have H1 := hd (h0.belowP al)
    clear al h0
    have i1 : (i : Int) < 2 := by omega
    have i2 : (0 : Int) ≤ (i : Int) := by omega
    go_enter Try.func29, Try.ntmps29
    go_wp2_with fail
    refine (site_any site _).mono ?_
    rintro e w1 ⟨rfl, rfl⟩
    rw [HSI.out]
    have OB : Hid ((wr.alloc (.cells #[.int .i64 1, .int .i64 site, .int .i64 oa, .int .i64 ob, .int .i64 oc, .slice xa xn xc] 29)).heap[wr.heap.size]? = some (.cells #[.int .i64 1, .int .i64 site, .int .i64 oa, .int .i64 ob, .int .i64 oc, .slice xa xn xc] 29 (0, 0))) := heap_alloc_new _ _
    obtain ⟨p0, p1, p2, p3, p4, p5⟩ := op_cells OB.out
    generalize wr.alloc (.cells #[.int .i64 1, .int .i64 site, .int .i64 oa, .int .i64 ob, .int .i64 oc, .slice xa xn xc] 29) = wb at *
    generalize wr.heap.size = Q at *
    have H2 := hd (H1.out.belowP (below_drewN (Below.refl _ _) 1))
    clear H1 OB
    go_wp2_with fail
    go_region_held3 (fun _ => True) (trivial) (first | (go_at_call 21; refine (new_any _).mono ?_; rintro e w2 ⟨r2, rfl, hr2, hD2, hb2⟩; have H3 := hd (H2.out.belowP hb2); have q0 := H3.out.cellD i hi; have f0 := H3.out.frozen i; have Z3 := hd (H2.out.dfresh hb2 i hi (f := ⟨[], 0⟩) hD2 (own_none hr2)); clear hr2 hD2 hb2))
    obtain ⟨tag3, h3⟩ := Z3.out
    have H4 := hd (h3.belowP (below_drewN (Below.refl _ _) 1))
    have cD4 := h3.cellD i hi
    rw [upd_same] at cD4
    clear Z3 h3 H2 H3 q0 f0
    generalize w2.setCell ⟨P, i, none⟩ (.pointer (some ⟨r2, 0, none⟩)) = w3 at *
    go_wp2_with fail
    go_region_held3 (fun _ => True) (trivial) (first | (go_at_call 28; refine (rnew_any _).mono ?_; rintro e w4 ⟨r4, rfl, hr4, hD4, hb4⟩; have H5 := hd (H4.out.belowP hb4); have q0 := H5.out.cellR i hi; have f0 := H5.out.frozen (2 + i); have Z5 := hd (H4.out.rfresh hb4 i hi (f := ⟨[], 0⟩) hD4 (own_none hr4)); clear hr4 hD4 hb4))
    obtain ⟨tag6, h6⟩ := Z5.out
    have H6 := hd h6
    have cD6 := h6.cellD i hi
    rw [upd_same] at cD6
    clear Z5 h6 H4 H5 q0 f0 cD4
    generalize w4.setCell ⟨P, 2 + i, none⟩ (.pointer (some ⟨r4, 0, none⟩)) = w6 at *
    go_wp2
    go_ret
    exact ⟨rfl, _, _, _, _, _, tag6, H6.out⟩

set_option maxRecDepth 100000 in
set_option maxHeartbeats 4000000 in
theorem renewed_from (P : Nat) (F : Nat → FS) (kind site oa ob oc : Int) (xs : List Int) (xa : Option Addr) (xn xc : Nat) (w wr : World) (h : PS w wr P F F) (k1 : ¬ kind = 1) (hx : IsB wr xa xn xc xs) (hxn : xn ≤ 140737488351232) :
    Calls Try.prog 29 #[.pointer (some ⟨P, 0, none⟩), .agg #[.int .i64 kind, .int .i64 site, .int .i64 oa, .int .i64 ob, .int .i64 oc, .slice xa xn xc]] wr fun x w' => x = .returned (.bool true) ∧ QS w w' P := by
    obtain ⟨i, hi, hsi⟩ := siteP_nat site
    have HSI := hd hsi
    clear hsi
    have hxl := hx.1
    obtain ⟨D, ρ, R, β, tag, h0⟩ := h
    have al : Below wr.heap.size wr (wr.alloc (.cells #[.int .i64 kind, .int .i64 site, .int .i64 oa, .int .i64 ob, .int .i64 oc, .slice xa xn xc] 29)) := (Below.refl _ _).alloc (Nat.le_refl _) _
    have H1 := hd (h0.belowP al)
    have X1 := hd (hx.below al)
    clear al h0 hx
    have i1 : (i : Int) < 2 := by omega
    have i2 : (0 : Int) ≤ (i : Int) := by omega
    go_enter Try.func29, Try.ntmps29
    go_wp2_with fail
    refine (site_any site _).mono ?_
    rintro e w1 ⟨rfl, rfl⟩
    rw [HSI.out]
    have OB : Hid ((wr.alloc (.cells #[.int .i64 kind, .int .i64 site, .int .i64 oa, .int .i64 ob, .int .i64 oc, .slice xa xn xc] 29)).heap[wr.heap.size]? = some (.cells #[.int .i64 kind, .int .i64 site, .int .i64 oa, .int .i64 ob, .int .i64 oc, .slice xa xn xc] 29 (0, 0))) := heap_alloc_new _ _
    obtain ⟨p0, p1, p2, p3, p4, p5⟩ := op_cells OB.out
    generalize wr.alloc (.cells #[.int .i64 kind, .int .i64 site, .int .i64 oa, .int .i64 ob, .int .i64 oc, .slice xa xn xc] 29) = wb at *
    generalize wr.heap.size = Q at *
    go_wp2_with fail
    refine (copied_any xa xn xc xs _ X1.out (by omega)).mono ?_
    rintro e w2 ⟨v, rfl, hN, hb2⟩
    obtain ⟨g2, rfl, -, hG⟩ := hN.isB (by omega)
    have HG := hd hG
    have H2 := hd (H1.out.belowP hb2)
    have X2 := hd (X1.out.below hb2)
    have O2 := hd ((Fr.of_below hb2 : Fr (fun _ => False) _ _).keeps OB.out (fun h => h))
    clear hN hG hb2 H1 X1 OB p0 p1 p2 p3 p4 p5
    by_cases hle : xn ≤ 262144
    · go_wp2_with fail
      refine (from_good _ xn xn xs _ HG.out hle).mono ?_
      rintro e w3 ⟨r3, ρ3, rfl, hD3, hb3⟩
      have D3 := hd hD3
      have H3 := hd (H2.out.belowP hb3)
      have X3 := hd (X2.out.below hb3)
      have O3 := hd ((Fr.of_below hb3 : Fr (fun _ => False) _ _).keeps O2.out (fun h => h))
      have S23 := hd hb3.size
      have B23 := hd hb3
      obtain ⟨p0, p1, p2, p3, p4, p5⟩ := op_cells O3.out
      clear hD3 hb3 HG X2 O2
      go_wp2_with fail
      refine (rfrom_good xa xn xc xs _ X3.out hle).mono ?_
      rintro e w4 ⟨r4, g4, rfl, hR4, hr4, hg4, hb4⟩
      have D4 := hd (D3.out.1.below hb4)
      have R4 := hd hR4
      have B24 := hd (B23.out.trans (hb4.mono S23.out))
      have HO : Hid (∀ k, Own r4 (some g4) k → w3.heap.size ≤ k) := by
        rintro k (rfl | e)
        · exact hr4
        · obtain rfl := Option.some.inj e
          exact hg4
      obtain ⟨tag5, h5⟩ := H2.out.dfresh B24.out i hi (f := ⟨xs, xn⟩) D4.out D3.out.2
      have H4 := hd (H3.out.belowP hb4)
      have q0 := H4.out.cellD i hi
      have f0 := H4.out.frozen i
      have lt3 : Hid (∀ j k, j < 2 → Own (upd D i r3 j) (upd ρ i ρ3 j) k → k < w3.heap.size) := by
        intro j k hj hk
        by_cases e : j = i
        · subst e
          rw [upd_same, upd_same] at hk
          exact D3.out.1.lt k hk
        · rw [upd_other _ _ _ _ e, upd_other _ _ _ _ e] at hk
          exact (H3.out.disk j hj).lt k hk
      have ltP : Hid (P < w3.heap.size) := block_lt H3.out.cells
      have R5 : Hid (RK (w4.setCell ⟨P, i, none⟩ (.pointer (some ⟨r3, 0, none⟩))) r4 (some g4) xs xn) := R4.out.fr (Fr.setCell (S := (· = P)) w4 ⟨P, i, none⟩ _ rfl) (fun k hk e => by
        have h1 := HO.out k hk
        have h2 := ltP.out
        rw [e] at h1
        omega)
      have Z6 := hd (h5.rnew i hi (f := ⟨xs, xn⟩) R5.out (fun j k hj hk => fresh_own HO.out k (lt3.out j k hj hk)) (fun j k hj hk => fresh_own HO.out k ((H3.out.ref j hj).lt k hk)) (fresh_own HO.out P ltP.out) (fun k hk => Nat.le_trans H3.out.below.size (HO.out k hk)))
      have q1 := h5.cellR i hi
      have f1 := h5.frozen (2 + i)
      clear hR4 hr4 hg4 p0 p1 p2 p3 p4 p5 hb4 h5 H4 H3 H2 R4 R5 lt3 D4 B24 HO X3 O3
      go_wp2_with fail
      refine (num_any _ _).mono ?_
      rintro e w5 ⟨rfl, rfl⟩
      obtain ⟨tag6, h6⟩ := Z6.out
      have H6 := hd h6
      clear h6 Z6
      go_wp2
      go_ret
      exact ⟨rfl, _, _, _, _, _, tag6, H6.out⟩
    · go_wp2_with fail
      refine (from_bad _ xn xn xs _ HG.out (by omega)).mono ?_
      rintro e w3 ⟨rfl, hb3⟩
      have H3 := hd (H2.out.belowP hb3)
      have O3 := hd ((Fr.of_below hb3 : Fr (fun _ => False) _ _).keeps O2.out (fun h => h))
      obtain ⟨p0, p1, p2, p3, p4, p5⟩ := op_cells O3.out
      clear hb3 HG X2 O2 H2
      go_wp2_with fail
      refine (rfrom_bad xa xn xc _ (by omega)).mono ?_
      rintro e w4 ⟨rfl, rfl⟩
      go_wp2_with fail
      refine (num_any _ _).mono ?_
      rintro e w5 ⟨rfl, rfl⟩
      go_wp2
      go_ret
      exact ⟨rfl, _, D, ρ, R, β, tag, H3.out⟩

theorem renewed_any (P : Nat) (F : Nat → FS) (kind site oa ob oc : Int) (xs : List Int) (xa : Option Addr) (xn xc : Nat) (w wr : World) (h : PS w wr P F F) (hx : IsB wr xa xn xc xs) (hxn : xn ≤ 140737488351232) :
    Calls Try.prog 29 #[.pointer (some ⟨P, 0, none⟩), .agg #[.int .i64 kind, .int .i64 site, .int .i64 oa, .int .i64 ob, .int .i64 oc, .slice xa xn xc]] wr fun x w' => x = .returned (.bool true) ∧ QS w w' P := by
  by_cases k1 : kind = 1
  · subst k1
    exact renewed_new P F site oa ob oc xa xn xc w wr h
  · exact renewed_from P F kind site oa ob oc xs xa xn xc w wr h k1 hx hxn

end Go.Proofs.Ytdlelbdhcpjdfab
