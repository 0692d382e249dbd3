/-
  The document's Keep, DropTo.
-/
import Derived.Test.YtmbnimlibnheeabDoorRa
import Derived.Test.YtmbnimlibnheeabDoorVc
namespace Go.Proofs.YtmbnimlibnheeabDoor
open Go.RowKit
set_option linter.unusedVariables false

/-- append of one that is kept. -/
theorem push_own (w : World) (β : Option Nat) (v : Value) (xs : List (Int × OpE)) (hv : SF mkd 6 w 83 β v xs) (b : Nat) (x : Int × OpE) (hb : w.heap[b]? = some (.cells (mkd x).toArray 83 (0, 0))) (hn : xs.length ≤ 100000) :
    ∃ v' w', (∀ ty, (Builtin.append_ #[73, 73] ty #[v, .slice (some ⟨b, 0, none⟩) 1 1]).run Tryd.prog w = .ok v' w') ∧ NowF mkd 6 w w' 83 β v' (xs ++ [x]) := by
  obtain ⟨i0, hi0, hz0, hz1, hz2⟩ := info_parts Tryd.infoW
  obtain ⟨v', w', hr, hN⟩ := run_pushF sz_mkd (P := Tryd.prog) w 73 0 83 i0 _ 48 Tryd.underlying73 hi0 hz0 hz1 rfl hz2 β v xs hv ⟨b, 0, none⟩ 1 1 [x] rfl (fun j u hj => by
    rw [cl_one] at hj
    rw [add_lit, cell_row hb, List.getElem?_toArray, Nat.zero_add]
    exact hj) (by omega) (by omega) (by omega)
  exact ⟨v', w', fun ty => hr, hN⟩

section
variable {w w' : World} {x : Nat} {r : Rf} {vo vf : Value} {βo βf : Option Nat} {S : Nat → Prop}
theorem rnow_own {v' : Value} {own' : List (Int × OpE)} {g' : Nat} (h : RK w x r vo vf βo βf) (hSx : S x) (hSo : ∀ g, βo = some g → S g) (hSf : ∀ g, βf = some g → S g) (hS : ∀ k, S k → k < w.heap.size)
    (h1 : SF mkd 6 w' 83 (some g') v' own') (h2 : βo = some g' ∨ w.heap.size ≤ g') (h3 : Fr (fun j => βo = some j) w w') (hok : Rf.ok { r with own := own' }) : RNow w (w'.setCell ⟨x, 1, none⟩ v') x { r with own := own' } S := by
  have hxu : x < w.heap.size := block_lt h.box
  have hxg : g' ≠ x := by
    rintro rfl
    rcases h2 with h2 | h2
    · exact h.o_ne h2
    · omega
  have hx := h3.keeps h.box (fun hb => h.o_ne hb)
  have hF : Fr (· = x) w' (w'.setCell ⟨x, 1, none⟩ v') := Fr.setCell _ _ _ rfl
  have hsz := h3.size
  have hsz3 := hF.size
  refine ⟨fun k => k = x ∨ k = g' ∨ βf = some k, ⟨⟨v', vf, some g', βf, ⟨?_, h1.fr hF (fun g hg => by injection hg with hg; omega), (h.rf.fr h3 (fun g hg hm => h.of_ne hm hg)).fr hF (fun g hg he => h.f_ne (he ▸ hg))⟩, .inl rfl, fun g hg => by injection hg with hg; exact .inr (.inl hg.symm), fun g hg => .inr (.inr hg), ?_⟩, hok⟩, ?_, ?_⟩
  · have := set_row hx 1 v'
    simpa using this
  · rintro k (rfl | rfl | hk)
    · omega
    · have := h1.lt _ rfl; omega
    · have := hS k (hSf k hk); omega
  · rintro k (rfl | rfl | hk)
    · exact .inl hSx
    · rcases h2 with h2 | h2
      · exact .inl (hSo _ h2)
      · exact .inr (by omega)
    · exact .inl (hSf k hk)
  · exact (h3.mono (S' := S) (fun k _ hk => hSo k hk)).next hF (fun k _ hk => by rw [hk]; exact hSx)
theorem rnow_dr (h : RefAt w x r S) (d : Nat) (hd' : d ≤ r.own.length) : RefAt (w.setCell ⟨x, 3, none⟩ (.int .i64 d)) x { r with dr := d } S ∧ Fr S w (w.setCell ⟨x, 3, none⟩ (.int .i64 d)) := by
  obtain ⟨⟨vo, vf, βo, βf, h, h1, h2, h3, h4⟩, h5⟩ := h
  have hF : Fr (· = x) w (w.setCell ⟨x, 3, none⟩ (.int .i64 d)) := Fr.setCell _ _ _ rfl
  have hsz := hF.size
  refine ⟨⟨⟨vo, vf, βo, βf, ⟨?_, h.ro.fr hF (fun g hg he => h.o_ne (he ▸ hg)), h.rf.fr hF (fun g hg he => h.f_ne (he ▸ hg))⟩, h1, h2, h3, fun k hk => by have := h4 k hk; omega⟩, ⟨hd', h5.far⟩⟩, hF.mono (fun k _ hk => by rw [hk]; exact h1)⟩
  have := set_row h.box 3 (.int .i64 d)
  simpa using this
end

theorem rkeepS_ok {r : Rf} (h : r.ok) (m : Int) (o : OpE) : Rf.ok { r with own := r.own ++ [(m, o)] } :=
  ⟨by have := h.dr; simp; omega, fun e he => ⟨(h.far e he).1, by have := (h.far e he).2; simp; omega⟩⟩

set_option maxRecDepth 100000 in
set_option maxHeartbeats 4000000 in
theorem rkeep_any (x : Nat) (r : Rf) (m : Int) (o : OpE) (S : Nat → Prop) (w : World) (h : RefAt w x r S) (hl : r.own.length ≤ 10000) :
    Calls Tryd.prog 26 #[.pointer (some ⟨x, 0, none⟩), .int .i64 m, o.val] w fun e w' => e = .returned (.int .i64 (rkeepE r m o)) ∧ RNow w w' x (rkeepS r m o) S := by
  have HH := hd h
  have HL := hd hl
  obtain ⟨E, hE⟩ : ∃ E, rkeepE r m o = E := ⟨_, rfl⟩
  obtain ⟨V, hV⟩ : ∃ V, validP o = V := ⟨_, rfl⟩
  have HE := hd hE
  have HV := hd hV
  obtain ⟨la, hla⟩ : ∃ l, r.last = l := ⟨_, rfl⟩
  have HLA := hd hla
  obtain ⟨k, ps, c, q, s⟩ := o
  simp only [OpE.val]
  rw [hE]
  clear h hl hE hla hV
  by_cases hv : V = 0
  · subst hv
    by_cases hm : m ≤ la ∨ 4096 < m
    · obtain rfl : E = 100 := by
        rw [← HE.out, rkeepE, if_neg (by rw [HV.out]; omega), if_pos (by rw [HLA.out]; exact hm)]
      have Z : Hid (∀ w', Below w.heap.size w w' → RNow w w' x (rkeepS r m ⟨k, ps, c, q, s⟩) S) := fun w' hb => by
        rw [rkeepS, if_neg (by rw [HE.out]; omega)]
        exact RNow.of_below HH.out hb
      have WAYS : Hid ((m ≤ la) ∨ (¬ m ≤ la ∧ 4096 < m)) := by unfold Hid; omega
      clear hm
      rcases WAYS.out with hm1 | ⟨hm1, hm2⟩ <;>
      · go_enter Tryd.func26, Tryd.ntmps26
        go_wp2_with fail
        refine (rvalid_any k ps c q s _).mono ?_
        rintro e w1 ⟨rfl, hb⟩
        have b1 : Below w.heap.size w w1 := ((Below.refl _ _).alloc (Nat.le_refl _) _).trans (hb.mono (by simp))
        have B1 := hd b1
        rw [HV.out]
        clear hb b1
        go_wp2_with fail
        refine (rlast_any x r S w1 (HH.out.below B1.out)).mono ?_
        rintro e w2 ⟨rfl, b2⟩
        rw [HLA.out]
        have B2 := hd (B1.out.trans (b2.mono B1.out.size))
        clear b2
        go_wp2
        go_ret
        exact ⟨rfl, Z.out _ B2.out⟩
    · obtain rfl : E = 0 := by
        rw [← HE.out, rkeepE, if_neg (by rw [HV.out]; omega), if_neg (by rw [HLA.out]; exact hm)]
      have hm1 : ¬ m ≤ la := by omega
      have hm2 : ¬ 4096 < m := by omega
      clear hm
      go_enter Tryd.func26, Tryd.ntmps26
      go_wp2_with fail
      refine (rvalid_any k ps c q s _).mono ?_
      rintro e w1 ⟨rfl, hb⟩
      have b1 : Below w.heap.size w w1 := ((Below.refl _ _).alloc (Nat.le_refl _) _).trans (hb.mono (by simp))
      have X1 : w1.heap[w.heap.size]? = some (.cells #[.int .i64 k, .int .i64 ps, .int .u8 c, .int .i64 q, .int .i64 s] 37 (0, 0)) := (hb.block _ (by simp)).trans (heap_alloc_new w _)
      have B1 := hd b1
      have HX1 := hd X1
      rw [HV.out]
      clear hb b1 X1
      go_wp2_with fail
      refine (rlast_any x r S w1 (HH.out.below B1.out)).mono ?_
      rintro e w2 ⟨rfl, b2⟩
      rw [HLA.out]
      have X2 := (b2.block _ (block_lt HX1.out)).trans HX1.out
      obtain ⟨⟨y0, y1, y2, y3, y4⟩, -⟩ := cells5 X2
      have b02 := B1.out.trans (b2.mono B1.out.size)
      obtain ⟨⟨vo, vf, βo, βf, hK, hSx, hSo, hSf, hS⟩, hok⟩ := HH.out
      have K2 := hK.below b02
      have K3 := K2.below (Below.drew (Below.refl w2.heap.size w2))
      have b4 : Below w2.drew.heap.size w2.drew (w2.drew.alloc (.cells #[.int .i64 m, .int .i64 k, .int .i64 ps, .int .u8 c, .int .i64 q, .int .i64 s] 83)) := (Below.refl _ _).alloc (Nat.le_refl _) _
      have K4 := K3.below b4
      obtain ⟨v', wb, hap, hN⟩ := push_own (w2.drew.alloc (.cells #[.int .i64 m, .int .i64 k, .int .i64 ps, .int .u8 c, .int .i64 q, .int .i64 s] 83)) βo vo r.own K4.ro w2.drew.heap.size (m, ⟨k, ps, c, q, s⟩) (heap_alloc_new w2.drew _) (by have := HL.out; omega)
      obtain ⟨a', n', c', rfl⟩ := hN.slice
      obtain ⟨g', n1, n2, n3⟩ := hN.out
      have hx5 := n3.keeps K4.box (fun hb => K4.o_ne hb)
      have hxl : x < w2.heap.size := block_lt K2.box
      have zz : (w2.drew.alloc (.cells #[.int .i64 m, .int .i64 k, .int .i64 ps, .int .u8 c, .int .i64 q, .int .i64 s] 83)).heap.size = w2.heap.size + 1 := by simp
      have hsz := b02.size
      have N := rnow_own (S := S) K4 hSx hSo hSf (fun j hj => by have := hS j hj; omega) n1 (n2.imp id (fun h => by omega)) n3 (rkeepS_ok hok m ⟨k, ps, c, q, s⟩)
      have Z : Hid (RNow w (wb.setCell ⟨x, 1, none⟩ (.slice a' n' c')) x (rkeepS r m ⟨k, ps, c, q, s⟩) S) := by
        rw [rkeepS, if_pos HE.out]
        obtain ⟨S2, h1, h2, h3⟩ := N
        exact ⟨S2, h1, fun j hj => (h2 j hj).imp id (fun h => by omega), ((Fr.of_below b02).trans ((Fr.drew _ _).trans (Fr.alloc _ _ _))).trans h3⟩
      have c1 := cell_row K2.box 1
      have d1 := cell_row hx5 1
      have f1 := frozen_row hx5 1
      simp at c1 d1
      rw [show w2.drew.heap.size = w2.heap.size from rfl] at hap
      clear b2 X2 b02 hK hSx hSo hSf hS hok K2 K3 b4 K4 hN n1 n2 n3 hx5 zz hsz N B1 HX1
      go_wp2_with fail
      go_region_law (refine step_append_k rfl (.tmp 25) (.tmp 29) 73 73 rfl _ _ (by simp [Act.eval]) (by simp [Act.eval]) (hap _) ?_)
      all_goals go_wp2
      all_goals go_ret
      all_goals exact ⟨rfl, Z.out⟩
  · obtain rfl : E = V := by
      rw [← HE.out, rkeepE, if_pos (by rw [HV.out]; exact hv), HV.out]
    have hv' : (E == 0) = false := by simpa using hv
    have Z : Hid (∀ w', Below w.heap.size w w' → RNow w w' x (rkeepS r m ⟨k, ps, c, q, s⟩) S) := fun w' hb => by
      rw [rkeepS, if_neg (by rw [HE.out]; exact hv)]
      exact RNow.of_below HH.out hb
    go_enter Tryd.func26, Tryd.ntmps26
    go_wp2_with fail
    refine (rvalid_any k ps c q s _).mono ?_
    rintro e w1 ⟨rfl, hb⟩
    have B1 : Hid (Below w.heap.size w w1) := ((Below.refl _ _).alloc (Nat.le_refl _) _).trans (hb.mono (by simp))
    rw [HV.out]
    clear hb
    go_wp2
    go_ret
    exact ⟨rfl, Z.out _ B1.out⟩

end Go.Proofs.YtmbnimlibnheeabDoor
