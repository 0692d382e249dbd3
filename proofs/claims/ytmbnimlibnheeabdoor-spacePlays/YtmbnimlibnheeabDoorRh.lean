/-
  The document's Cross.
-/
import Derived.Test.YtmbnimlibnheeabDoorRg
import Derived.Deep.DeepCutAuto
namespace Go.Proofs.YtmbnimlibnheeabDoor
open Go.RowKit
set_option linter.unusedVariables false

/-- append of one that crossed. -/
theorem push_far (w : World) (β : Option Nat) (v : Value) (xs : List (Nat × Nat × OpE)) (hv : SF fr 7 w 96 β v xs) (b : Nat) (x : Nat × Nat × OpE) (hb : w.heap[b]? = some (.cells (fr x).toArray 96 (0, 0))) (hn : xs.length ≤ 100000) :
    ∃ v' w', (∀ ty, (Builtin.append_ #[74, 74] ty #[v, .slice (some ⟨b, 0, none⟩) 1 1]).run Tryd.prog w = .ok v' w') ∧ NowF fr 7 w w' 96 β v' (xs ++ [x]) := by
  obtain ⟨i0, hi0, hz0, hz1, hz2⟩ := info_parts Tryd.infoF
  obtain ⟨v', w', hr, hN⟩ := run_pushF sz_fr (P := Tryd.prog) w 74 0 96 i0 _ 56 Tryd.underlying74 hi0 hz0 hz1 rfl hz2 β v xs hv ⟨b, 0, none⟩ 1 1 [x] rfl (fun j u hj => by
    rw [cl_one] at hj
    rw [add_lit, cell_row hb, List.getElem?_toArray, Nat.zero_add]
    exact hj) (by omega) (by omega) (by omega)
  exact ⟨v', w', fun ty => hr, hN⟩

theorem rnow_far {w w' : World} {x : Nat} {r : Rf} {vo vf : Value} {βo βf : Option Nat} {S : Nat → Prop} {v' : Value} {far' : List (Nat × Nat × OpE)} {g' : Nat} (h : RK w x r vo vf βo βf) (hSx : S x) (hSo : ∀ g, βo = some g → S g) (hSf : ∀ g, βf = some g → S g) (hS : ∀ k, S k → k < w.heap.size)
    (h1 : SF fr 7 w' 96 (some g') v' far') (h2 : βf = some g' ∨ w.heap.size ≤ g') (h3 : Fr (fun j => βf = some j) w w') (hok : Rf.ok { r with far := far' }) : RNow w (w'.setCell ⟨x, 2, none⟩ v') x { r with far := far' } S := by
  have hxu : x < w.heap.size := block_lt h.box
  have hxg : g' ≠ x := by
    rintro rfl
    rcases h2 with h2 | h2
    · exact h.f_ne h2
    · omega
  have hx := h3.keeps h.box (fun hb => h.f_ne hb)
  have hF : Fr (· = x) w' (w'.setCell ⟨x, 2, none⟩ v') := Fr.setCell _ _ _ rfl
  have hsz := h3.size
  have hsz3 := hF.size
  refine ⟨fun k => k = x ∨ k = g' ∨ βo = some k, ⟨⟨vo, v', βo, some g', ⟨?_, (h.ro.fr h3 (fun g hg hm => h.of_ne hg hm)).fr hF (fun g hg he => h.o_ne (he ▸ hg)), h1.fr hF (fun g hg => by injection hg with hg; omega)⟩, .inl rfl, fun g hg => .inr (.inr hg), fun g hg => by injection hg with hg; exact .inr (.inl hg.symm), ?_⟩, hok⟩, ?_, ?_⟩
  · have := set_row hx 2 v'
    simpa using this
  · rintro k (rfl | rfl | hk)
    · omega
    · have := h1.lt _ rfl; omega
    · have := hS k (hSo k hk); omega
  · rintro k (rfl | rfl | hk)
    · exact .inl hSx
    · rcases h2 with h2 | h2
      · exact .inl (hSf _ h2)
      · exact .inr (by omega)
    · exact .inl (hSo k hk)
  · exact (h3.mono (S' := S) (fun k _ hk => hSf k hk)).next hF (fun k _ hk => by rw [hk]; exact hSx)

set_option maxRecDepth 100000 in
set_option maxHeartbeats 4000000 in
theorem rcross_bad (x : Nat) (r : Rf) (o : OpE) (S : Nat → Prop) (w : World) (h : RefAt w x r S) (hv : validP o ≠ 0) :
    Calls Tryd.prog 28 #[.pointer (some ⟨x, 0, none⟩), o.val] w fun e w' => e = .returned (.tuple #[.agg #[.int .i64 0, .int .i64 0, .int .u8 0, .int .i64 0, .int .i64 0], .int .i64 (validP o)]) ∧ Below w.heap.size w w' := by
  have C : Hid (∀ U, Below w.heap.size w U → Calls Tryd.prog 31 #[.pointer (some ⟨x, 0, none⟩), o.val] U fun e w' => e = .returned (.tuple #[.agg #[.int .i64 0, .int .i64 0, .int .u8 0, .int .i64 0, .int .i64 0], .int .i64 (validP o)]) ∧ Below U.heap.size U w') := fun U hU => rlook_bad x r o S U (h.below hU) hv
  have hv' : (validP o == 0) = false := by simpa using hv
  generalize validP o = V at *
  obtain ⟨k, ps, c, q, s⟩ := o
  simp only [OpE.val] at C ⊢
  clear h
  go_enter Tryd.func28, Tryd.ntmps28
  go_wp2_with fail
  refine (C.out _ (((Below.refl _ _).alloc (Nat.le_refl _) _).alloc (by simp) _)).mono ?_
  rintro e w1 ⟨rfl, hb⟩
  obtain ⟨hp, hr, hB, hz⟩ := two_of hb
  obtain ⟨⟨r0, r1, r2, r3, r4⟩, ⟨f0, f1, f2, f3, f4⟩⟩ := cells5 hr
  have m1 : w.heap.size + 1 < w1.heap.size := by omega
  have HB := hd hB
  have n1 : ¬ (w1.heap.size = w.heap.size + 1) := by omega
  have n2 : ¬ (w.heap.size + 1 = w1.heap.size) := by omega
  have B5 : Hid (∀ W, Fr (· = w.heap.size + 1) w1 W → Below w.heap.size w (W.alloc (.cells #[.int .i64 0, .int .i64 0, .int .u8 0, .int .i64 0, .int .i64 0] 37))) := fun W h => (hB.trans (h.below hB.size (fun k h => by omega))).alloc (Nat.le_trans hB.size h.size) _
  clear hb hp hr hB hz C HB
  go_wp2
  refine bodyPost_ret (v := .tuple #[.agg #[.int .i64 0, .int .i64 0, .int .u8 0, .int .i64 0, .int .i64 0], .int .i64 V]) (by simp [results, Tryd.results28, go_sem, r0, r1, r2, r3, r4, m1]) rfl ?_
  exact ⟨rfl, B5.out _ (Fr.set5 w1 (w.heap.size + 1) 0 0 0 0 0 0)⟩

set_option maxRecDepth 100000 in
set_option maxHeartbeats 4000000 in
theorem rcross_good (x : Nat) (r : Rf) (o : OpE) (S : Nat → Prop) (w : World) (h : RefAt w x r S) (hl : r.own.length ≤ 10000) (hfl : r.far.length ≤ 10000) (hv : validP o = 0) :
    Calls Tryd.prog 28 #[.pointer (some ⟨x, 0, none⟩), o.val] w fun e w' => e = .returned (.tuple #[(rpast r o).val, .int .i64 0]) ∧ RNow w w' x { r with far := r.far ++ [(r.dr, r.own.length, o)] } S := by
  have C : Hid (∀ U, Below w.heap.size w U → Calls Tryd.prog 31 #[.pointer (some ⟨x, 0, none⟩), o.val] U fun e w' => e = .returned (.tuple #[(rpast r o).val, .int .i64 0]) ∧ Below U.heap.size U w') := fun U hU => rlook_good x r o S U (h.below hU) hl hfl hv
  have HH := hd h
  have HL := hd hfl
  generalize rpast r o = R at *
  obtain ⟨rk, rp, rc, rq, rs⟩ := R
  obtain ⟨k, ps, c, q, s⟩ := o
  simp only [OpE.val] at C ⊢
  clear h hl hfl hv
  go_enter Tryd.func28, Tryd.ntmps28
  go_wp2_with fail
  refine (C.out _ (((Below.refl _ _).alloc (Nat.le_refl _) _).alloc (by simp) _)).mono ?_
  rintro e w1 ⟨rfl, hb⟩
  obtain ⟨hp, hr, hB, hz⟩ := two_of hb
  obtain ⟨U, hU⟩ : ∃ U, U = w1.alloc (.cells #[.int .i64 rk, .int .i64 rp, .int .u8 rc, .int .i64 rq, .int .i64 rs] 37) := ⟨_, rfl⟩
  have b1 : Below w1.heap.size w1 U := by rw [hU]; exact (Below.refl _ _).alloc (Nat.le_refl _) _
  have bU : Below w.heap.size w U := hB.trans (b1.mono hB.size)
  have PU : U.heap[w.heap.size]? = some (.cells #[.int .i64 k, .int .i64 ps, .int .u8 c, .int .i64 q, .int .i64 s] 37 (0, 0)) := (b1.block _ (block_lt hp)).trans hp
  have RU : U.heap[w.heap.size + 1]? = some (.cells #[.int .i64 0, .int .i64 0, .int .u8 0, .int .i64 0, .int .i64 0] 37 (0, 0)) := (b1.block _ (block_lt hr)).trans hr
  obtain ⟨bn, hbn⟩ : ∃ n, n = w1.heap.size := ⟨_, rfl⟩
  have NU : U.heap[bn]? = some (.cells #[.int .i64 rk, .int .i64 rp, .int .u8 rc, .int .i64 rq, .int .i64 rs] 37 (0, 0)) := by rw [hU, hbn]; exact heap_alloc_new w1 _
  have hbnw : w.heap.size + 1 < bn := by rw [hbn]; exact block_lt hr
  obtain ⟨⟨vo, vf, βo, βf, hK, hSx, hSo, hSf, hS⟩, hok⟩ := HH.out
  have K1 := hK.below bU
  have K2 := K1.below (Below.drew (Below.refl U.heap.size U))
  have b4 : Below U.drew.heap.size U.drew (U.drew.alloc (.cells #[.int .i64 (r.dr : Int), .int .i64 (r.own.length : Int), .int .i64 k, .int .i64 ps, .int .u8 c, .int .i64 q, .int .i64 s] 96)) := (Below.refl _ _).alloc (Nat.le_refl _) _
  have K4 := K2.below b4
  obtain ⟨v', wb, hap, hN⟩ := push_far (U.drew.alloc (.cells #[.int .i64 (r.dr : Int), .int .i64 (r.own.length : Int), .int .i64 k, .int .i64 ps, .int .u8 c, .int .i64 q, .int .i64 s] 96)) βf vf r.far K4.rf U.drew.heap.size (r.dr, r.own.length, ⟨k, ps, c, q, s⟩) (heap_alloc_new U.drew _) (by have := HL.out; omega)
  obtain ⟨a', n', c', rfl⟩ := hN.slice
  obtain ⟨g', n1, n2, n3⟩ := hN.out
  have hx5 := n3.keeps K4.box (fun hb => K4.f_ne hb)
  have zz : (U.drew.alloc (.cells #[.int .i64 (r.dr : Int), .int .i64 (r.own.length : Int), .int .i64 k, .int .i64 ps, .int .u8 c, .int .i64 q, .int .i64 s] 96)).heap.size = U.heap.size + 1 := by simp
  have hsz := bU.size
  have hok' : Rf.ok { r with far := r.far ++ [(r.dr, r.own.length, ⟨k, ps, c, q, s⟩)] } := by
    refine ⟨hok.dr, fun e he => ?_⟩
    simp only [List.mem_append, List.mem_singleton] at he
    rcases he with he | rfl
    · exact hok.far e he
    · exact ⟨hok.dr, Nat.le_refl _⟩
  have N := rnow_far (S := S) K4 hSx hSo hSf (fun j hj => by have := hS j hj; omega) n1 (n2.imp id (fun h => by omega)) n3 hok'
  obtain ⟨W, hW⟩ : ∃ W, W = wb.setCell ⟨x, 2, none⟩ (.slice a' n' c') := ⟨_, rfl⟩
  rw [← hW] at N
  obtain ⟨S2, N1, N2, N3⟩ := N
  have FU : Fr S U W := ((Fr.drew _ _).trans (Fr.alloc _ _ _)).trans N3
  have nS : ∀ j, w.heap.size ≤ j → ¬ S j := fun j hj hs => by have := hS j hs; omega
  have RW := FU.keeps RU (nS _ (by omega))
  have NW := FU.keeps NU (nS _ (by omega))
  have Z : Hid (∀ V, Fr (· = w.heap.size + 1) W V → RNow w V x { r with far := r.far ++ [(r.dr, r.own.length, ⟨k, ps, c, q, s⟩)] } S) := by
    intro V hV
    refine ⟨S2, N1.fr hV (fun j hj he => ?_), fun j hj => (N2 j hj).imp id (fun h => by omega), ((Fr.of_below bU).trans FU).next hV (fun j hj he => by omega)⟩
    rcases N2 j hj with h | h
    · exact nS j (by omega) h
    · have := block_lt RU; omega
  have c1 := cell_row K1.box 1
  have c2 := cell_row K1.box 2
  have c3 := cell_row K1.box 3
  have d2 := cell_row hx5 2
  have f2 := frozen_row hx5 2
  simp at c1 c2 c3 d2
  obtain ⟨ao, co, hvo, hco, hco'⟩ := K1.ro.form
  rw [hvo] at c1
  have xl : x < U.heap.size := block_lt K1.box
  obtain ⟨⟨y0, y1, y2, y3, y4⟩, -⟩ := cells5 PU
  have l0 := block_lt PU
  rw [show U.drew.heap.size = U.heap.size from rfl] at hap
  have HU := hd hU
  have HW := hd hW
  have HBN := hd hbn
  have HRW := hd RW
  have HNW := hd NW
  have HN := hd hbnw
  clear hb hp hr hB hz b1 bU PU RU NU hK hSx hSo hSf hS hok K1 K2 b4 K4 hN n1 n2 n3 hx5 zz hsz hok' N1 N2 N3 FU nS RW NW hU hW hbn C hbnw hvo
  go_wp2_with fail
  rw [← HU.out, ← HBN.out]
  go_cut [] (fun wx => wx = W)
  case first =>
    go_region_law (refine step_append_k rfl (.tmp 20) (.tmp 32) 74 74 rfl _ _ (by simp [Act.eval]) (by simp [Act.eval]) (hap _) ?_)
    all_goals
      go_wp2_with fail
      go_meet
      exact HW.out.symm
  case rest =>
    obtain rfl := hcut
    obtain ⟨⟨r0, r1, r2, r3, r4⟩, ⟨g0, g1, g2, g3, g4⟩⟩ := cells5 HRW.out
    obtain ⟨⟨p0, p1, p2, p3, p4⟩, -⟩ := cells5 HNW.out
    have lr := block_lt HRW.out
    have ln := block_lt HNW.out
    have nn : ¬ bn = w.heap.size + 1 := by have := HN.out; omega
    clear hap c1 c2 c3 d2 f2 y0 y1 y2 y3 y4 l0 xl HU HW HBN HRW HNW HN
    go_wp2
    refine bodyPost_ret (v := .tuple #[.agg #[.int .i64 rk, .int .i64 rp, .int .u8 rc, .int .i64 rq, .int .i64 rs], .int .i64 0]) (by simp [results, Tryd.results28, go_sem, r0, r1, r2, r3, r4]) rfl ?_
    exact ⟨rfl, Z.out _ (Fr.set5 wc (w.heap.size + 1) 0 rk rp rc rq rs)⟩

theorem rcross_any (x : Nat) (r : Rf) (o : OpE) (S : Nat → Prop) (w : World) (h : RefAt w x r S) (hl : r.own.length ≤ 10000) (hfl : r.far.length ≤ 10000) :
    Calls Tryd.prog 28 #[.pointer (some ⟨x, 0, none⟩), o.val] w fun e w' => e = .returned (.tuple #[(rlookO r o).val, .int .i64 (validP o)]) ∧ RNow w w' x (rcrossS r o) S := by
  by_cases hv : validP o = 0
  · refine (rcross_good x r o S w h hl hfl hv).mono ?_
    rintro e w' ⟨rfl, hb⟩
    rw [rlookO, if_pos hv, hv, rcrossS, if_pos hv]
    exact ⟨rfl, hb⟩
  · refine (rcross_bad x r o S w h hv).mono ?_
    rintro e w' ⟨rfl, hb⟩
    rw [rlookO, if_neg hv, rcrossS, if_neg hv]
    exact ⟨rfl, RNow.of_below h hb⟩

end Go.Proofs.YtmbnimlibnheeabDoor
