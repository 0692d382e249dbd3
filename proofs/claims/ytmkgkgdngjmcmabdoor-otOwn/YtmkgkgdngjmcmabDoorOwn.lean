/-
  OtOwn: the walk.
-/
import Derived.Test.YtmkgkgdngjmcmabDoorOn
import Derived.Deep.DeepCutAuto
namespace Go.Proofs.YtmkgkgdngjmcmabDoor
open Go.RowKit Go.Lib
set_option linter.unusedVariables false

set_option maxRecDepth 100000 in
set_option maxHeartbeats 8000000 in
theorem own_of (k p ch cl sq : Int) (a b : Option Addr) (n c m d : Nat) (A B : List OpE) (W : World) (hT : Table W) (hA : IsO W a n c A) (hB : IsO W b m d B) (hn : n ≤ 4096) (hm : m ≤ 4096) :
    Calls Tryd.prog 3 #[.agg #[.int .i64 k, .int .i64 p, .int .u8 ch, .int .i64 cl, .int .i64 sq], .slice a n c, .slice b m d] W fun e w' => e = .returned (.bool true) ∧ Below W.heap.size W w' := by
  have i1 : ¬ (n : Int) > 4096 := by omega
  have i2 : ¬ (m : Int) > 4096 := by omega
  have HT := hd hT
  have HA := hd hA
  have HB := hd hB
  have LA : Hid (A.length = n) := hA.1
  have LB : Hid (B.length = m) := hB.1
  clear hT hA hB
  go_enter Tryd.func3, Tryd.ntmps3
  go_wp2_with fail
  clear i1 i2
  have bz : Below W.heap.size W ((W.alloc (.cells #[.int .i64 k, .int .i64 p, .int .u8 ch, .int .i64 cl, .int .i64 sq] 23)).alloc (.cells #[.int .i64 1, .int .i64 9, .int .u8 115, .int .i64 9, .int .i64 9] 23)) := ((Below.refl _ _).alloc (Nat.le_refl _) _).alloc (by rw [World.size_alloc]; omega) _
  have f0 : ((W.alloc (.cells #[.int .i64 k, .int .i64 p, .int .u8 ch, .int .i64 cl, .int .i64 sq] 23)).alloc (.cells #[.int .i64 1, .int .i64 9, .int .u8 115, .int .i64 9, .int .i64 9] 23)).heap[W.heap.size]? = some (.cells (opc ⟨k, p, ch, cl, sq⟩).toArray 23 (0, 0)) := (heap_alloc_old _ _ (by rw [World.size_alloc]; omega)).trans (heap_alloc_new W _)
  have f1 : AtS ((W.alloc (.cells #[.int .i64 k, .int .i64 p, .int .u8 ch, .int .i64 cl, .int .i64 sq] 23)).alloc (.cells #[.int .i64 1, .int .i64 9, .int .u8 115, .int .i64 9, .int .i64 9] 23)) (W.heap.size + 1) := AtS.new2 W _
  generalize (W.alloc (.cells #[.int .i64 k, .int .i64 p, .int .u8 ch, .int .i64 cl, .int .i64 sq] 23)).alloc (.cells #[.int .i64 1, .int .i64 9, .int .u8 115, .int .i64 9, .int .i64 9] 23) = w0 at *
  generalize W.heap.size + 1 = sb at *
  obtain ⟨ob, hob⟩ : ∃ ob, W.heap.size = ob := ⟨_, rfl⟩
  rw [hob] at f0
  simp only [hob]
  have HW := hd bz
  have FO := hd f0
  have FS := hd f1
  replace HT := hd (HT.out.below bz HT.out.1)
  replace HA := hd (HA.out.below bz)
  replace HB := hd (HB.out.below bz)
  clear bz f0 f1
  refine own_region4 _ w0 a b n c m d sb A B rfl rfl rfl (by simp) HA.out HB.out hn hm FS.out ?_
  intro v43 v44 v45 v46 v47 v48 v49 v50 v51 v52 g1 c1 g2 c2 w1 hG
  have H1 : Hid (St w0 w1 [(g2, m + 1, c2, B ++ [spare]), (g1, n + 1, c1, A ++ [spare])]) := ⟨hG.out.1, hG.out.2⟩
  clear hG
  have hc1 : n + 1 ≤ c1 := (H1.out.isO (.tail _ (.head _))).2.1
  have hc2 : m + 1 ≤ c2 := (H1.out.isO (.head _)).2.1
  rename_i K0 hK0
  refine hK0 _ _ ?_
  simp only [puts, List.foldl_cons, List.foldl_nil, Act.put, List.setIfInBounds_toArray, List.set_cons_succ, List.set_cons_zero]
  clear hK0
  go_wp2_with fail
  go_quiet (fail)
  have H2 : Hid (St w0 (w1.drewN nq) [(g2, m + 1, c2, B ++ [spare]), (g1, n + 1, c1, A ++ [spare])]) := H1.out.drewN nq
  generalize w1.drewN nq = w2 at *
  clear H1
  have X := (H2.out.bel.block _ (block_lt FO.out)).trans FO.out
  obtain ⟨⟨y0, y1, y2, y3, y4⟩, -⟩ := cellsF (show w2.heap[ob]? = some (.cells #[.int .i64 k, .int .i64 p, .int .u8 ch, .int .i64 cl, .int .i64 sq] 23 (0, 0)) from X)
  have yl := block_lt X
  clear X
  go_wp2_with fail
  refine (c_through H2.out HT.out ⟨k, p, ch, cl, sq⟩ (H2.out.isF (.tail _ (.head _)) LA.out) (by omega)).mono ?_
  rintro e w3 ⟨pk, pp, pc, pl, ps, g3, c3, rfl, H3⟩
  replace H3 : Hid (St w0 w3 [(g3, n, c3, (throughP ⟨k, p, ch, cl, sq⟩ A true).2), (g2, m + 1, c2, B ++ [spare]), (g1, n + 1, c1, A ++ [spare])]) := H3
  clear H2
  clear y0 y1 y2 y3 y4 yl
  go_wp2_with fail
  obtain ⟨w4, hw4⟩ : ∃ u, u = w3.alloc (.cells #[.int .i64 pk, .int .i64 pp, .int .u8 pc, .int .i64 pl, .int .i64 ps] 23) := ⟨_, rfl⟩
  rw [← hw4]
  have H4 : Hid (St w0 w4 [(g3, n, c3, (throughP ⟨k, p, ch, cl, sq⟩ A true).2), (g2, m + 1, c2, B ++ [spare]), (g1, n + 1, c1, A ++ [spare])]) := H3.out.below (by rw [hw4]; exact (Below.refl _ _).alloc (Nat.le_refl _) _)
  clear H3 hw4
  go_wp2_with fail
  refine (c_weave H4.out HT.out (H4.out.isF (.tail _ (.tail _ (.head _))) LA.out) (H4.out.isF (.tail _ (.head _)) LB.out) (by omega) (by omega)).mono ?_
  rintro e w5 ⟨g5, q5, c5, d5, rfl, H5⟩
  replace H5 : Hid (St w0 w5 [(q5, m, d5, (weaveP A B).2), (g5, n, c5, (weaveP A B).1), (g3, n, c3, (throughP ⟨k, p, ch, cl, sq⟩ A true).2), (g2, m + 1, c2, B ++ [spare]), (g1, n + 1, c1, A ++ [spare])]) := H5
  clear H4
  go_wp2_with fail
  refine (c_weave H5.out HT.out (H5.out.isF (.tail _ (.tail _ (.tail _ (.tail _ (.head _))))) LA.out) (H5.out.isF (.tail _ (.tail _ (.tail _ (.head _)))) LB.out) (by omega) (by omega)).mono ?_
  rintro e w6 ⟨g6, q6, c6, d6, rfl, H6⟩
  replace H6 : Hid (St w0 w6 [(q6, m, d6, (weaveP A B).2), (g6, n, c6, (weaveP A B).1), (q5, m, d5, (weaveP A B).2), (g5, n, c5, (weaveP A B).1), (g3, n, c3, (throughP ⟨k, p, ch, cl, sq⟩ A true).2), (g2, m + 1, c2, B ++ [spare]), (g1, n + 1, c1, A ++ [spare])]) := H6
  clear H5
  go_wp2_with fail
  refine (num_any 0 _).mono ?_
  rintro e u ⟨rfl, rfl⟩
  go_wp2_with fail
  refine (num_any 0 _).mono ?_
  rintro e u ⟨rfl, rfl⟩
  go_wp2_with fail
  refine (c_same H6.out (H6.out.isO (.tail _ (.tail _ (.tail _ (.head _))))) (H6.out.isO (.tail _ (.head _))) rfl).mono ?_
  rintro e w7 ⟨rfl, H7⟩
  clear H6
  go_wp2_with fail
  refine (c_same H7.out (H7.out.isO (.tail _ (.tail _ (.head _)))) (H7.out.isO (.head _)) rfl).mono ?_
  rintro e w8 ⟨rfl, H8⟩
  clear H7
  have E1 : (A ++ [spare])[n]'(by have := LA.out; simp; omega) = spare := by
    have := LA.out
    rw [List.getElem_append_right (by omega)]
    simp
  have E2 : (B ++ [spare])[m]'(by have := LB.out; simp; omega) = spare := by
    have := LB.out
    rw [List.getElem_append_right (by omega)]
    simp
  obtain ⟨a0, a1, a2, a3, a4⟩ := (H8.out.rows.row (g1, n + 1, c1, A ++ [spare]) (.tail _ (.tail _ (.tail _ (.tail _ (.tail _ (.tail _ (.head _)))))))).at n (by show n < n + 1; omega) (by have := LA.out; simp; omega)
  obtain ⟨b0, b1, b2, b3, b4⟩ := (H8.out.rows.row (g2, m + 1, c2, B ++ [spare]) (.tail _ (.tail _ (.tail _ (.tail _ (.tail _ (.head _))))))).at m (by show m < m + 1; omega) (by have := LB.out; simp; omega)
  simp only [E1] at a0 a1 a2 a3 a4
  simp only [E2] at b0 b1 b2 b3 b4
  have SX : AtS w8 sb := (H8.out.bel.block _ FS.out.lt).trans FS.out
  obtain ⟨⟨z0, z1, z2, z3, z4⟩, -⟩ := cellsF SX
  have zl := SX.lt
  have gl1 := (H8.out.rows.row (g1, n + 1, c1, A ++ [spare]) (.tail _ (.tail _ (.tail _ (.tail _ (.tail _ (.tail _ (.head _)))))))).lt
  have gl2 := (H8.out.rows.row (g2, m + 1, c2, B ++ [spare]) (.tail _ (.tail _ (.tail _ (.tail _ (.tail _ (.head _))))))).lt
  clear E1 E2 SX
  go_wp2_with fail
  go_quiet (fail)
  clear a0 a1 a2 a3 a4 b0 b1 b2 b3 b4 z0 z1 z2 z3 z4 zl gl1 gl2
  have H9 : Hid (St w0 (w8.drewN nq) [(q6, m, d6, (weaveP A B).2), (g6, n, c6, (weaveP A B).1), (q5, m, d5, (weaveP A B).2), (g5, n, c5, (weaveP A B).1), (g3, n, c3, (throughP ⟨k, p, ch, cl, sq⟩ A true).2), (g2, m + 1, c2, B ++ [spare]), (g1, n + 1, c1, A ++ [spare])]) := H8.out.drewN nq
  generalize w8.drewN nq = w9 at *
  clear H8
  go_wp2_with fail
  refine (num_any 0 _).mono ?_
  rintro e u ⟨rfl, rfl⟩
  go_wp2_with fail
  refine (num_any 0 _).mono ?_
  rintro e u ⟨rfl, rfl⟩
  go_wp2_with fail
  refine (c_same H9.out (H9.out.isF (.tail _ (.tail _ (.tail _ (.tail _ (.tail _ (.tail _ (.head _))))))) LA.out) (HA.out.below H9.out.bel) rfl).mono ?_
  rintro e w10 ⟨rfl, H10⟩
  clear H9
  go_wp2_with fail
  refine (c_same H10.out (H10.out.isF (.tail _ (.tail _ (.tail _ (.tail _ (.tail _ (.head _)))))) LB.out) (HB.out.below H10.out.bel) rfl).mono ?_
  rintro e w11 ⟨rfl, H11⟩
  clear H10
  go_upto_if 153 with fail
  go_cut [] (fun wx => Hid (St w0 wx [(q6, m, d6, (weaveP A B).2), (g6, n, c6, (weaveP A B).1), (q5, m, d5, (weaveP A B).2), (g5, n, c5, (weaveP A B).1), (g3, n, c3, (throughP ⟨k, p, ch, cl, sq⟩ A true).2), (g2, m + 1, c2, B ++ [spare]), (g1, n + 1, c1, A ++ [spare])]))
  case first =>
    go_wp2_with fail
    go_meet
    exact H11
  case rest =>
  obtain ⟨w12, rfl⟩ : ∃ u, u = wc := ⟨wc, rfl⟩
  rename_i K0 hK0
  refine hK0 _ _ ?_
  have H1 := St.front (l1 := [(q6, m, d6, (weaveP A B).2), (g6, n, c6, (weaveP A B).1), (q5, m, d5, (weaveP A B).2), (g5, n, c5, (weaveP A B).1), (g3, n, c3, (throughP ⟨k, p, ch, cl, sq⟩ A true).2)]) (l2 := [(g1, n + 1, c1, A ++ [spare])]) hcut.out LB.out
  have H2 := St.front (l1 := [(q6, m, d6, (weaveP A B).2), (g6, n, c6, (weaveP A B).1), (q5, m, d5, (weaveP A B).2), (g5, n, c5, (weaveP A B).1), (g3, n, c3, (throughP ⟨k, p, ch, cl, sq⟩ A true).2), (g2, m, c2, B)]) (l2 := []) H1 LA.out
  exact own_mid W w0 w12 a b n c m d A B HW.out HT.out HA.out HB.out hn hm k p ch cl sq q6 g6 q5 g5 g3 g2 g1 d6 c6 d5 c5 c3 c2 c1 H2 _ _ _ _ _ _ _ _ _ _ _ _ _ _ _ _ _ _ _ _ _ _ _ _ _ _ _ _ _ _ _ _ _ _ _ _ _ _ _ _ _ _ _ _ _ _ _ _ _ _ _ _ _ _ _ _ _ _ _ _ _ _ _ _ _ _ _ _ _ _ _ _ _ _ _ _ _ _ _ _ _ _ _ _ _ _ _ _ _ _ _ _ _ _ _ _ _ _ _ _ _ _ _ _ _ _ _ _ _ _ _ _ _ _ _ _ _ _ _ _ _ _ _ _ _ _ _ _ _ _ _ _ _ _ _ _ _ _ _ _ _ _ _ _ _ _ _ _ _ _ _ _ _ _ _ _ _ _ _ _ _ _ _ _ _ _ _ _ _ _ _ _ _ _ _ _ _ _ _ _ _ _ _ _ _ _ _ _ _ _ _ _ _ _ _ _ _ _ _ _ _ _ _ _ _ _ _ _ _ _ _ _ _ _ _ _ _ _ _ _ _ _ _ _ _ _ _ _ _ _ _ _ _ _ _ _ _ _ _ _ _ _ _ _ _ _ _ _ _ _ _ _ _ _ _ _ _ _ _ _ _ _ _ _ _ _ _ _ _ _ _ _ _ _ _ _

set_option maxRecDepth 100000 in
set_option maxHeartbeats 2000000 in
theorem otOwn_any (op : OpE) (a : Option Addr) (n c : Nat) (b : Option Addr) (m d : Nat) (A B : List OpE) (W : World) (hT : Table W) (hA : IsO W a n c A) (kA : OkO A) (hB : IsO W b m d B) (kB : OkO B) (ho : OkOp op) :
    Calls Tryd.prog 3 #[op.val, .slice a n c, .slice b m d] W fun e w' => e = .returned (.bool true) ∧ Below W.heap.size W w' := by
  obtain ⟨k, p, ch, cl, sq⟩ := op
  by_cases hn : n ≤ 4096
  · by_cases hm : m ≤ 4096
    · exact own_of k p ch cl sq a b n c m d A B W hT hA hB hn hm
    · have i1 : ¬ (n : Int) > 4096 := by omega
      have i2 : (m : Int) > 4096 := by omega
      have Z : Hid (Below W.heap.size W (W.alloc (.cells #[.int .i64 k, .int .i64 p, .int .u8 ch, .int .i64 cl, .int .i64 sq] 23))) := (Below.refl _ _).alloc (Nat.le_refl _) _
      clear hT hA kA hB kB ho
      show Calls Tryd.prog 3 #[.agg #[.int .i64 k, .int .i64 p, .int .u8 ch, .int .i64 cl, .int .i64 sq], .slice a n c, .slice b m d] W _
      go_enter Tryd.func3, Tryd.ntmps3
      go_wp2_with fail
      go_ret
      exact ⟨rfl, Z.out⟩
  · have i1 : (n : Int) > 4096 := by omega
    have Z : Hid (Below W.heap.size W (W.alloc (.cells #[.int .i64 k, .int .i64 p, .int .u8 ch, .int .i64 cl, .int .i64 sq] 23))) := (Below.refl _ _).alloc (Nat.le_refl _) _
    clear hT hA kA hB kB ho
    show Calls Tryd.prog 3 #[.agg #[.int .i64 k, .int .i64 p, .int .u8 ch, .int .i64 cl, .int .i64 sq], .slice a n c, .slice b m d] W _
    go_enter Tryd.func3, Tryd.ntmps3
    go_wp2_with fail
    go_ret
    exact ⟨rfl, Z.out⟩


end Go.Proofs.YtmkgkgdngjmcmabDoor
