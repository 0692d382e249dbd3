/-
  The net of the document: Deliver, Drop.
-/
import Derived.Test.YtnglcnilckolkaaRd
namespace Go.Proofs.Ytnglcnilckolkaa
open Go.RowKit Go.Lib
set_option linter.unusedVariables false

/-- The first k without the i-th. -/
def outL (L : List It) (i k : Nat) : List It := L.take (min i k) ++ (L.take k).drop (i + 1)
theorem outL_zero (L : List It) (i : Nat) : outL L i 0 = [] := by simp [outL]
theorem outL_skip (L : List It) (i : Nat) : outL L i (i + 1) = outL L i i := by
  unfold outL
  rw [show min i (i + 1) = i by omega, show min i i = i by omega, List.drop_of_length_le (by simp; omega), List.drop_of_length_le (by simp; omega)]
theorem outL_next (L : List It) (i k : Nat) (hk : k < L.length) (hne : k ≠ i) : outL L i (k + 1) = outL L i k ++ [L[k]] := by
  unfold outL
  rw [List.take_succ_eq_append_getElem hk]
  by_cases h : k < i
  · rw [show min i (k + 1) = k + 1 by omega, show min i k = k by omega, List.take_succ_eq_append_getElem hk, List.drop_of_length_le (by simp; omega), List.drop_of_length_le (by simp; omega)]
    simp
  · rw [show min i (k + 1) = i by omega, show min i k = i by omega, List.append_assoc]
    congr 1
    rw [List.drop_append_of_le_length (by simp; omega)]
theorem outL_end (L : List It) (i : Nat) (hi : i < L.length) : outL L i L.length = L.take i ++ L.drop (i + 1) := by
  unfold outL
  rw [show min i L.length = i by omega, List.take_length]
theorem outL_len (L : List It) (i k : Nat) (hk : k ≤ L.length) (hi : i < L.length) : (outL L i k).length ≤ k := by
  unfold outL
  simp
  omega
theorem outL_map (L : List It) (i : Nat) (hi : i < L.length) : (outL L i L.length).map It.d = without (L.map It.d) i := by
  rw [outL_end L i hi]
  unfold without
  simp [List.map_take, List.map_drop]
theorem outL_sub (L : List It) (i : Nat) (hi : i < L.length) : List.Sublist (outL L i L.length) L := by
  rw [outL_end L i hi]
  have : L = L.take i ++ L.drop i := (List.take_append_drop i L).symm
  conv => rhs; rw [this]
  refine List.Sublist.append_left ?_ _
  rw [List.drop_eq_getElem_cons hi]
  exact List.sublist_cons_self _ _

/-- What the loop of Deliver has made: a list of its own, from block base on. -/
def DL (w wr : World) (v : Value) (M : List It) : Prop := ∃ β, SO wr β v M ∧ (∀ g, β = some g → w.heap.size ≤ g) ∧ Below w.heap.size w wr

theorem DL.push {w wr u : World} {v : Value} {M : List It} (h : DL w wr v M) (bu : Below wr.heap.size wr u) (it : It) (hn : M.length ≤ 4096) :
    ∃ v' w', (∀ ty, (Builtin.append_ #[43, 43] ty #[v, .slice (some ⟨u.heap.size, 0, none⟩) 1 1]).run Try.prog (u.alloc (.cells (opc it).toArray 37)) = .ok v' w') ∧ DL w w' v' (M ++ [it]) := by
  obtain ⟨β, hS, hβ, hB⟩ := h
  have b2 : Below wr.heap.size wr (u.alloc (.cells (opc it).toArray 37)) := bu.alloc bu.size _
  obtain ⟨v', w', hr, β', hS', hM, hF⟩ := run_pushO _ β v M (hS.below b2) u.heap.size it (heap_alloc_new _ _) hn
  refine ⟨v', w', hr, β', hS', ?_, hB.trans ((b2.mono hB.size).trans (hF.below (by have := b2.size; have := hB.size; omega) hβ))⟩
  intro g hg
  rcases hM with hM | ⟨g', hM, hl⟩
  · exact hβ g (by rw [← hM]; exact hg)
  · rw [hM] at hg
    injection hg with hg
    have := b2.size
    have := hB.size
    omega

set_option maxHeartbeats 1000000 in
theorem rdeliver_bad (y : Nat) (cl : Int) (G : List DG) (S : Nat → Prop) (w : World) (h : RB w y cl G S) (i : Int) (hi : ¬ isAt G.length i) :
    Calls Try.prog 41 #[.pointer (some ⟨y, 0, none⟩), .int .i64 i] w fun e w' => e = .returned (.tuple #[.agg #[.int .i64 0, .int .i64 0, .slice none 0 0, .bool false], .int .i64 74]) ∧ Below w.heap.size w w' := by
  obtain ⟨L, v, β, hK, hG⟩ := h
  have hl : G.length = L.length := by rw [← hG]; simp
  have HK := hd hK
  rw [hl] at hi
  have hb : decide (¬ isAt L.length i) = true := decide_eq_true hi
  clear hK hG hl hi
  go_enter Try.func41, Try.ntmps41
  go_wp2_with fail
  refine (rnone_rk y cl L S v β _ (HK.out.below ((Below.refl _ _).alloc (Nat.le_refl _) _)) i).mono ?_
  rintro e w1 ⟨rfl, rfl⟩
  rw [hb]
  go_wp2
  refine bodyPost_ret (v := .tuple #[.agg #[.int .i64 0, .int .i64 0, .slice none 0 0, .bool false], .int .i64 74]) (by simp [results, Try.results41, go_sem]) rfl ?_
  exact ⟨rfl, by repeat (first | exact Below.refl _ _ | refine Below.alloc ?_ (by simp) _ | refine Below.setCell ?_ (by simp) _)⟩

theorem rdel_end {w wL wr w4 : World} {y : Nat} {cl : Int} {L : List It} {S : Nat → Prop} {v v' : Value} {β : Option Nat} (i : Nat) (hi : i < L.length) (hwL : Below w.heap.size w wL) (hlt : w.heap.size < wL.heap.size) (N : RK wr y cl L S v β) (hold : ∀ k, S k → k < w.heap.size) (hD : DL wL wr v' (outL L i L.length)) (F : Fr (fun k => k = y ∨ k = w.heap.size) wr w4)
    (n4 : w4.heap[y]? = some (.cells #[.int .i64 cl, v'] 77 (0, 0))) : NowR w w4 y cl (without (L.map It.d) i) S := by
  obtain ⟨β', hS, hβ, hB⟩ := hD
  have hsub := outL_sub L i hi
  have hy := hold _ N.own.1
  have hb' : ∀ g, β' = some g → g ≠ y ∧ g ≠ w.heap.size := fun g hg => by
    have h1 := hβ g hg
    constructor <;> omega
  have bw : Below w.heap.size w wr := hwL.trans (hB.mono (by omega))
  refine ⟨fun k => S k ∨ (k < w4.heap.size ∧ w.heap.size ≤ k ∧ β' = some k), ⟨outL L i L.length, v', β', ⟨n4, ?_, ?_, fun x hx => N.short x (hsub.subset hx), N.sep.sublist hsub, ?_, ⟨.inl N.own.1, ?_, fun x hx g hg => .inl (N.own.2.2 x (hsub.subset hx) g hg)⟩, ?_⟩, outL_map L i hi⟩, ?_, ?_⟩
  · exact SO.fr hS F (fun g hg h => by have := hb' g hg; rcases h with h | h <;> omega)
  · intro x hx
    have h0 := N.rows x (hsub.subset hx)
    exact SRow.fr h0 F (fun g hg h => by
      have h1 := N.e_y h0 hg
      have h2 := hold g (N.own.2.2 x (hsub.subset hx) g hg)
      rcases h with h | h
      · exact h1.1 h
      · omega)
  · have h1 := outL_len L i L.length (Nat.le_refl _) hi
    have h2 := N.few
    omega
  · intro g hg
    have h1 := hβ g hg
    exact .inr ⟨Nat.lt_of_lt_of_le (SO.lt hS g hg) F.size, by omega, hg⟩
  · rintro k (hk | hk)
    · have := hold k hk
      have h1 := bw.size
      have h2 := F.size
      omega
    · exact hk.1
  · rintro k (hk | hk)
    · exact .inl hk
    · exact .inr hk.2.1
  · refine Fr.next (Fr.of_below bw) F ?_
    rintro k hk (rfl | rfl)
    · exact N.own.1
    · omega

set_option maxRecDepth 100000 in
set_option maxHeartbeats 4000000 in
theorem rdeliver_good (y : Nat) (cl : Int) (G : List DG) (S : Nat → Prop) (w : World) (h : RB w y cl G S) (i : Nat) (hi : i < G.length) :
    Calls Try.prog 41 #[.pointer (some ⟨y, 0, none⟩), .int .i64 i] w fun e w' => ∃ a c, e = .returned (.tuple #[.agg #[.int .i64 (G.getD i zDG).f, .int .i64 (G.getD i zDG).t, .slice a (G.getD i zDG).b.length c, .bool (G.getD i zDG).s], .int .i64 0]) ∧ IsB w' a (G.getD i zDG).b.length c (G.getD i zDG).b ∧ NowR w w' y cl (without G i) S := by
  obtain ⟨L, v, β, hK, hG⟩ := h
  have hl : G.length = L.length := by rw [← hG]; simp
  rw [hl] at hi
  have hb : decide (¬ isAt L.length (i : Int)) = false := decide_eq_false (by unfold isAt; omega)
  have hgd : G.getD i zDG = L[i].d := by
    rw [← hG]
    simp [List.getD, List.getElem?_eq_getElem hi]
  rw [hgd]
  obtain ⟨n, hn⟩ : ∃ n, L.length = n := ⟨_, rfl⟩
  obtain ⟨wL, hwL⟩ : ∃ wL, wL = (w.alloc (.cells #[.int .i64 0, .int .i64 0, .slice none 0 0, .bool false] 37)).alloc (.cells #[.int .i64 L[i].d.f, .int .i64 L[i].d.t, .slice L[i].a L[i].d.b.length L[i].c, .bool L[i].d.s] 37) := ⟨_, rfl⟩
  have b0 : Below w.heap.size w (w.alloc (.cells #[.int .i64 0, .int .i64 0, .slice none 0 0, .bool false] 37)) := (Below.refl _ _).alloc (Nat.le_refl _) _
  have bL : Below w.heap.size w wL := by rw [hwL]; exact b0.alloc (by simp) _
  have hsL : wL.heap.size = w.heap.size + 2 := by rw [hwL]; simp
  have rR : wL.heap[w.heap.size]? = some (.cells #[.int .i64 0, .int .i64 0, .slice none 0 0, .bool false] 37 (0, 0)) := by
    rw [hwL, heap_alloc_old _ _ (by simp)]
    exact heap_alloc_new _ _
  have rD : wL.heap[w.heap.size + 1]? = some (.cells #[.int .i64 L[i].d.f, .int .i64 L[i].d.t, .slice L[i].a L[i].d.b.length L[i].c, .bool L[i].d.s] 37 (0, 0)) := by
    rw [hwL]
    have := heap_alloc_new (w.alloc (.cells #[.int .i64 0, .int .i64 0, .slice none 0 0, .bool false] 37)) (.cells #[.int .i64 L[i].d.f, .int .i64 L[i].d.t, .slice L[i].a L[i].d.b.length L[i].c, .bool L[i].d.s] 37)
    rw [World.size_alloc] at this
    exact this
  have HK := hd hK
  have HK0 := hd (hK.below b0)
  have HKL := hd (hK.below bL)
  have HO := hd hK.old
  have HG := hd hG
  have HN := hd hn
  have HX := hd (And.intro bL (And.intro hsL (And.intro rR rD)))
  have S0 : Hid (DL wL wL (.slice none 0 0) (outL L i 0)) := by
    rw [outL_zero]
    exact ⟨none, ⟨rfl, rfl⟩, by simp, Below.refl _ _⟩
  obtain ⟨g0, cap, rfl, rfl, hc1, hc2, hgl0, x0, x1, x2, x3, hIB⟩ := (hK.below b0).at i hi
  have cc0 := cell_row (hK.below b0).net 1
  simp at cc0
  rw [hn] at cc0 hc1
  have hf := hK.few
  rw [hn] at hf
  have i3 : (i : Int) < (n : Int) := by omega
  have hin : i < n := by omega
  clear hK hG hl hgd b0 bL hsL rR rD hIB
  have HQ : Hid (∀ wr w4 v' β', RK wr y cl L S v' β' → Fr (fun k => k = y ∨ k = w.heap.size) wr w4 → IsB w4 L[i].a L[i].d.b.length L[i].c L[i].d.b) := by
    intro wr w4 v' β' N F
    have h0 := N.rows _ (List.getElem_mem hi)
    have h1 := SRow.fr h0 F (fun g hg h => by
      have h1 := N.e_y h0 hg
      have h2 := HO.out g (N.own.2.2 _ (List.getElem_mem hi) g hg)
      rcases h with h | h
      · exact h1.1 h
      · omega)
    obtain ⟨a', c', hv', hB⟩ := SB.isB h1
    unfold It.sv at hv'
    injection hv' with q1 q2 q3
    rw [q1, q3]
    exact hB
  generalize L[i] = it at *
  have HI := hd hi
  obtain ⟨⟨df, dt, db, ds⟩, ia, ic, ig⟩ := it
  simp only at x0 x1 x2 x3 hwL HX HQ ⊢
  go_enter Try.func41, Try.ntmps41
  go_wp2_with fail
  refine (rnone_rk y cl L S _ _ _ HK0.out i).mono ?_
  rintro e w1 ⟨rfl, rfl⟩
  rw [hb]
  clear hb
  go_wp2_with fail
  rw [← hwL]
  clear hwL x0 x1 x2 x3 cc0 HK0
  go_loopw [7, 8] (fun v k wr => ∃ j : Nat, j ≤ n ∧ k = .int .i64 j ∧ Hid (DL wL wr v (outL L i j))) (fun _ k _ => n - (intOf k).toNat)
  case atStart => exact ⟨0, Nat.zero_le _, rfl, S0⟩
  case round =>
    obtain ⟨j, hj, rfl, HD⟩ := hrel
    clear S0
    obtain ⟨βv, hSv, hβv, hBv⟩ := HD.out
    obtain ⟨av', cv', hv', -⟩ := hSv.form
    have hll := outL_len L i j (by have := HN.out; omega) HI.out
    have N1 := HKL.out.below hBv
    have cc1 := cell_row N1.net 1
    simp at cc1
    rw [HN.out] at cc1
    obtain ⟨ln, hln⟩ : ∃ ln, (outL L i j).length = ln := ⟨_, rfl⟩
    rw [hln] at hv' hll
    subst hv'
    have HLN := hd hln
    clear hln hSv hβv
    by_cases hlt : j < n
    · have i4 : (j : Int) < (n : Int) := by omega
      by_cases hji : j = i
      · subst hji
        have Z : Hid (DL wL wr (.slice av' ln cv') (outL L j (j + 1))) := by
          rw [outL_skip]
          exact HD.out
        clear N1 hBv HQ
        go_wp2_with fail
        exact ⟨⟨j + 1, by omega, by go_num, Z⟩, by simp [intOf]; omega⟩
      · have i5 : ¬ (j : Int) = (i : Int) := by omega
        have jL : j < L.length := by have := HN.out; omega
        obtain ⟨g1, cap1, hβ1, hv1, -, -, hgl1, z0, z1, z2, z3, -⟩ := N1.at j jL
        obtain rfl : g0 = g1 := by injection hβ1
        obtain ⟨v2, w2, hap, hD2⟩ := HD.out.push (Below.refl _ _) L[j] (by rw [HLN.out]; omega)
        rw [← outL_next L i j jL hji] at hD2
        have Z := hd hD2
        simp only [opc] at hap
        clear N1 hBv hD2 hβ1 hv1 HQ
        generalize L[j] = it2 at *
        obtain ⟨⟨df2, dt2, db2, ds2⟩, ia2, ic2, ig2⟩ := it2
        simp only at z0 z1 z2 z3 hap
        go_wp2_with (at_builtin; refine wpList_append_k _ rfl _ _ 43 43 rfl _ _ rfl rfl (hap _) ?_)
        exact ⟨⟨j + 1, by omega, by go_num, Z⟩, by simp [intOf]; omega⟩
    · obtain rfl : j = n := by omega
      obtain ⟨bL, hsL, rR, rD⟩ := HX.out
      have rR2 := (hBv.block _ (by omega)).trans rR
      have rD2 := (hBv.block _ (by omega)).trans rD
      have f1 := frozen_row N1.net 1
      obtain ⟨p0, p1, p2, p3⟩ := cells4 rD2
      obtain ⟨q0, q1, q2, q3⟩ := cells4 rR2
      have f3 := frozen_row rR2 0
      have f4 := frozen_row rR2 1
      have f5 := frozen_row rR2 2
      have f6 := frozen_row rR2 3
      have hyl := HO.out _ N1.own.1
      obtain ⟨w4, hw4⟩ : ∃ w4, w4 = ((((wr.setCell ⟨y, 1, none⟩ (.slice av' ln cv')).setCell ⟨w.heap.size, 0, none⟩ (.int .i64 df)).setCell ⟨w.heap.size, 1, none⟩ (.int .i64 dt)).setCell ⟨w.heap.size, 2, none⟩ (.slice ia db.length ic)).setCell ⟨w.heap.size, 3, none⟩ (.bool ds) := ⟨_, rfl⟩
      have F1 : Fr (· = y) wr (wr.setCell ⟨y, 1, none⟩ (.slice av' ln cv')) := Fr.setCell _ ⟨y, 1, none⟩ _ rfl
      have n1 := set_row N1.net 1 (.slice av' ln cv')
      have rR3 := F1.keeps rR2 (by omega)
      have F2 : Fr (· = w.heap.size) (wr.setCell ⟨y, 1, none⟩ (.slice av' ln cv')) w4 := by
        rw [hw4]
        repeat (first | exact Fr.refl _ _ | refine Fr.trans ?_ (Fr.setCell _ _ _ rfl))
      have t4 : w4.heap[w.heap.size]? = some (.cells #[.int .i64 df, .int .i64 dt, .slice ia db.length ic, .bool ds] 37 (0, 0)) := by
        rw [hw4]
        exact set_row (set_row (set_row (set_row rR3 0 _) 1 _) 2 _) 3 _
      have n4 : w4.heap[y]? = some (.cells #[.int .i64 cl, .slice av' ln cv'] 77 (0, 0)) := F2.keeps n1 (by omega)
      have F : Fr (fun k => k = y ∨ k = w.heap.size) wr w4 := (F1.mono (fun _ _ h => .inl h)).trans (F2.mono (fun _ _ h => .inr h))
      have hDn := HD.out
      rw [← HN.out] at hDn
      have R := hd (And.intro (HQ.out wr w4 _ _ N1 F) (rdel_end i HI.out bL (by omega) N1 HO.out hDn F n4))
      obtain ⟨s0, s1, s2, s3⟩ := cells4 t4
      have hyw : ¬ y = w.heap.size := by omega
      have hyw1 : ¬ y = w.heap.size + 1 := by omega
      clear N1 hBv F1 F2 F n1 n4 rR rR2 rR3 rD rD2 t4 hDn bL HD HQ
      go_wp2
      rw [← hw4]
      refine bodyPost_ret (v := .tuple #[.agg #[.int .i64 df, .int .i64 dt, .slice ia db.length ic, .bool ds], .int .i64 0]) (by simp [results, Try.results41, go_sem, s0, s1, s2, s3]) rfl ?_
      refine ⟨_, _, rfl, R.out.1, ?_⟩
      rw [← HG.out]
      exact R.out.2

set_option maxHeartbeats 1000000 in
theorem rdrop_bad (y : Nat) (cl : Int) (G : List DG) (S : Nat → Prop) (w : World) (h : RB w y cl G S) (i : Int) (hi : ¬ isAt G.length i) :
    Calls Try.prog 42 #[.pointer (some ⟨y, 0, none⟩), .int .i64 i] w fun e w' => e = .returned (.int .i64 74) ∧ Below w.heap.size w w' := by
  have H := hd (rdeliver_bad y cl G S w h i hi)
  clear h hi
  go_enter Try.func42, Try.ntmps42
  go_wp2_with fail
  refine H.out.mono ?_
  rintro e w1 ⟨rfl, b1⟩
  have B1 := hd b1
  clear b1
  go_wp2
  go_ret
  exact ⟨rfl, B1.out.alloc B1.out.size _⟩

set_option maxHeartbeats 1000000 in
theorem rdrop_good (y : Nat) (cl : Int) (G : List DG) (S : Nat → Prop) (w : World) (h : RB w y cl G S) (i : Nat) (hi : i < G.length) :
    Calls Try.prog 42 #[.pointer (some ⟨y, 0, none⟩), .int .i64 i] w fun e w' => e = .returned (.int .i64 0) ∧ NowR w w' y cl (without G i) S := by
  have H := hd (rdeliver_good y cl G S w h i hi)
  clear h hi
  go_enter Try.func42, Try.ntmps42
  go_wp2_with fail
  refine H.out.mono ?_
  generalize G.getD i zDG = d
  rintro e w1 ⟨a, c, rfl, -, S', k1, k2, k3⟩
  have Z : Hid (NowR w (w1.alloc (.cells #[.int .i64 d.f, .int .i64 d.t, .slice a d.b.length c, .bool d.s] 37)) y cl (without G i) S) :=
    ⟨S', k1.below ((Below.refl _ _).alloc (Nat.le_refl _) _), k2, k3.trans (Fr.alloc _ _ _)⟩
  clear k1 k2 k3
  go_wp2
  go_ret
  exact ⟨rfl, Z.out⟩

end Go.Proofs.Ytnglcnilckolkaa
