/-
  take.
-/
import Derived.Test.YtlmgogonghafeabGm
namespace Go.Proofs.Ytlmgogonghafeab
open Go.RowKit Go.Lib
set_option linter.unusedVariables false

section
variable {w W1 W2 W3 W4 : World} {x g : Nat} {sz : Int} {v : Value} {A B : List Pc} {q q' : Pc}
/-- The last character of a piece goes, and the piece with it. -/
theorem take_out (cap : Nat) (h : PcS w x sz (some g) v (A ++ q :: B)) (hN : NowQ w W2 q q')
    (hR : RowF pcv 1 W4 g (A ++ B).length cap 35 (A ++ B)) (F4 : Fr (· = g) (W2.setCell ⟨g, A.length, none⟩ q'.val) W4) :
    PcS (W4.setCell ⟨x, 0, none⟩ (.slice (some ⟨g, 0, none⟩) (A ++ B).length cap)) x sz (some g) (.slice (some ⟨g, 0, none⟩) (A ++ B).length cap) (A ++ B) ∧ Fr (Ow x (some g) (A ++ q :: B)) w (W4.setCell ⟨x, 0, none⟩ (.slice (some ⟨g, 0, none⟩) (A ++ B).length cap)) ∧
      ∀ k, Ow x (some g) (A ++ B) k → Ow x (some g) (A ++ q :: B) k ∨ w.heap.size ≤ k := by
  obtain ⟨n1, n2, n3, n4⟩ := h.ne
  have F2 := hN.frame
  have F3 : Fr (· = g) W2 W4 := (Fr.setCell (S := (· = g)) _ _ _ rfl).trans F4
  obtain ⟨V, hV⟩ : ∃ V : Value, V = .slice (some ⟨g, 0, none⟩) (A ++ B).length cap := ⟨_, rfl⟩
  rw [← hV]
  have F5 : Fr (· = x) W4 (W4.setCell ⟨x, 0, none⟩ V) := Fr.setCell _ _ _ rfl
  have hal : ∀ r, r ∈ A ∨ r ∈ B → PcO (W4.setCell ⟨x, 0, none⟩ V) r := fun r hr =>
    ((hN.others (h.all r (by rcases hr with hr | hr <;> simp [hr])) (pair_of h.two r hr)).fr F3 (fun e => (n4 r hr).2 e.symm)).fr F5 (fun e => (n4 r hr).1 e.symm)
  have hidx : (W4.setCell ⟨x, 0, none⟩ V).heap[x]? = some (.cells #[V, .int .i64 sz] 60 (0, 0)) := by
    have h4 : W4.heap[x]? = some (.cells #[v, .int .i64 sz] 60 (0, 0)) := F3.keeps (F2.keeps h.idx n2) n1
    have := set_row h4 0 V
    simpa using this
  refine ⟨⟨hidx, ⟨cap, hV, hR.fr F5 (fun e => n1 e.symm)⟩, ?_, ?_, ?_⟩, ?_, ?_⟩
  · intro r hr
    exact hal r (List.mem_append.1 hr)
  · intro r hr
    exact h.long r (by rcases List.mem_append.1 hr with hr | hr <;> simp [hr])
  · have := pair_swap (X := []) h.two List.Pairwise.nil (fun r hr y hy => by cases hy)
    simpa using this
  · refine (F2.mono (fun k _ hk => ?_)).trans (S := Ow x (some g) (A ++ q :: B)) ((F3.mono (fun k _ hk => ?_)).trans (F5.mono (fun k _ hk => ?_)))
    · exact .inr (.inr ⟨q, by simp, hk.symm⟩)
    · exact .inr (.inl (by rw [hk]))
    · exact .inl hk
  · intro k hk
    rcases hk with rfl | hk | ⟨r, hr, rfl⟩
    · exact .inl (.inl rfl)
    · exact .inl (.inr (.inl hk))
    · exact .inl (.inr (.inr ⟨r, by rcases List.mem_append.1 hr with hr | hr <;> simp [hr], rfl⟩))
end

set_option maxRecDepth 100000 in
set_option maxHeartbeats 4000000 in
theorem take_any (x g : Nat) (sz : Int) (v : Value) (ps : List Pc) (pos : Nat) (w : World) (h : PcS w x sz (some g) v ps) (hpos : pos < (txP ps).length) (hT : (txP ps).length ≤ 4096) (h0 : 0 < ps.length) :
    Calls Try.prog 23 #[.pointer (some ⟨x, 0, none⟩), .int .i64 pos] w fun e w' => e = .returned (.tuple #[]) ∧ PutR w w' x sz (some g) ps ((txP ps).take pos ++ (txP ps).drop (pos + 1)) := by
  obtain ⟨cap, rfl, hR⟩ := h.row
  have hnc : ps.length ≤ cap := hR.choose_spec.2.2.2.1
  have hc63 : cap ≤ 9223372036854775807 := hR.choose_spec.2.2.2.2.1
  have hn9 := long_len ps h.long
  have c0 : w.cell? ⟨x, 0, none⟩ = some (.slice (some ⟨g, 0, none⟩) ps.length cap) := by have := cell_row h.idx 0; simpa using this
  have HH := hd h
  have HR := hd hR
  have HP := hd hpos
  have HT := hd hT
  obtain ⟨n, hn⟩ : ∃ n, ps.length = n := ⟨_, rfl⟩
  have HN := hd hn
  rw [hn] at hnc hn9 h0 c0
  have hn9' : n ≤ 4096 := by omega
  have hp9 : pos ≤ 4096 := by omega
  clear h hR hpos hT hn hn9
  go_enter Try.func23, Try.ntmps23
  go_wp2_with fail
  go_loopw [4, 1] (fun kv pv wr => ∃ k P : Nat, kv = .int .i64 k ∧ pv = .int .i64 P ∧ k < n ∧ P ≤ 4096 ∧ Hid (lnP ps k + P = pos) ∧ wr = w) (fun kv _ _ => n - (intOf kv).toNat)
  case atStart => exact ⟨0, pos, rfl, rfl, by omega, by omega, by rw [lnP_zero]; exact Nat.zero_add _, rfl⟩
  case round =>
    obtain ⟨k, P, rfl, rfl, hk, hP9, hL, rfl⟩ := hrel
    have hk' : k < ps.length := by rw [HN.out]; exact hk
    have ck : wr.cell? ⟨g, k, none⟩ = some ps[k].val := by
      have := HR.out.cell szP k 0 hk' (by omega)
      rw [Nat.mul_one, Nat.add_zero] at this
      rw [this]
      rfl
    have HS := hd (lnP_succ hk')
    have HC := hd (cut_at hk')
    have HO := hd (HH.out.all ps[k] (List.getElem_mem hk'))
    have HL := hd (HH.out.long ps[k] (List.getElem_mem hk'))
    obtain ⟨q, hq⟩ : ∃ q, ps[k] = q := ⟨_, rfl⟩
    rw [hq] at ck HS HC HO HL
    clear hq
    obtain ⟨qb, qo, qc, qs⟩ := q
    obtain ⟨ql, hql⟩ : ∃ ql, qs.length = ql := ⟨_, rfl⟩
    have HQ := hd hql
    simp only [Pc.val, hql] at ck HS HL
    clear hql
    have hlc : ql ≤ qc := by have := HO.out.le; simp only [HQ.out] at this; exact this
    have hqc : qc ≤ 9223372036854775807 := HO.out.cap
    have hl1 : ql ≤ 128 := HL.out.2
    by_cases hgt : ql ≤ P
    · have hk2 : k + 1 < n := by
        apply Classical.byContradiction
        intro hge
        have e1 := lnP_all ps (k + 1) (by rw [HN.out]; omega)
        have e2 := HS.out
        have e3 := hL.out
        have e4 := HP.out
        omega
      have hL2 : Hid (lnP ps (k + 1) + (P - ql) = pos) := by
        have e2 := HS.out
        have e3 := hL.out
        show _ = _
        omega
      clear hL HS HC HO HL
      go_wp2
      exact ⟨⟨k + 1, P - ql, by go_num, by go_num, hk2, by omega, hL2, trivial⟩, by simp only [intOf]; omega⟩
    · have hPl : P < ql := by omega
      have CI := hd (bdelete_any ⟨qb, qo, qc, qs⟩ P wr.drew HO.out (by show P < qs.length; rw [HQ.out]; exact hPl) (by show qs.length ≤ 4096; rw [HQ.out]; omega))
      simp only [Pc.val, HQ.out] at CI
      have HA : Hid ((ps.take k).length = k) := by show _ = _; rw [List.length_take, HN.out]; omega
      have HTx : Hid ((txP ps).take pos ++ (txP ps).drop (pos + 1) = txP (ps.take k) ++ ((qs.take P ++ qs.drop (P + 1)) ++ txP (ps.drop (k + 1)))) := by
        have e1 := tx_mid (ps.take k) (ps.drop (k + 1)) ⟨qb, qo, qc, qs⟩
        rw [← HC.out] at e1
        show _ = _
        rw [e1, ← hL.out]
        exact del_tx _ _ _ P (by rw [HQ.out]; exact hPl)
      have H2 : Hid (PcS wr x sz (some g) (.slice (some ⟨g, 0, none⟩) ps.length cap) (ps.take k ++ ⟨qb, qo, qc, qs⟩ :: ps.drop (k + 1))) := by show PcS _ _ _ _ _ _; rw [← HC.out]; exact HH.out
      have Hn : Hid (x ≠ g ∧ x ≠ qb ∧ g ≠ qb) := by obtain ⟨n1, n2, n3, -⟩ := H2.out.ne; exact ⟨n1, n2, n3⟩
      have HI := hd HH.out.idx
      have HRC : Hid (∃ cs, wr.heap[g]? = some (.cells cs 35 (0, 0))) := SF.tyB HH.out.row g rfl
      obtain ⟨m, hm⟩ : ∃ m, ql = m + 1 := ⟨ql - 1, by omega⟩
      have CI3 : Hid (Calls Try.prog 49 #[.slice (some ⟨qb, qo, none⟩) ql qc, .int .i64 P, .int .i64 ((P : Int) + 1)] wr.drew fun e w' => ∃ gs, e = .returned (.slice (some ⟨qb, qo, none⟩) m qc) ∧ (gs = qs.take P ++ qs.drop (P + 1) ∧ gs.length = m ∧ NowQ wr w' ⟨qb, qo, qc, qs⟩ ⟨qb, qo, qc, gs⟩) ∧
          w'.cell? ⟨x, 0, none⟩ = some (.slice (some ⟨g, 0, none⟩) n cap) ∧ w'.frozen? ⟨g, k, none⟩ = false ∧ w'.cell? ⟨g, k, none⟩ = some (.slice (some ⟨qb, qo, none⟩) ql qc)) := by
        refine CI.out.mono ?_
        rintro e w' ⟨⟨gb, go', gc, gs⟩, rfl, hbs, e1, e2, e3, hN⟩
        simp only at e1 e2 e3 hbs
        subst e1 e2 e3
        have hl : gs.length = m := by
          have := congrArg List.length hbs
          have e4 := HQ.out
          simp at this
          omega
        obtain ⟨n1, n2, n3⟩ := Hn.out
        have hN' : NowQ wr w' ⟨gb, go', gc, qs⟩ ⟨gb, go', gc, gs⟩ := ⟨hN.own, by
          rcases hN.how with ⟨a1, a2, a3, a4, a5⟩ | ⟨a1, a2⟩
          · exact .inl ⟨a1, a2, a3, a4, (Fr.drew _ _).trans a5⟩
          · exact .inr ⟨a1, (Fr.drew _ _).trans a2⟩⟩
        have F2 := hN'.frame
        obtain ⟨cs, hcs⟩ := HRC.out
        have hx2 := F2.keeps HI.out n2
        refine ⟨gs, by simp only [hl], ⟨hbs, hl, hN'⟩, ?_, frozen_row (F2.keeps hcs n3) k, ?_⟩
        · have := cell_row hx2 0
          simp [HN.out] at this
          exact this
        · rw [F2.cell (p := ⟨g, k, none⟩) HR.out.lt n3]
          exact ck
      have dk : wr.drew.cell? ⟨g, k, none⟩ = some (.slice (some ⟨qb, qo, none⟩) ql qc) := ck
      have d0 : wr.drew.cell? ⟨x, 0, none⟩ = some (.slice (some ⟨g, 0, none⟩) n cap) := c0
      have hw1 : IntKind.i64.wrap ((P : Int) + 1) = (P : Int) + 1 := by rw [IntKind.wrap_i64]; omega
      have hw2 : IntKind.i64.wrap ((k : Int) + 1) = (k : Int) + 1 := by rw [IntKind.wrap_i64]; omega
      have HM := hd hm
      clear CI HS hL HO HL hm
      go_wp2_with fail
      go_region_law (first | (go_simp; go_at_call 49; refine CI3.out.mono ?_; rintro e W2 ⟨gs, rfl, hR, e0, f0, e1⟩; have HH2 := hd hR; clear hR))
      all_goals
        obtain ⟨z1, z2, z5⟩ := HH2.out
        obtain ⟨W3, hW3⟩ : ∃ W3, W2.setCell ⟨g, k, none⟩ (.slice (some ⟨qb, qo, none⟩) m qc) = W3 := ⟨_, rfl⟩
        rw [hW3]
        have HW3 := hd hW3
        obtain ⟨n1, n2, n3⟩ := Hn.out
        have F2 := z5.frame
        have hx2 := F2.keeps HI.out n2
        have hx3 : W3.heap[x]? = some (.cells #[.slice (some ⟨g, 0, none⟩) ps.length cap, .int .i64 sz] 60 (0, 0)) := by
          rw [← hW3]
          exact (Fr.setCell (S := (· = g)) W2 ⟨g, k, none⟩ _ rfl).keeps hx2 n1
        have hR2 : RowF pcv 1 W2 g (ps.take k ++ ⟨qb, qo, qc, qs⟩ :: ps.drop (k + 1)).length cap 35 (ps.take k ++ ⟨qb, qo, qc, qs⟩ :: ps.drop (k + 1)) := by
          have := HR.out.fr F2 n3
          rw [← HC.out]
          exact this
        have hR3 : RowF pcv 1 W3 g (ps.take k ++ ⟨qb, qo, qc, gs⟩ :: ps.drop (k + 1)).length cap 35 (ps.take k ++ ⟨qb, qo, qc, gs⟩ :: ps.drop (k + 1)) := by
          have := hR2.put (q' := ⟨qb, qo, qc, gs⟩)
          simp only [Pc.val, z2, HA.out] at this
          rw [hW3] at this
          simpa using this
        have k0 : W3.cell? ⟨x, 0, none⟩ = some (.slice (some ⟨g, 0, none⟩) n cap) := by
          have := cell_row hx3 0
          simp [HN.out] at this
          exact this
        have k1 : W3.cell? ⟨g, k, none⟩ = some (.slice (some ⟨qb, qo, none⟩) m qc) := by
          have := hR3.cell szP k 0 (by simp; omega) (by omega)
          rw [Nat.mul_one, Nat.add_zero] at this
          rw [this, List.getElem_append_right (by rw [HA.out]; exact Nat.le_refl _)]
          simp [HA.out, pcv, Pc.val, z2]
        have HX3 := hd hx3
        have HR3 := hd hR3
        have HZ := hd (And.intro z1 (And.intro z2 z5))
        clear hW3 n1 n2 n3 F2 hx2 hx3 hR2 hR3 z1 z2 z5 e0 f0 e1 dk d0 ck c0
        by_cases hm0 : m = 0
        · obtain ⟨N2, hN2⟩ : ∃ N2, n = N2 + 1 := ⟨n - 1, by omega⟩
          have CQ : Hid (Calls Try.prog 50 #[.slice (some ⟨g, 0, none⟩) n cap, .int .i64 k, .int .i64 ((k : Int) + 1)] W3 fun e w' => ∃ N2, e = .returned (.slice (some ⟨g, 0, none⟩) N2 cap) ∧ (N2 = (ps.take k ++ ps.drop (k + 1)).length ∧ RowF pcv 1 w' g (ps.take k ++ ps.drop (k + 1)).length cap 35 (ps.take k ++ ps.drop (k + 1)) ∧ Fr (· = g) W3 w') ∧
              w'.cell? ⟨x, 0, none⟩ = some (.slice (some ⟨g, 0, none⟩) n cap) ∧ w'.frozen? ⟨x, 0, none⟩ = false) := by
            have hlen : (ps.take k ++ ⟨qb, qo, qc, gs⟩ :: ps.drop (k + 1)).length = n := by have := HN.out; simp; omega
            have hdq : ∀ q : Pc, (ps.take k ++ q :: ps.drop (k + 1)).take k ++ (ps.take k ++ q :: ps.drop (k + 1)).drop (k + 1) = ps.take k ++ ps.drop (k + 1) := by
              intro q
              have hA := HA.out
              generalize ps.take k = A at *
              subst hA
              rw [List.take_left, List.drop_append]
              simp
            have := qdelete_any g cap k _ W3 HR3.out (by rw [hlen]; exact hk) (by rw [hlen]; omega)
            rw [hlen, hdq] at this
            refine this.mono ?_
            rintro e w' ⟨rfl, r1, r2⟩
            have hx4 := r2.keeps HX3.out Hn.out.1
            refine ⟨_, rfl, ⟨rfl, r1, r2⟩, ?_, frozen_row hx4 0⟩
            have := cell_row hx4 0
            simp [HN.out] at this
            exact this
          subst hm0
          clear hN2
          go_wp2_with (go_at_call 50; refine CQ.out.mono ?_; rintro e W4 ⟨N2, rfl, hR, e0, f0⟩; have HH4 := hd hR; clear hR)
          refine bodyPost_end (results_none rfl _ _ _) rfl ?_
          obtain ⟨z1, z2, z5⟩ := HZ.out
          obtain ⟨rfl, r1, r2⟩ := HH4.out
          rw [← HW3.out] at r2
          have Z := take_out cap H2.out z5 r1 (by simp only [Pc.val, z2, HA.out]; exact r2)
          have eC := HC.out
          rw [← eC] at Z
          refine ⟨rfl, _, _, _, Z.1, ?_, Z.2.1, Z.2.2⟩
          have e0 : gs = [] := List.eq_nil_of_length_eq_zero z2
          rw [HTx.out, ← z1, e0, txP_app]
          simp
        · go_wp2
          refine bodyPost_end (results_none rfl _ _ _) rfl ?_
          obtain ⟨z1, z2, z5⟩ := HZ.out
          have Z := put_in H2.out (Below.refl _ _) z5 (by simp only [z2]; have := HM.out; omega)
          simp only [Pc.val, z2, HA.out] at Z
          rw [HW3.out] at Z
          have eC := HC.out
          rw [← eC] at Z
          refine ⟨rfl, _, _, _, Z.1, ?_, Z.2.1, Z.2.2⟩
          rw [tx_mid, HTx.out, z1]
end Go.Proofs.Ytlmgogonghafeab
