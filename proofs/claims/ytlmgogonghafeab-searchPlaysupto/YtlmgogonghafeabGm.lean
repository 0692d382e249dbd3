/-
  put, where there are pieces.
-/
import Derived.Test.YtlmgogonghafeabMO
namespace Go.Proofs.Ytlmgogonghafeab
open Go.RowKit Go.Lib
set_option linter.unusedVariables false

theorem cut_at {ps : List Pc} {k : Nat} (hk : k < ps.length) : ps = ps.take k ++ ps[k] :: ps.drop (k + 1) := by
  rw [← List.drop_eq_getElem_cons hk, List.take_append_drop]

set_option maxRecDepth 100000 in
set_option maxHeartbeats 4000000 in
theorem put_some (x g : Nat) (sz : Int) (v : Value) (ps : List Pc) (pos : Nat) (c : UInt8) (w : World) (h : PcS w x sz (some g) v ps) (hpos : pos ≤ (txP ps).length) (hT : (txP ps).length ≤ 4096) (h0 : 0 < ps.length) :
    Calls Try.prog 22 #[.pointer (some ⟨x, 0, none⟩), .int .i64 pos, ub c] w fun e w' => e = .returned (.tuple #[]) ∧ PutR w w' x sz (some g) ps ((txP ps).take pos ++ c :: (txP ps).drop pos) := by
  obtain ⟨cap, rfl, hR⟩ := h.row
  have hnc : ps.length ≤ cap := hR.choose_spec.2.2.2.1
  have hc63 : cap ≤ 9223372036854775807 := hR.choose_spec.2.2.2.2.1
  have hn9 := long_len ps h.long
  have c0 : w.cell? ⟨x, 0, none⟩ = some (.slice (some ⟨g, 0, none⟩) ps.length cap) := by have := cell_row h.idx 0; simpa using this
  have HH := hd h
  have HR := hd hR
  have HP := hd hpos
  have HT := hd hT
  obtain ⟨n, hn⟩ : ∃ n, ps.length = n := ⟨_, rfl⟩
  have HN := hd hn
  rw [hn] at hnc hn9 h0 c0
  have hn9' : n ≤ 4096 := by omega
  have hp9 : pos ≤ 4096 := by omega
  have hn0 : ¬ n = 0 := by omega
  clear h hR hpos hT hn hn9
  unfold ub
  go_enter Try.func22, Try.ntmps22
  go_wp2_with fail
  go_loopw [6, 1] (fun kv pv wr => ∃ k P : Nat, kv = .int .i64 k ∧ pv = .int .i64 P ∧ k < n ∧ P ≤ 4096 ∧ Hid (lnP ps k + P = pos) ∧ wr = w) (fun kv _ _ => n - (intOf kv).toNat)
  case atStart => exact ⟨0, pos, rfl, rfl, by omega, by omega, by rw [lnP_zero]; exact Nat.zero_add _, rfl⟩
  case round =>
    obtain ⟨k, P, rfl, rfl, hk, hP9, hL, rfl⟩ := hrel
    have hk' : k < ps.length := by rw [HN.out]; exact hk
    have ck : wr.cell? ⟨g, k, none⟩ = some ps[k].val := by
      have := HR.out.cell szP k 0 hk' (by omega)
      rw [Nat.mul_one, Nat.add_zero] at this
      rw [this]
      rfl
    have HS := hd (lnP_succ hk')
    have HC := hd (cut_at hk')
    have HO := hd (HH.out.all ps[k] (List.getElem_mem hk'))
    have HL := hd (HH.out.long ps[k] (List.getElem_mem hk'))
    obtain ⟨q, hq⟩ : ∃ q, ps[k] = q := ⟨_, rfl⟩
    rw [hq] at ck HS HC HO HL
    clear hq
    obtain ⟨qb, qo, qc, qs⟩ := q
    obtain ⟨ql, hql⟩ : ∃ ql, qs.length = ql := ⟨_, rfl⟩
    have HQ := hd hql
    simp only [Pc.val, hql] at ck HS HL
    clear hql
    have hlc : ql ≤ qc := by have := HO.out.le; simp only [HQ.out] at this; exact this
    have hqc : qc ≤ 9223372036854775807 := HO.out.cap
    have hl1 : ql ≤ 128 := HL.out.2
    by_cases hgt : ql < P
    · have hk2 : k + 1 < n := by
        apply Classical.byContradiction
        intro hge
        have e1 := lnP_all ps (k + 1) (by rw [HN.out]; omega)
        have e2 := HS.out
        have e3 := hL.out
        have e4 := HP.out
        omega
      have hL2 : Hid (lnP ps (k + 1) + (P - ql) = pos) := by
        have e2 := HS.out
        have e3 := hL.out
        show _ = _
        omega
      clear hL HS HC HO HL
      go_wp2
      exact ⟨⟨k + 1, P - ql, by go_num, by go_num, hk2, by omega, hL2, trivial⟩, by simp only [intOf]; omega⟩
    · have hPl : P ≤ ql := by omega
      obtain ⟨W1, hW1⟩ : ∃ W1, W1 = wr.alloc (.cells [ub c].toArray 5) := ⟨_, rfl⟩
      have b1 : Below wr.heap.size wr W1 := by rw [hW1]; exact (Below.refl _ _).alloc (Nat.le_refl _) _
      have hv1 : W1.heap[wr.heap.size]? = some (.cells [ub c].toArray 5 (0, 0)) := by rw [hW1]; exact heap_alloc_new wr _
      have CI := hd (binsert_any ⟨qb, qo, qc, qs⟩ c P wr.heap.size W1 (HO.out.fr (Q := fun _ => False) (Fr.of_below b1) (fun h => h)) (by show P ≤ qs.length; rw [HQ.out]; exact hPl) (by show qs.length ≤ 4096; rw [HQ.out]; omega) hv1 (by have := HO.out.lt; show wr.heap.size ≠ qb; have : qb < wr.heap.size := this; omega))
      simp only [Pc.val, HQ.out] at CI
      have b1 := hd b1
      have HA : Hid ((ps.take k).length = k) := by show _ = _; rw [List.length_take, HN.out]; omega
      have HTx : Hid ((txP ps).take pos ++ c :: (txP ps).drop pos = txP (ps.take k) ++ ((qs.take P ++ c :: qs.drop P) ++ txP (ps.drop (k + 1)))) := by
        have e1 := tx_mid (ps.take k) (ps.drop (k + 1)) ⟨qb, qo, qc, qs⟩
        rw [← HC.out] at e1
        show _ = _
        rw [e1, ← hL.out]
        exact ins_tx _ _ _ c P (by rw [HQ.out]; exact hPl)
      have H2 : Hid (PcS wr x sz (some g) (.slice (some ⟨g, 0, none⟩) ps.length cap) (ps.take k ++ ⟨qb, qo, qc, qs⟩ :: ps.drop (k + 1))) := by show PcS _ _ _ _ _ _; rw [← HC.out]; exact HH.out
      have CI2 : Hid (Calls Try.prog 47 #[.slice (some ⟨qb, qo, none⟩) ql qc, .int .i64 P, .slice (some ⟨wr.heap.size, 0, none⟩) 1 1] W1 fun e w' => ∃ gb go' gc gs, e = .returned (.slice (some ⟨gb, go', none⟩) (ql + 1) gc) ∧ gs = qs.take P ++ c :: qs.drop P ∧ gs.length = ql + 1 ∧ NowQ W1 w' ⟨qb, qo, qc, qs⟩ ⟨gb, go', gc, gs⟩) := by
        refine CI.out.mono ?_
        rintro e w' ⟨⟨gb, go', gc, gs⟩, rfl, hbs, hN⟩
        have hl : gs.length = ql + 1 := by
          have := congrArg List.length hbs
          have e4 := HQ.out
          simp at this
          omega
        exact ⟨gb, go', gc, gs, by simp only [hl], hbs, hl, hN⟩
      have HW1 := hd hW1
      have hW1' : wr.alloc (.cells #[.int .u8 ((c.toNat : Nat) : Int)] 5) = W1 := hW1.symm
      have Hn : Hid (x ≠ g ∧ x ≠ qb ∧ g ≠ qb) := by obtain ⟨n1, n2, n3, -⟩ := H2.out.ne; exact ⟨n1, n2, n3⟩
      have HW := hd (And.intro (block_lt HH.out.idx) HR.out.lt)
      have HI := hd HH.out.idx
      have HRC : Hid (∃ cs, wr.heap[g]? = some (.cells cs 35 (0, 0))) := SF.tyB HH.out.row g rfl
      clear hW1 hv1 HS hL CI HO HH HR
      have CI3 : Hid (Calls Try.prog 47 #[.slice (some ⟨qb, qo, none⟩) ql qc, .int .i64 P, .slice (some ⟨wr.heap.size, 0, none⟩) 1 1] W1 fun e w' => ∃ gb go' gc gs, e = .returned (.slice (some ⟨gb, go', none⟩) (ql + 1) gc) ∧ (gs = qs.take P ++ c :: qs.drop P ∧ gs.length = ql + 1 ∧ ql + 1 ≤ gc ∧ gc ≤ 9223372036854775807 ∧ NowQ W1 w' ⟨qb, qo, qc, qs⟩ ⟨gb, go', gc, gs⟩) ∧
          w'.heap[x]? = some (.cells #[.slice (some ⟨g, 0, none⟩) ps.length cap, .int .i64 sz] 60 (0, 0)) ∧ (∃ cs, w'.heap[g]? = some (.cells cs 35 (0, 0))) ∧ w'.cell? ⟨g, k, none⟩ = some (.slice (some ⟨qb, qo, none⟩) ql qc)) := by
        refine CI2.out.mono ?_
        rintro e w' ⟨gb, go', gc, gs, rfl, hbs, hl, hN⟩
        obtain ⟨n1, n2, n3⟩ := Hn.out
        have F1 : Fr (fun _ => False) wr W1 := Fr.of_below b1.out
        have F2 := hN.frame
        obtain ⟨cs, hcs⟩ := HRC.out
        refine ⟨gb, go', gc, gs, rfl, ⟨hbs, hl, by have := hN.own.le; simp only [hl] at this; exact this, hN.own.cap, hN⟩, F2.keeps (F1.keeps HI.out (fun h => h)) n2, ⟨cs, F2.keeps (F1.keeps hcs (fun h => h)) n3⟩, ?_⟩
        rw [F2.cell (p := ⟨g, k, none⟩) (Nat.lt_of_lt_of_le HW.out.2 b1.out.size) n3, b1.out.cell (p := ⟨g, k, none⟩) HW.out.2]
        exact ck
      clear CI2
      by_cases hle : ql + 1 ≤ 128
      · have hle' : (ql : Int) + 1 ≤ 128 := by omega
        go_wp2_with (go_at_call 47; (try simp only [hW1']); refine CI3.out.mono ?_; rintro e W2 ⟨gb, go', gc, gs, rfl, hR, hi, ⟨cs, hc⟩, dk⟩; have HH2 := hd hR; clear hR; have d0 : W2.cell? ⟨x, 0, none⟩ = some (.slice (some ⟨g, 0, none⟩) n cap) := (by have := cell_row hi 0; simp [HN.out] at this; exact this); have dg : W2.frozen? ⟨g, k, none⟩ = false := frozen_row hc k; clear hi hc)
        refine bodyPost_ret (results_none rfl _ _ _) rfl ?_
        obtain ⟨z1, z2, z3, z4, z5⟩ := HH2.out
        have Z := put_in H2.out b1.out z5 (by simp only [z2]; omega)
        simp only [Pc.val, z2, HA.out] at Z
        have eC := HC.out
        rw [← eC] at Z
        refine ⟨rfl, _, _, _, Z.1, ?_, Z.2.1, Z.2.2⟩
        rw [tx_mid, HTx.out, z1]
      · obtain rfl : ql = 128 := by omega
        simp only [Nat.reduceAdd] at CI3
        go_wp2_with (go_at_call 47; (try simp only [hW1']); refine CI3.out.mono ?_; rintro e W2 ⟨gb, go', gc, gs, rfl, hR, hi, ⟨cs, hc⟩, dk⟩; have HH2 := hd hR; have hgc : 129 ≤ gc := hR.2.2.1; have hgc2 : gc ≤ 9223372036854775807 := hR.2.2.2.1; clear hR; have d0 : W2.cell? ⟨x, 0, none⟩ = some (.slice (some ⟨g, 0, none⟩) n cap) := (by have := cell_row hi 0; simp [HN.out] at this; exact this); have HI2 := hd hi; clear hi hc dk)
        obtain ⟨W3, hW3⟩ : ∃ W3, W2.drew.alloc (.cells #[.slice (some ⟨gb, go', none⟩) 64 64, .slice (some ⟨gb, go' + 64, none⟩) 65 65] 35) = W3 := ⟨_, rfl⟩
        have b3 : Below W2.heap.size W2 W3 := by rw [← hW3]; exact (below_drew W2).trans ((Below.refl W2.heap.size W2.drew).alloc (Nat.le_refl _) _)
        have B3 := hd b3
        have hv3 : W3.heap[W2.heap.size]? = some (.cells [Pc.val ⟨gb, go', 64, gs.take 64⟩, Pc.val ⟨gb, go' + 64, gs.length - 64, gs.drop 64⟩].toArray 35 (0, 0)) := by
          have e5 := HH2.out.2.1
          have e6 : W3.heap[W2.drew.heap.size]? = some (.cells #[.slice (some ⟨gb, go', none⟩) 64 64, .slice (some ⟨gb, go' + 64, none⟩) 65 65] 35 (0, 0)) := by rw [← hW3]; exact heap_alloc_new W2.drew _
          rw [show W2.heap.size = W2.drew.heap.size from rfl, e6]
          simp [Pc.val, e5]
        have hrow3 : RowF pcv 1 W3 g (ps.take k ++ ⟨qb, qo, qc, qs⟩ :: ps.drop (k + 1)).length cap 35 (ps.take k ++ ⟨qb, qo, qc, qs⟩ :: ps.drop (k + 1)) := by
          obtain ⟨n1, n2, n3⟩ := Hn.out
          obtain ⟨cap', hv', hR'⟩ := H2.out.row
          obtain ⟨-, -, rfl⟩ := Value.slice.inj hv'
          exact ((hR'.fr (Fr.of_below (S := fun _ => False) b1.out) (fun h => h)).fr HH2.out.2.2.2.2.frame n3).fr (Fr.of_below (S := fun _ => False) b3) (fun h => h)
        have hsz2 : g < W2.heap.size := by
          have := HW.out.2
          have := b1.out.size
          have := HH2.out.2.2.2.2.frame.size
          omega
        have CQ : Hid (Calls Try.prog 48 #[.slice (some ⟨g, 0, none⟩) n cap, .int .i64 k, .int .i64 ((k : Int) + 1), .slice (some ⟨W2.heap.size, 0, none⟩) 2 2] W3 fun e w' => ∃ g' a' n' c', e = .returned (.slice a' n' c') ∧ (SF pcv 1 w' 35 (some g') (.slice a' n' c') (ps.take k ++ ⟨gb, go', 64, gs.take 64⟩ :: ⟨gb, go' + 64, gs.length - 64, gs.drop 64⟩ :: ps.drop (k + 1)) ∧ (g' = g ∨ W3.heap.size ≤ g') ∧ Fr (· = g) W3 w') ∧
            w'.cell? ⟨x, 0, none⟩ = some (.slice (some ⟨g, 0, none⟩) n cap) ∧ w'.frozen? ⟨x, 0, none⟩ = false) := by
          have eC := HC.out
          rw [← eC] at hrow3
          have := qreplace_any g cap k W2.heap.size ps ⟨gb, go', 64, gs.take 64⟩ ⟨gb, go' + 64, gs.length - 64, gs.drop 64⟩ W3 hrow3 hk' (by rw [HN.out]; omega) hv3 (by omega)
          rw [HN.out] at this
          refine this.mono ?_
          rintro e w' ⟨g', v', rfl, r1, r2, r3⟩
          obtain ⟨n1, n2, n3⟩ := Hn.out
          have hx4 := r3.keeps ((b3.block x (block_lt HI2.out)).trans HI2.out) n1
          obtain ⟨a', c', rfl, -, -⟩ := r1.form
          refine ⟨g', a', _, c', rfl, ⟨r1, r2, r3⟩, ?_, frozen_row hx4 0⟩
          have := cell_row hx4 0
          simp [HN.out] at this
          exact this
        have d3 : W3.cell? ⟨x, 0, none⟩ = some (.slice (some ⟨g, 0, none⟩) n cap) := by rw [b3.cell (p := ⟨x, 0, none⟩) (block_lt HI2.out)]; exact d0
        have d2 : W2.drew.cell? ⟨x, 0, none⟩ = some (.slice (some ⟨g, 0, none⟩) n cap) := d0
        clear b3 hv3 hrow3
        have g1 : (64 : Int) ≤ (gc : Int) := by omega
        have g2 : (129 : Int) ≤ (gc : Int) := by omega
        have g3 : ¬ gc = 64 := by omega
        have hw1 : IntKind.i64.wrap ((k : Int) + 1) = (k : Int) + 1 := by rw [IntKind.wrap_i64]; omega
        go_region_law (first | (go_simp; go_at_call 48; (try simp only [hW3]); refine CQ.out.mono ?_; rintro e W4 ⟨g', a', n', c', rfl, hR, d4, f4⟩; have HH4 := hd hR; clear hR))
        all_goals
          go_wp2
          refine bodyPost_end (results_none rfl _ _ _) rfl ?_
          obtain ⟨z1, z2, z3, z4, z5⟩ := HH2.out
          obtain ⟨r1, r2, r3⟩ := HH4.out
          have Z := put_two 64 g' _ H2.out b1.out z5 ⟨by omega, by omega⟩ (by simp only [z2]; omega) B3.out r1 r2 r3
          have eC := HC.out
          rw [← eC] at Z
          refine ⟨rfl, _, _, _, Z.1, ?_, Z.2.1, Z.2.2⟩
          rw [tx_mid, HTx.out, ← z1]
          have e7 : ∀ B : List Pc, txP (⟨gb, go' + 64, gs.length - 64, gs.drop 64⟩ :: B) = gs.drop 64 ++ txP B := fun B => by simp [txP]
          rw [e7]
          show txP (ps.take k) ++ (gs.take 64 ++ (gs.drop 64 ++ txP (ps.drop (k + 1)))) = _
          rw [← List.append_assoc (gs.take 64), List.take_append_drop]
end Go.Proofs.Ytlmgogonghafeab
