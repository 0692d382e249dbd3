/-
  DocFresh: grownElems.
-/
import Derived.Test.YtbgpmekjcepmaabFe
namespace Go.Proofs.Ytbgpmekjcepmaab
open Go.RowKit
set_option linter.unusedVariables false

theorem formK {e : TypeId} {w : World} {β : Option Nat} {v : Value} {vs : List Value} {n : Nat} (h : SRow w e β v vs) (hn : vs.length = n) : ∃ a c, v = .slice a n c ∧ (0 < n → ∃ g, a = some ⟨g, 0, none⟩ ∧ g < w.heap.size ∧ ∀ i, i < n → w.cell? ⟨g, i, none⟩ = vs[i]?) := by
  subst hn
  cases β with
  | none =>
    obtain ⟨rfl, rfl⟩ := h
    exact ⟨none, 0, rfl, fun h => by simp at h⟩
  | some g =>
    obtain ⟨cap, rfl, hR⟩ := h
    exact ⟨_, cap, rfl, fun _ => ⟨g, rfl, hR.lt, fun i hi => RowV.cell (vs := vs) hR i hi⟩⟩

set_option maxRecDepth 100000 in
set_option maxHeartbeats 8000000 in
theorem grown_any (gL K Kc : Nat) (B N C : Nat → Nat) (T : Nat → List El) (w : World) (hT : TB w K B C T) (hN : ∀ i, i < K → (T i).length = N i) (hL : LC w gL K B N C) (hK : K ≤ 100) (hb : ∀ i, i < K → N i ≤ 1000) (hgL : gL < w.heap.size) (hKc : K ≤ Kc) (hKm : Kc ≤ 9223372036854775807) :
    Calls Try.prog 30 #[.slice (some ⟨gL, 0, none⟩) K Kc] w fun e w' => e = .returned (.bool true) ∧ BFr w w' K B := by
  have HN := hd hN
  have Hb := hd hb
  have HB : Hid (∀ j, j < K → B j < w.heap.size) := fun j hj => (hT.2 j hj).lt
  have HgL := hd hgL
  have S0 : Hid (MRel w w gL K B N C T 0) := ⟨by simpa using hT, hL, Fr.refl _ _⟩
  clear hT hN hL hb hgL
  go_enter Try.func30, Try.ntmps30
  go_wp2
  go_loopw [3] (fun i wr => ∃ a : Nat, a ≤ K ∧ i = .int .i64 a ∧ Hid (MRel w wr gL K B N C T a)) (fun i _ => K - (intOf i).toNat)
  case atStart => exact ⟨0, Nat.zero_le _, rfl, S0⟩
  case round =>
    obtain ⟨i, hi, rfl, hr⟩ := hrel
    clear S0
    by_cases hlt : i < K
    · have i1 : (i : Int) < (K : Int) := by omega
      have hNi := hd (HN.out i hlt)
      have hbi := Hb.out i hlt
      have R0 : RowE wr (B i) (T i).length (C i) (T i) := by
        have := hr.out.1.2 i hlt
        simpa using this
      rw [hNi.out] at R0
      have W0 : Hid (WRel wr wr (B i) (N i) (C i) (T i) (mkE i) 0 ∧ LC wr gL K B N C) := ⟨⟨by simpa using R0, Fr.refl _ _⟩, hr.out.2.1⟩
      have MR := hd hr.out
      have RT : Hid (∃ cur2, wr.heap[B i]? = some (.cells cur2 46 (0, 0))) := by
        obtain ⟨cur2, h, _⟩ := R0
        exact ⟨_, h⟩
      have CN : N i ≤ C i := R0.isE.2.1
      have CM : C i ≤ 9223372036854775807 := R0.isE.2.2.1
      clear hr R0
      generalize hni : N i = ni at *
      generalize hci : C i = ci at *
      generalize hbbi : B i = bi at *
      go_wp2
      go_loopw [4] (fun k wq => ∃ a : Nat, a ≤ ni ∧ k = .int .i64 a ∧ Hid (WRel wr wq bi ni ci (T i) (mkE i) a ∧ LC wq gL K B N C)) (fun k _ => ni - (intOf k).toNat)
      case atStart => exact ⟨0, Nat.zero_le _, rfl, W0⟩
      case round =>
        obtain ⟨k, hk, rfl, hq⟩ := hrel
        clear W0
        have cl := hq.out.2.cell i hlt
        rw [hni, hci, hbbi] at cl
        by_cases hkn : k < ni
        · obtain ⟨⟨a0, d0⟩, ⟨a1, d1⟩, ⟨a2, d2⟩⟩ := hq.out.1.1.cells k hkn
          have f0 := hq.out.1.1.frozen (k * 3)
          have f1 := hq.out.1.1.frozen (k * 3 + 1)
          have f2 := hq.out.1.1.frozen (k * 3 + 2)
          have i2 : (k : Int) < (ni : Int) := by omega
          have ST := hq.out.1.step hNi.out hkn 0 (-1 - (i : Int)) k rfl
          have S2 : Hid (WRel _ _ bi ni ci (T i) (mkE i) (k + 1) ∧ LC _ gL K B N C) := ⟨ST, by
            obtain ⟨cur, h1, h2⟩ := hq.out.2
            obtain ⟨cur2, h3⟩ := hq.out.1.1
            refine ⟨cur, ?_, h2⟩
            have hne : ¬ gL = bi := by
              rintro rfl
              rw [h3.1] at h1
              have := Option.some.inj h1
              injection this with e1 e2
              exact absurd e2 (by decide)
            have F : Fr (· = bi) wr _ := ((Fr.setCell (S := (· = bi)) wr ⟨bi, k * 3, none⟩ (.int .u8 0) rfl).trans (Fr.setCell _ ⟨bi, k * 3 + 1, none⟩ (.int .i64 (-1 - (i : Int))) rfl)).trans (Fr.setCell _ ⟨bi, k * 3 + 2, none⟩ (.int .i64 k) rfl)
            exact F.keeps h1 hne⟩
          clear hq ST
          go_wp2
          exact ⟨⟨k + 1, by omega, by go_num, S2⟩, by simp [intOf]; omega⟩
        · have M2 : Hid (MRel w wr gL K B N C T (i + 1)) := by
            have hkk : k = ni := by omega
            subst hkk
            have hRow := hq.out.1.1
            rw [List.drop_of_length_le (by rw [hNi.out]; exact Nat.le_refl _), List.append_nil] at hRow
            obtain ⟨t1, t2, t3⟩ := MR.out
            refine ⟨?_, hq.out.2, ?_⟩
            · refine t1.upd i hlt (by rw [hbbi]; exact hq.out.1.2) ?_ ?_
              · simp only [show i < i + 1 by omega, if_true, mkT, hni, hbbi, hci]
                simpa using hRow
              · intro j hj
                by_cases h1 : j < i
                · simp [h1, show j < i + 1 by omega]
                · simp [h1, show ¬ j < i + 1 by omega]
            · exact t3.trans (hq.out.1.2.mono (fun q _ e => ⟨i, hlt, by rw [e]; exact hbbi⟩))
          clear hq
          go_wp2
          exact ⟨⟨i + 1, by omega, by go_num, M2⟩, by simp [intOf]; omega⟩
    · have i1 : ¬ (i : Int) < (K : Int) := by omega
      have G0 : Hid (GRel w wr gL K B N C (.slice none 0 0) 0) := by
        obtain ⟨t1, t2, t3⟩ := hr.out
        refine ⟨fun _ => [], fun _ => 0, fun _ => 0, [], none, ?_, t2, t3, ⟨rfl, rfl⟩, rfl, fun j hj => by omega, fun _ _ => rfl, fun g h => (by cases h)⟩
        refine ⟨t1.1, fun j hj => ?_⟩
        have := t1.2 j hj
        simp only [show j < i by omega, if_true] at this
        simpa using this
      clear hr
      go_wp2
      go_loopw [5, 6] (fun gv ii wq => ∃ a : Nat, a ≤ K ∧ ii = .int .i64 a ∧ Hid (GRel w wq gL K B N C gv a)) (fun _ ii _ => K - (intOf ii).toNat)
      case atStart => exact ⟨0, Nat.zero_le _, rfl, G0⟩
      case round =>
        obtain ⟨q, hq, rfl, hg⟩ := hrel
        clear G0
        by_cases hqK : q < K
        · have i2 : (q : Int) < (K : Int) := by omega
          obtain ⟨P, H, D, vs, β, t1, t2, t3, t4, t5, t6, t7, t8⟩ := hg.out
          obtain ⟨va, vc, rfl⟩ := t4.form
          rw [t5]
          have hg' : Hid (GRel w wr gL K B N C (.slice va q vc) q) := by
            have := hg.out
            rw [t5] at this
            exact this
          have cl := t2.cell q hqK
          have I0 : Hid (IRel wr wr (B q) (N q) (C q) q (.slice (some ⟨B q, 0, none⟩) (N q) (C q)) 0) := by
            have hr := t1.2 q hqK
            simp only [t7 q (Nat.le_refl _)] at hr
            refine ⟨[], B q, C q, rfl, ?_, hr, Fr.refl _ _, .inl ⟨rfl, rfl⟩⟩
            simp only [tlT, List.range_zero, List.map_nil, Nat.add_zero]
            simpa [mkT_len] using hr
          have hbq := Hb.out q hqK
          have hBq : Hid (B q < wr.heap.size) := Nat.lt_of_lt_of_le (HB.out q hqK) t3.size
          clear hg t1 t2 t3 t4 t5 t6 t7 t8
          have II : Hid (∀ wq x, IRel wr wq (B q) (N q) (C q) q x 64 → ∃ (g c : Nat) (v' : Value) (w3 : World), x = .slice (some ⟨g, 0, none⟩) (N q + 64) c ∧ (∀ ty, (Builtin.append_ #[54, 54] ty #[.slice va q vc, .slice (some ⟨wq.heap.size, 0, none⟩) 1 1]).run Try.prog (wq.alloc (.cells #[.slice (some ⟨g, 0, none⟩) (N q + 64) c] 22)) = .ok v' w3) ∧ GRel w w3 gL K B N C v' (q + 1)) := fun wq x hx => hg'.out.step hqK hx HB.out HgL.out (by omega)
          clear hg'
          generalize B q = bq at *
          generalize N q = nq at *
          generalize C q = cq at *
          go_wp2
          go_loopw [7, 8] (fun x k wq => ∃ a : Nat, a ≤ 64 ∧ k = .int .i64 a ∧ Hid (IRel wr wq bq nq cq q x a)) (fun _ k _ => 64 - (intOf k).toNat)
          case atStart => exact ⟨0, Nat.zero_le _, rfl, I0⟩
          case round =>
            obtain ⟨k, hk, rfl, hx⟩ := hrel
            clear I0
            obtain ⟨PP, g0, c0, hxv, -⟩ := hx.out
            subst hxv
            by_cases hk64 : k < 64
            · have i3 : (k : Int) < 64 := by omega
              obtain ⟨x', w3, hap, hI, -⟩ := hx.out.push hBq.out (by omega)
              have I3 := hd hI
              simp only [elc, tlE] at hap
              clear hx hI
              go_wp2_with (at_builtin; refine wpList_append_k _ rfl _ _ 22 22 rfl _ _ rfl rfl (hap _) ?_)
              exact ⟨⟨k + 1, by omega, by go_num, I3⟩, by simp [intOf]; omega⟩
            · have i3 : ¬ (k : Int) < 64 := by omega
              obtain rfl : k = 64 := by omega
              obtain ⟨g, c, v', w3, hxv, hap, hG⟩ := II.out wr _ hx.out
              obtain ⟨e1, -, e3⟩ := Value.slice.inj hxv
              have e1' := Option.some.inj e1
              simp at e1'
              subst e1'
              subst e3
              have G3 := hd hG
              clear hx hG hxv e1
              go_wp2_with (at_builtin; refine wpList_append_k _ rfl _ _ 54 54 rfl _ _ rfl rfl (hap _) ?_)
              exact ⟨⟨q + 1, by omega, by go_num, G3⟩, by simp [intOf]; omega⟩
        · have i2 : ¬ (q : Int) < (K : Int) := by omega
          obtain ⟨P, H, D, vs, β, t1, t2, t3, t4, t5, t6, t7, t8⟩ := hg.out
          have hqq : q = K := by omega
          obtain ⟨va, vc, rfl, hf⟩ := formK t4 (t5.trans hqq)
          have TT := hd t1
          have LL := hd t2
          have BB := hd t3
          have RR : Hid (∀ j, j < K → vs[j]? = some (.slice (some ⟨H j, 0, none⟩) (N j + 64) (D j)) ∧ RowE wr (H j) (N j + 64) (D j) (mkT (N j) j ++ tlT j 64)) := fun j hj => ⟨(t6 j (by omega)).1, (t6 j (by omega)).2.1⟩
          have FF := hd hf
          clear hg t1 t2 t3 t4 t5 t6 t7 t8 hf hqq
          go_wp2
          go_loopw [9] (fun ii wq => ∃ a : Nat, a ≤ K ∧ ii = .int .i64 a ∧ wq = wr) (fun ii _ => K - (intOf ii).toNat)
          case atStart => exact ⟨0, Nat.zero_le _, rfl, rfl⟩
          case round =>
            obtain ⟨u, hu, rfl, rfl⟩ := hrel
            by_cases huK : u < K
            · have i3 : (u : Int) < (K : Int) := by omega
              have cl := LL.out.cell u huK
              obtain ⟨gg, rfl, hgg, hcell⟩ := FF.out (by omega)
              obtain ⟨r1, r2⟩ := RR.out u huK
              have cg := (hcell u huK).trans r1
              have RB : Hid (RowE wr (B u) (mkT (N u) u ++ P u).length (C u) (mkT (N u) u ++ P u)) := TT.out.2 u huK
              have RH := hd r2
              have hbu := Hb.out u huK
              clear r1 r2 hcell
              have cB1 := RB.out.isE.2.2.1
              have cH1 := RH.out.isE.2.1
              have cH2 := RH.out.isE.2.2.1
              generalize B u = bu at *
              generalize N u = nu at *
              generalize C u = cu at *
              generalize H u = hu' at *
              generalize D u = du at *
              generalize P u = pu at *
              go_wp2
              go_loopw [11] (fun k wq => ∃ a : Nat, a ≤ nu + 64 ∧ k = .int .i64 a ∧ wq = wr) (fun k _ => nu + 64 - (intOf k).toNat)
              case atStart => exact ⟨0, Nat.zero_le _, rfl, rfl⟩
              case round =>
                obtain ⟨k, hk, rfl, rfl⟩ := hrel
                by_cases hkn : k < nu + 64
                · have i4 : (k : Int) < (nu : Int) + 64 := by omega
                  have lH : (mkT nu u ++ tlT u 64).length = nu + 64 := by rw [List.length_append, mkT_len, tlT_len]
                  obtain ⟨h0, h1, h2⟩ := RH.out.isE.at k hkn (by rw [lH]; exact hkn)
                  simp only [Nat.zero_add] at h0 h1 h2
                  by_cases hkm : k < nu
                  · have e1 : (mkT nu u ++ tlT u 64)[k]'(by rw [lH]; exact hkn) = mkE u k := by
                      rw [List.getElem_append_left (by rw [mkT_len]; exact hkm)]
                      simp [mkT]
                    rw [e1] at h0 h1 h2
                    have lB : k < (mkT nu u ++ pu).length := by rw [List.length_append, mkT_len]; omega
                    obtain ⟨b0, b1, b2⟩ := RB.out.isE.at k lB lB
                    have e2 : (mkT nu u ++ pu)[k]'lB = mkE u k := by
                      rw [List.getElem_append_left (by rw [mkT_len]; exact hkm)]
                      simp [mkT]
                    rw [e2] at b0 b1 b2
                    simp only [Nat.zero_add, mkE] at h0 h1 h2 b0 b1 b2
                    have i5 : (k : Int) < (nu : Int) := by omega
                    clear e1 e2 lB lH
                    go_wp2
                    exact ⟨⟨k + 1, by omega, by go_num, by first | rfl | trivial⟩, by simp [intOf]; omega⟩
                  · have e1 : (mkT nu u ++ tlT u 64)[k]'(by rw [lH]; exact hkn) = tlE u (k - nu) := by
                      rw [List.getElem_append_right (by rw [mkT_len]; omega)]
                      simp [tlT, mkT_len]
                    rw [e1] at h0 h1 h2
                    obtain ⟨p, rfl⟩ : ∃ p, k = nu + p := ⟨k - nu, by omega⟩
                    simp only [tlE, show nu + p - nu = p by omega] at h0 h1 h2
                    have i5 : ¬ ((nu + p : Nat) : Int) < (nu : Int) := by omega
                    have i6 : ((nu + p : Nat) : Int) - (nu : Int) = (p : Int) := by omega
                    clear e1 lH
                    go_wp2
                    exact ⟨⟨nu + p + 1, by omega, by go_num, by first | rfl | trivial⟩, by simp [intOf]; omega⟩
                · go_wp2
                  exact ⟨⟨u + 1, by omega, by go_num, by first | rfl | trivial⟩, by simp [intOf]; omega⟩
            · go_wp2
              go_ret
              exact ⟨rfl, BB.out⟩

end Go.Proofs.Ytbgpmekjcepmaab
