/-
  NetFresh: grownBytes.
-/
import Derived.Test.YtnglcnilckolkaaGa
namespace Go.Proofs.Ytnglcnilckolkaa
open Go.RowKit
set_option linter.unusedVariables false

theorem formK {e : TypeId} {w : World} {β : Option Nat} {v : Value} {vs : List Value} {n : Nat} (h : SRow w e β v vs) (hn : vs.length = n) : ∃ a c, v = .slice a n c ∧ (0 < n → ∃ g, a = some ⟨g, 0, none⟩ ∧ g < w.heap.size ∧ ∀ i, i < n → w.cell? ⟨g, i, none⟩ = vs[i]?) := by
  subst hn
  cases β with
  | none =>
    obtain ⟨rfl, rfl⟩ := h
    exact ⟨none, 0, rfl, fun h => by simp at h⟩
  | some g =>
    obtain ⟨cap, rfl, hR⟩ := h
    exact ⟨_, cap, rfl, fun _ => ⟨g, rfl, hR.lt, fun i hi => RowV.cell (vs := vs) hR i hi⟩⟩

theorem grown_lo (n i k : Nat) (P : List Int) (h : k < n) : (mkT n i ++ P).getD k 0 = 1 + (i : Int) := by
  have h1 : k < (mkT n i).length := by rw [mkT_len]; exact h
  have h2 : (mkT n i)[k]? = some (1 + (i : Int)) := by
    unfold mkT
    rw [List.getElem?_replicate, if_pos h]
  rw [List.getD_eq_getElem?_getD, List.getElem?_append_left h1, h2]
  rfl
theorem grown_hi (n i k : Nat) (h : n ≤ k) (hk : k < n + 70) : (mkT n i ++ tlT i 70).getD k 0 = 101 + (i : Int) := by
  have h2 : (tlT i 70)[k - n]? = some (101 + (i : Int)) := by
    unfold tlT
    rw [List.getElem?_replicate, if_pos (by omega)]
  rw [List.getD_eq_getElem?_getD, List.getElem?_append_right (by rw [mkT_len]; exact h), mkT_len, h2]
  rfl

set_option maxRecDepth 100000 in
set_option maxHeartbeats 8000000 in
theorem grown_any (gL K Kc : Nat) (Γ : Nat → Option Nat) (N C : Nat → Nat) (T : Nat → List Int) (w : World) (hT : TB w K Γ C T) (hN : ∀ i, i < K → (T i).length = N i) (hL : LC w gL K (VV Γ N C)) (hK : K ≤ 90) (hb : ∀ i, i < K → N i ≤ 1000) (hgL : gL < w.heap.size) (hKc : K ≤ Kc) (hKm : Kc ≤ 9223372036854775807) :
    Calls Try.prog 49 #[.slice (some ⟨gL, 0, none⟩) K Kc] w fun e w' => e = .returned (.bool true) ∧ BFr w w' K Γ := by
  have HN := hd hN
  have Hb := hd hb
  have HB : Hid (∀ j, j < K → ∀ g, Γ j = some g → g < w.heap.size) := fun j hj => (hT.2 j hj).lt
  have HgL := hd hgL
  have S0 : Hid (MRel w w gL K Γ N C T 0) := ⟨by simpa using hT, hL, Fr.refl _ _⟩
  clear hT hN hL hb hgL
  go_enter Try.func49, Try.ntmps49
  go_wp2
  go_loopw [3] (fun i wr => ∃ a : Nat, a ≤ K ∧ i = .int .i64 a ∧ Hid (MRel w wr gL K Γ N C T a)) (fun i _ => K - (intOf i).toNat)
  case atStart => exact ⟨0, Nat.zero_le _, rfl, S0⟩
  case round =>
    obtain ⟨i, hi, rfl, hr⟩ := hrel
    clear S0
    by_cases hlt : i < K
    · have i1 : (i : Int) < (K : Int) := by omega
      have cv := convert_u8 (1 + (i : Int)) (by omega)
      have hNi := hd (HN.out i hlt)
      have hbi := Hb.out i hlt
      have R0 : TR wr (Γ i) (C i) (T i) := by
        have := hr.out.1.2 i hlt
        simpa using this
      have W0 : Hid (TR wr (Γ i) (C i) (List.replicate 0 (1 + (i : Int)) ++ (T i).drop 0) ∧ Fr (fun q => Γ i = some q) wr wr ∧ LC wr gL K (VV Γ N C)) := ⟨by simpa using R0, Fr.refl _ _, hr.out.2.1⟩
      have MR := hd hr.out
      have CN : N i ≤ C i := by rw [← hNi.out]; exact R0.cap.1
      have CM : C i ≤ 9223372036854775807 := R0.cap.2
      clear hr R0
      have hV : Hid (VV Γ N C i = .slice (at0 (Γ i)) (N i) (C i)) := rfl
      generalize hni : N i = ni at *
      generalize hci : C i = ci at *
      generalize hgi : Γ i = γi at *
      have HNI := hd hni
      have HCI := hd hci
      have HGI := hd hgi
      clear hni hci hgi
      have cl0 := W0.out.2.2.cell i hlt
      rw [hV.out] at cl0
      generalize ha : at0 γi = ai at *
      have HA := hd ha
      clear ha
      go_wp2
      go_loopw [4] (fun k wq => ∃ a : Nat, a ≤ ni ∧ k = .int .i64 a ∧ Hid (TR wq γi ci (List.replicate a (1 + (i : Int)) ++ (T i).drop a) ∧ Fr (fun q => γi = some q) wr wq ∧ LC wq gL K (VV Γ N C))) (fun k _ => ni - (intOf k).toNat)
      case atStart => exact ⟨0, Nat.zero_le _, rfl, W0⟩
      case round =>
        obtain ⟨k, hk, rfl, hq⟩ := hrel
        clear W0 cl0
        have cl := hq.out.2.2.cell i hlt
        rw [hV.out] at cl
        by_cases hkn : k < ni
        · have kl : k < (List.replicate k (1 + (i : Int)) ++ (T i).drop k).length := by
            rw [List.length_append, List.length_replicate, List.length_drop, hNi.out]; omega
          obtain ⟨g, hgg, d0, f0⟩ := hq.out.1.cell k kl
          subst hgg
          have HA' := HA.out
          simp only [at0, Option.map] at HA'
          subst HA'
          have i2 : (k : Int) < (ni : Int) := by omega
          have st := hq.out.1.set k kl (1 + (i : Int))
          rw [mark_step _ _ _ (by rw [hNi.out]; exact hkn)] at st
          have F : Fr (fun q => some g = some q) wr (wr.setCell ⟨g, k, none⟩ (.int .u8 (1 + (i : Int)))) := Fr.setCell wr _ _ rfl
          have S2 := hd (And.intro st (And.intro (hq.out.2.1.trans F) (hq.out.2.2.fr F (hq.out.2.2.row hq.out.1))))
          clear st F
          generalize (List.replicate k (1 + (i : Int)) ++ (T i).drop k).getD k 0 = old at d0
          clear hq kl
          go_wp2
          exact ⟨⟨k + 1, by omega, by go_num, S2⟩, by simp [intOf]; omega⟩
        · have M2 : Hid (MRel w wr gL K Γ N C T (i + 1)) := by
            have hkk : k = ni := by omega
            subst hkk
            have hRow := hq.out.1
            rw [List.drop_of_length_le (by rw [hNi.out]; exact Nat.le_refl _), List.append_nil] at hRow
            obtain ⟨t1, t2, t3⟩ := MR.out
            refine ⟨?_, hq.out.2.2, ?_⟩
            · refine t1.upd i hlt (by rw [HGI.out]; exact hq.out.2.1) ?_ ?_ (fun _ _ => rfl)
              · simp only [show i < i + 1 by omega, if_true, mkT, HNI.out, HGI.out, HCI.out]
                exact hRow
              · intro j hj
                by_cases h1 : j < i
                · simp [h1, show j < i + 1 by omega]
                · simp [h1, show ¬ j < i + 1 by omega]
            · exact t3.trans (hq.out.2.1.mono (fun q _ e => ⟨i, hlt, by rw [HGI.out]; exact e⟩))
          clear hq
          go_wp2
          exact ⟨⟨i + 1, by omega, by go_num, M2⟩, by simp [intOf]; omega⟩
    · have i1 : ¬ (i : Int) < (K : Int) := by omega
      have G0 : Hid (GRel w wr gL K Γ N C (.slice none 0 0) 0) := by
        obtain ⟨t1, t2, t3⟩ := hr.out
        refine ⟨fun _ => [], C, fun _ => none, fun _ => 0, [], none, ?_, t2, t3, ⟨rfl, rfl⟩, rfl, fun j hj => by omega, fun _ _ => ⟨rfl, rfl⟩, fun g h => (by cases h)⟩
        refine ⟨t1.1, fun j hj => ?_⟩
        have := t1.2 j hj
        simp only [show j < i by omega, if_true] at this
        simpa using this
      clear hr
      go_wp2
      go_loopw [5, 6] (fun gv ii wq => ∃ a : Nat, a ≤ K ∧ ii = .int .i64 a ∧ Hid (GRel w wq gL K Γ N C gv a)) (fun _ ii _ => K - (intOf ii).toNat)
      case atStart => exact ⟨0, Nat.zero_le _, rfl, G0⟩
      case round =>
        obtain ⟨q, hq, rfl, hg⟩ := hrel
        clear G0
        by_cases hqK : q < K
        · have i2 : (q : Int) < (K : Int) := by omega
          have cv := convert_u8 (101 + (q : Int)) (by omega)
          obtain ⟨P, C', H, D, vs, β, t1, t2, t3, t4, t5, t6, t7, t8⟩ := hg.out
          obtain ⟨va, vc, rfl⟩ := t4.form
          rw [t5]
          have hg' : Hid (GRel w wr gL K Γ N C (.slice va q vc) q) := by
            have := hg.out
            rw [t5] at this
            exact this
          have cl := t2.cell q hqK
          have hr := t1.2 q hqK
          simp only [(t7 q (Nat.le_refl _)).1, (t7 q (Nat.le_refl _)).2, List.append_nil] at hr
          have I0 : Hid (IRel wr wr (Γ q) (N q) q (.slice (at0 (Γ q)) (N q) (C q)) 0) := by
            refine ⟨[], C q, Γ q, C q, rfl, ?_, by simpa using hr, Fr.refl _ _, .inl rfl⟩
            simpa [tlT] using hr
          have hcq := hr.cap
          rw [mkT_len] at hcq
          have hcq1 := hcq.1
          have hcq2 := hcq.2
          have hbq := Hb.out q hqK
          have hBq : Hid (∀ g, Γ q = some g → g < wr.heap.size) := fun g e => Nat.lt_of_lt_of_le (HB.out q hqK g e) t3.size
          clear hg t1 t2 t3 t4 t5 t6 t7 t8 hr hcq
          have II : Hid (∀ wq x, IRel wr wq (Γ q) (N q) q x 70 → ∃ (a : Option Addr) (c : Nat) (v' : Value) (w3 : World), x = .slice a (N q + 70) c ∧ (∀ ty, (Builtin.append_ #[22, 22] ty #[.slice va q vc, .slice (some ⟨wq.heap.size, 0, none⟩) 1 1]).run Try.prog (wq.alloc (.cells #[.slice a (N q + 70) c] 28)) = .ok v' w3) ∧ GRel w w3 gL K Γ N C v' (q + 1)) := fun wq x hx => hg'.out.step hqK hx HB.out HgL.out (by omega)
          clear hg'
          simp only [VV] at cl
          generalize Γ q = γq at *
          generalize N q = nq at *
          generalize C q = cq at *
          generalize at0 γq = aq at *
          go_wp2
          go_loopw [7, 8] (fun x k wq => ∃ a : Nat, a ≤ 70 ∧ k = .int .i64 a ∧ Hid (IRel wr wq γq nq q x a)) (fun _ k _ => 70 - (intOf k).toNat)
          case atStart => exact ⟨0, Nat.zero_le _, rfl, I0⟩
          case round =>
            obtain ⟨k, hk, rfl, hx⟩ := hrel
            clear I0 cl
            obtain ⟨PP, c1, β1, c0, hxv, -⟩ := hx.out
            subst hxv
            generalize at0 β1 = a1 at *
            by_cases hk64 : k < 70
            · have i3 : (k : Int) < 70 := by omega
              obtain ⟨x', w3, hap, hI⟩ := hx.out.push hBq.out (by omega)
              have I3 := hd hI
              clear hx hI
              go_wp2_with (at_builtin; refine wpList_append_k _ rfl _ _ 28 28 rfl _ _ rfl rfl (hap _) ?_)
              exact ⟨⟨k + 1, by omega, by go_num, I3⟩, by simp [intOf]; omega⟩
            · have i3 : ¬ (k : Int) < 70 := by omega
              obtain rfl : k = 70 := by omega
              obtain ⟨a, c, v', w3, hxv, hap, hG⟩ := II.out wr _ hx.out
              obtain ⟨e1, -, e3⟩ := Value.slice.inj hxv
              subst e1
              subst e3
              have G3 := hd hG
              clear hx hG hxv
              go_wp2_with (at_builtin; refine wpList_append_k _ rfl _ _ 22 22 rfl _ _ rfl rfl (hap _) ?_)
              exact ⟨⟨q + 1, by omega, by go_num, G3⟩, by simp [intOf]; omega⟩
        · have i2 : ¬ (q : Int) < (K : Int) := by omega
          obtain ⟨P, C', H, D, vs, β, t1, t2, t3, t4, t5, t6, t7, t8⟩ := hg.out
          have hqq : q = K := by omega
          obtain ⟨va, vc, rfl, hf⟩ := formK t4 (t5.trans hqq)
          have TT := hd t1
          have LL := hd t2
          have BB := hd t3
          have RR : Hid (∀ j, j < K → vs[j]? = some (.slice (at0 (H j)) (N j + 70) (D j)) ∧ TR wr (H j) (D j) (mkT (N j) j ++ tlT j 70)) := fun j hj => ⟨(t6 j (by omega)).1, (t6 j (by omega)).2.1⟩
          have FF := hd hf
          clear hg t1 t2 t3 t4 t5 t6 t7 t8 hf hqq
          go_wp2
          go_loopw [9] (fun ii wq => ∃ a : Nat, a ≤ K ∧ ii = .int .i64 a ∧ wq = wr) (fun ii _ => K - (intOf ii).toNat)
          case atStart => exact ⟨0, Nat.zero_le _, rfl, rfl⟩
          case round =>
            obtain ⟨u, hu, rfl, rfl⟩ := hrel
            by_cases huK : u < K
            · have i3 : (u : Int) < (K : Int) := by omega
              have cv1 := convert_u8 (1 + (u : Int)) (by omega)
              have cv2 := convert_u8 (101 + (u : Int)) (by omega)
              have cl := LL.out.cell u huK
              simp only [VV] at cl
              obtain ⟨gg, rfl, hgg, hcell⟩ := FF.out (by omega)
              obtain ⟨r1, r2⟩ := RR.out u huK
              have cg := (hcell u huK).trans r1
              have RB : Hid (TR wr (Γ u) (C' u) (mkT (N u) u ++ P u)) := TT.out.2 u huK
              have RH := hd r2
              have hbu := Hb.out u huK
              have cH := r2.cap
              rw [List.length_append, mkT_len, tlT_len] at cH
              have cH1 := cH.1
              have cH2 := cH.2
              clear r1 r2 hcell cH
              generalize Γ u = γu at *
              generalize N u = nu at *
              generalize C u = cu at *
              generalize H u = ηu at *
              generalize D u = du at *
              generalize P u = pu at *
              generalize hau : at0 γu = au at *
              generalize hbu2 : at0 ηu = bu at *
              have HAU := hd hau
              have HBU := hd hbu2
              clear hau hbu2
              go_wp2
              go_loopw [11] (fun k wq => ∃ a : Nat, a ≤ nu + 70 ∧ k = .int .i64 a ∧ wq = wr) (fun k _ => nu + 70 - (intOf k).toNat)
              case atStart => exact ⟨0, Nat.zero_le _, rfl, rfl⟩
              case round =>
                obtain ⟨k, hk, rfl, rfl⟩ := hrel
                by_cases hkn : k < nu + 70
                · have i4 : (k : Int) < (nu : Int) + 70 := by omega
                  have lH : (mkT nu u ++ tlT u 70).length = nu + 70 := by rw [List.length_append, mkT_len, tlT_len]
                  obtain ⟨h0, eh, ch, -⟩ := RH.out.cell k (by rw [lH]; exact hkn)
                  subst eh
                  have HBU' := HBU.out
                  simp only [at0, Option.map] at HBU'
                  subst HBU'
                  by_cases hkm : k < nu
                  · have e1 : (mkT nu u ++ tlT u 70).getD k 0 = 1 + (u : Int) := grown_lo nu u k _ hkm
                    rw [e1] at ch
                    have lB : k < (mkT nu u ++ pu).length := by rw [List.length_append, mkT_len]; omega
                    obtain ⟨b0, eb, cb, -⟩ := RB.out.cell k lB
                    have e2 : (mkT nu u ++ pu).getD k 0 = 1 + (u : Int) := grown_lo nu u k _ hkm
                    rw [e2] at cb
                    subst eb
                    have HAU' := HAU.out
                    simp only [at0, Option.map] at HAU'
                    subst HAU'
                    have i5 : (k : Int) < (nu : Int) := by omega
                    clear e1 e2 lB lH
                    go_wp2
                    exact ⟨⟨k + 1, by omega, by go_num, by first | rfl | trivial⟩, by simp [intOf]; omega⟩
                  · have e1 : (mkT nu u ++ tlT u 70).getD k 0 = 101 + (u : Int) := grown_hi nu u k (by omega) hkn
                    rw [e1] at ch
                    have i5 : ¬ (k : Int) < (nu : Int) := by omega
                    clear e1 lH
                    go_wp2
                    exact ⟨⟨k + 1, by omega, by go_num, by first | rfl | trivial⟩, by simp [intOf]; omega⟩
                · go_wp2
                  exact ⟨⟨u + 1, by omega, by go_num, by first | rfl | trivial⟩, by simp [intOf]; omega⟩
            · go_wp2
              go_ret
              exact ⟨rfl, BB.out⟩

end Go.Proofs.Ytnglcnilckolkaa
