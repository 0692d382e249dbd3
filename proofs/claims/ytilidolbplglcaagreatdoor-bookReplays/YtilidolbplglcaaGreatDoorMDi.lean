/-
  Texts put together: Di Dj Sb.
-/
import Derived.Test.YtilidolbplglcaaGreatDoorMDg
import Derived.Test.YtilidolbplglcaaGreatDoorMRows2
import Derived.Test.YtilidolbplglcaaGreatDoorMUb
/-! Di -/
namespace Go.Proofs.YtilidolbplglcaaGreatDoor
open Go.RowKit
set_option linter.unusedVariables false

theorem insert_split {α : Type} (x : α) : ∀ (l : List α) (n : Nat), n ≤ l.length → l.insertIdx n x = l.take n ++ x :: l.drop n
  | l, 0, _ => by simp
  | [], n + 1, h => by simp at h
  | y :: l, n + 1, h => by
    rw [List.insertIdx_succ_cons, insert_split x l n (by simpa using h)]
    simp
theorem apply_put {xs : List El} {o : OpE} (hf : FitO xs.length o) : applyP xs o = putP xs o := by
  obtain ⟨k, p, c, l, s⟩ := o
  rcases hf with ⟨h1, -⟩ | ⟨h1, q, hq, hl⟩ | ⟨h1, q, hq, hl⟩
  · simp only at h1
    subst h1
    simp [applyP, putP_nop]
  · simp only at h1 hq
    subst h1 hq
    rw [putP_ins, insert_split _ _ _ hl]
    simp [applyP]
  · simp only at h1 hq
    subst h1 hq
    rw [putP_del, List.eraseIdx_eq_take_drop_succ]
    simp [applyP]
/-- Each done form fits. -/
theorem BI.fits {E : List Ed} {D : List OpE} (h : BI E D) {i : Nat} (hi : i < D.length) : fitsP ((runP [] (D.take i)).length : Int) D[i] = 0 ∧ applyP (runP [] (D.take i)) D[i] = runP [] (D.take (i + 1)) := by
  have h1 := h.fit
  rw [← List.take_append_drop i D, fitL_app, List.drop_eq_getElem_cons hi] at h1
  obtain ⟨h2, h3, -⟩ := h1
  have h4 := runP_len _ _ h2
  have h5 := h.bound
  have h6 := h.len
  refine ⟨fit_fits (h.dval _ (List.getElem_mem hi)) h3 (by simp at h4; omega), ?_⟩
  rw [apply_put h3, List.take_succ_eq_append_getElem hi, runP_app]
  rfl

section
variable {w : World} {x : Nat} {aE aD aN : Option Addr} {cE cD cN : Nat} {vK : Value} {E : List Ed} {D : List OpE}
set_option maxRecDepth 100000 in
set_option maxHeartbeats 4000000 in
theorem bdoc_any (h : RBr w x aE aD aN cE cD cN vK E D) (hJ : BJ E D) :
    Calls Tryz.prog 18 #[.pointer (some ⟨x, 0, none⟩), .int .i64 (E.length : Int)] w fun r w' => ∃ v, r = .returned (.tuple #[v, .int .i64 0]) ∧ (∃ β, SE w' β v (runP [] D) ∧ ∀ g, β = some g → w.heap.size ≤ g) ∧ Below w.heap.size w w' := by
  have HR := hd h
  obtain ⟨n, hn⟩ : ∃ n, E.length = n := ⟨_, rfl⟩
  have hn96 : n ≤ 4096 := by have := h.b; omega
  have HJ := hd hJ
  have HN := hd hn
  have hlD : D.length = n := hJ.b.len.trans hn
  have HLD := hd hlD
  obtain ⟨c1, c2, -, -⟩ := h.cells
  rw [hn] at c1 c2 ⊢
  clear h hJ hn hlD
  have i1 : ¬ ((n : Int) < 0) := by omega
  have i2 : ¬ ((n : Int) < (n : Int)) := by omega
  go_enter Tryz.func18, Tryz.ntmps18
  go_wp2_with fail
  clear c1 c2
  go_loopw [6, 7] (fun v i wr => ∃ q : Nat, q ≤ n ∧ i = .int .i64 (q : Int) ∧ Hid ((∃ β, SE wr β v (runP [] (D.take q)) ∧ ∀ g, β = some g → w.heap.size ≤ g) ∧ Below w.heap.size w wr)) (fun _ i _ => n - (intOf i).toNat)
  case atStart => exact ⟨0, Nat.zero_le _, rfl, ⟨none, ⟨rfl, rfl⟩, fun g hg => by cases hg⟩, Below.refl _ _⟩
  case round =>
    obtain ⟨q, hq, rfl, HS⟩ := hrel
    obtain ⟨⟨β, hse, hβ⟩, hb⟩ := HS.out
    obtain ⟨aV, cV, hvV, hIs, -⟩ := hse.form
    subst hvV
    by_cases hql : q < n
    · have hqD : q < D.length := by have := HLD.out; omega
      obtain ⟨f1, f2⟩ := HJ.out.b.fits hqD
      have hr := HR.out.below hb
      obtain ⟨-, c2, -, -⟩ := hr.cells
      obtain ⟨bD, oD, rfl, lD⟩ := hr.d.addr (by have := HN.out; omega)
      have hcD := hr.d.at q (by have := HN.out; omega) hqD
      obtain ⟨⟨dk, dp, dc, dl, ds⟩, hdq⟩ : ∃ z, D[q] = z := ⟨_, rfl⟩
      rw [hdq] at f1 f2 hcD
      obtain ⟨v0, v1, v2, v3, v4⟩ := hcD
      simp only at v0 v1 v2 v3 v4
      rw [HN.out] at c2
      have CA := hd (rapply_good aV (runP [] (D.take q)).length cV dk dp dc dl ds (runP [] (D.take q)) (runP [] (D.take (q + 1))) _ wr hIs f1 f2.symm rfl)
      have i3 : (q : Int) < (n : Int) := by omega
      have hE3 : wrap64 ((q : Int) + 1) = ((q + 1 : Nat) : Int) := by rw [wrap64]; omega
      have HBB := hd hb
      clear hse hβ hb hr f1 f2 hdq hIs HS
      go_wp2_with (go_at_call 32; refine CA.out.mono ?_; rintro e u ⟨v, rfl, hO, bu⟩; obtain ⟨g, hg1, hg2⟩ := hO; obtain ⟨a2, c2', hv2, -, -⟩ := hg2.form; subst hv2)
      exact ⟨⟨q + 1, by omega, by go_num, ⟨some g, hg2, fun g' hg' => by injection hg' with hg'; subst hg'; exact Nat.le_trans HBB.out.size hg1⟩, HBB.out.trans (bu.mono HBB.out.size)⟩, by simp [intOf]; omega⟩
    · obtain rfl : q = n := by omega
      have e : D.take q = D := List.take_of_length_le (by have := HLD.out; omega)
      rw [e] at HS hse hIs ⊢
      clear hIs hse hb hβ
      go_wp2_with fail
      go_ret2
      exact ⟨_, rfl, HS.out.1, HS.out.2⟩
end

end Go.Proofs.YtilidolbplglcaaGreatDoor

/-! Dj -/
namespace Go.Proofs.YtilidolbplglcaaGreatDoor
open Go.RowKit
set_option linter.unusedVariables false

set_option maxRecDepth 100000 in
theorem bempty_any (w : World) : Calls Tryz.prog 16 #[.pointer none] w fun e w' => e = .returned (.pointer (some ⟨w.heap.size + 1, 0, none⟩)) ∧ w' = (w.alloc (.cells #[.int .i64 0] 3)).alloc (.cells #[.pointer none, .slice none 0 0, .slice none 0 0, .slice (some ⟨w.heap.size, 0, none⟩) 1 1, .slice none 0 0, .int .i64 0] 56) := by
  go_enter Tryz.func16, Tryz.ntmps16
  go_wp2
  go_ret
  exact ⟨by simp, rfl⟩

/-- A new book that has had one boot. -/
theorem RBs.first (w : World) : RBs w ((w.alloc (.cells #[.int .i64 0] 3)).alloc (.cells #[.pointer none, .slice none 0 0, .slice none 0 0, .slice (some ⟨w.heap.size, 0, none⟩) 1 1, .slice none 0 0, .int .i64 1] 56)) (w.heap.size + 1) [] [] (nsL []) [] (.slice none 0 0) (.slice none 0 0) (.slice (some ⟨w.heap.size, 0, none⟩) 1 1) (.slice none 0 0) none none (some w.heap.size) none := by
  obtain ⟨hb, h1, h2⟩ := box2 w (.cells #[.int .i64 0] 3) (.cells #[.pointer none, .slice none 0 0, .slice none 0 0, .slice (some ⟨w.heap.size, 0, none⟩) 1 1, .slice none 0 0, .int .i64 1] 56)
  exact ⟨h2, ⟨rfl, rfl⟩, ⟨rfl, rfl⟩, ⟨1, rfl, [.int .i64 0], h1, rfl, rfl, Nat.le_refl _, by omega, rfl⟩, ⟨rfl, rfl⟩, fun g _ h => (by cases h), ⟨by omega, fun g h => (by cases h), fun g h => (by cases h), fun g h => (by injection h with h; omega), fun g h => (by cases h)⟩, hb⟩

/-- Where the document's Replay is. -/
structure RpI (w wr : World) (x : Nat) (es : List Ed) (i : Nat) : Prop where
  ex : ∃ D KK vE vD vN vK βE βD βN βK, RBs w wr x (es.take i) D (nsL D) KK vE vD vN vK βE βD βN βK ∧ BJ (es.take i) D ∧ KK.length = i ∧ repP es [] [] 0 = repP (es.drop i) (es.take i) D i
/-- What the document's Replay answers. -/
structure RpP (w w' : World) (es : List Ed) (vD vT : Value) (code at' : Int) : Prop where
  ex : ∃ D E, BJ E D ∧ repP es [] [] 0 = (D, code, at') ∧ (∃ β, SF opc 5 w' 46 β vD D ∧ ∀ g, β = some g → w.heap.size ≤ g) ∧ (∃ β, SE w' β vT (runP [] D) ∧ ∀ g, β = some g → w.heap.size ≤ g)
  bel : Below w.heap.size w w'

set_option maxRecDepth 100000 in
set_option maxHeartbeats 8000000 in
theorem breplay_any (aL : Option Addr) (nL cL : Nat) (es : List Ed) (w : World) (hL : IsL w aL nL es) :
    Calls Tryz.prog 5 #[.slice aL nL cL] w fun r w' => ∃ vD vT code at', r = .returned (.tuple #[vD, vT, .int .i64 code, .int .i64 at']) ∧ RpP w w' es vD vT code at' := by
  have HL := hd (fun u (hu : Below w.heap.size w u) => hL.below hu (Nat.le_refl _))
  have HN := hd hL.1
  have C0 := hd (bempty_any w)
  have S0 : Hid (RpI w ((w.alloc (.cells #[.int .i64 0] 3)).alloc (.cells #[.pointer none, .slice none 0 0, .slice none 0 0, .slice (some ⟨w.heap.size, 0, none⟩) 1 1, .slice none 0 0, .int .i64 1] 56)) (w.heap.size + 1) es 0) := ⟨[], [], _, _, _, _, _, _, _, _, RBs.first w, BJ.nil, rfl, rfl⟩
  obtain ⟨-, -, hx⟩ := box2 w (.cells #[.int .i64 0] 3) (.cells #[.pointer none, .slice none 0 0, .slice none 0 0, .slice (some ⟨w.heap.size, 0, none⟩) 1 1, .slice none 0 0, .int .i64 0] 56)
  have c5 := cell_row hx 5
  have f5 := frozen_row hx 5
  simp at c5
  clear hx hL
  go_enter Tryz.func5, Tryz.ntmps5
  go_wp2_with (go_at_call 16; refine C0.out.mono ?_; rintro e u ⟨rfl, hu⟩; subst hu)
  generalize (w.alloc (.cells #[.int .i64 0] 3)).alloc (.cells #[.pointer none, .slice none 0 0, .slice none 0 0, .slice (some ⟨w.heap.size, 0, none⟩) 1 1, .slice none 0 0, .int .i64 1] 56) = w1 at *
  clear C0 c5 f5
  go_loopw [7] (fun v wr => ∃ i : Nat, i ≤ nL ∧ v = .int .i64 (i : Int) ∧ Hid (RpI w wr (w.heap.size + 1) es i)) (fun v _ => nL - (intOf v).toNat)
  case atStart => exact ⟨0, Nat.zero_le _, rfl, S0⟩
  case round =>
    obtain ⟨i, hi, rfl, HS⟩ := hrel
    clear S0
    obtain ⟨D, KK, vE, vD, vN, vK, βE, βD, βN, βK, hB, hJ, hKl, hrep⟩ := HS.out.ex
    obtain ⟨aE, aD, aN, cE, cD, cN, e1, e2, e3, hr⟩ := hB.rd hJ
    have hlen : (es.take i).length = i := by rw [List.length_take]; have := HN.out; omega
    have hi96 : i ≤ 4096 := by have := hJ.b.bound; omega
    have HB := hd hB
    have HJ := hd hJ
    have CD : Hid (∀ W, Below wr.heap.size wr W → Calls Tryz.prog 18 #[.pointer (some ⟨w.heap.size + 1, 0, none⟩), .int .i64 (i : Int)] W fun r w' => ∃ v, r = .returned (.tuple #[v, .int .i64 0]) ∧ (∃ β, SE w' β v (runP [] D) ∧ ∀ g, β = some g → W.heap.size ≤ g) ∧ Below W.heap.size W w') := fun W hW => by
      have h := bdoc_any (hr.below hW) hJ
      rw [hlen] at h
      exact h
    have CX : Hid (∀ W, Below wr.heap.size wr W → W.cell? ⟨w.heap.size + 1, 1, none⟩ = some (.slice aE i cE) ∧ W.cell? ⟨w.heap.size + 1, 2, none⟩ = some (.slice aD i cD)) := fun W hW => by
      obtain ⟨x1, x2, -, -⟩ := (hr.below hW).cells
      rw [hlen] at x1 x2
      exact ⟨x1, x2⟩
    have FIN : Hid (∀ (W w' : World) (v : Value) (code at' : Int), Below wr.heap.size wr W → Below W.heap.size W w' → (∃ β, SE w' β v (runP [] D) ∧ ∀ g, β = some g → W.heap.size ≤ g) → repP es [] [] 0 = (D, code, at') → RpP w w' es (.slice aD i cD) v code at') := fun W w' v code at' h1 h2 h3 h4 => by
      have hb := h1.trans (h2.mono h1.size)
      have h5 := HB.out.below hb
      obtain ⟨β, k1, k2⟩ := h3
      refine ⟨⟨D, _, HJ.out, h4, ⟨βD, ?_, h5.lo.2.2.1⟩, β, k1, fun g hg => Nat.le_trans (Nat.le_trans HB.out.bel.size h1.size) (k2 g hg)⟩, h5.bel⟩
      have h6 := h5.d
      rw [e2, hlen] at h6
      exact h6
    by_cases hil : i < nL
    · have hiE : i < es.length := by have := HN.out; omega
      obtain ⟨bE, oE, rfl, lE, hcE⟩ := (HL.out wr hB.bel).2 (by omega)
      obtain ⟨x0, x1, x2, x3, x4, x5⟩ := hcE i hiE
      have hdr : es.drop i = es[i] :: es.drop (i + 1) := List.drop_eq_getElem_cons hiE
      have htk : es.take (i + 1) = es.take i ++ [es[i]] := List.take_succ_eq_append_getElem hiE
      have CC := hd (bcheck_any hr hJ es[i])
      have CT := hd (fun (W : World) (hW : Below wr.heap.size wr W) (h0 : chkP (es.take i) D es[i] = 0) => btake_any (hB.below hW) hJ es[i] h0 (by omega))
      have HRP := hd hrep
      have HTK := hd htk
      rw [hdr] at HRP
      obtain ⟨⟨et, ⟨ek, ep, ec, el, es'⟩⟩, hee⟩ : ∃ z, es[i] = z := ⟨_, rfl⟩
      rw [hee] at x0 x1 x2 x3 x4 x5 CC CT HRP HTK
      simp only at x0 x1 x2 x3 x4 x5 CC CT HRP HTK
      have i1 : (i : Int) < (nL : Int) := by omega
      have hE3 : wrap64 ((i : Int) + 1) = ((i + 1 : Nat) : Int) := by rw [wrap64]; omega
      have HCB := hd hcE
      have hmeas : nL - (i + 1) < nL - i := by omega
      clear hcE hdr htk hB hJ hr hrep hee e1 e2 e3 HS
      obtain ⟨ck, hck⟩ : ∃ z, chkP (es.take i) D ⟨et, ⟨ek, ep, ec, el, es'⟩⟩ = z := ⟨_, rfl⟩
      have HCK := hd hck
      rw [hck] at CC
      clear hck
      by_cases hc0 : ck = 0
      · subst hc0
        have NX : Hid (∀ W, Below wr.heap.size wr W → Calls Tryz.prog 19 #[.pointer (some ⟨w.heap.size + 1, 0, none⟩), .agg #[.int .i64 et, .int .i64 ek, .int .i64 ep, .int .u8 ec, .int .i64 el, .int .i64 es']] W fun r w' => (∃ v, r = .returned v) ∧ RpI w w' (w.heap.size + 1) es (i + 1)) := fun W hW => (CT.out W hW HCK.out).mono (fun r w' ⟨h1, vE', vD', vN', vK', b1, b2, b3, b4, h2⟩ => ⟨h1, ⟨_, _, _, _, _, _, _, _, _, _, by rw [HTK.out]; exact h2, by rw [HTK.out]; exact HJ.out.add HCK.out, by simp [hKl], by
          have h := HRP.out
          simp only [repP] at h
          rw [if_pos HCK.out] at h
          rw [HTK.out]
          exact h⟩⟩)
        clear CT HRP HTK FIN CD CX HB
        go_upto_region 10 with (go_at_call 17; refine CC.out.mono ?_; rintro e u ⟨rfl, bu⟩)
        have y0 := (bu.cell (p := ⟨bE, oE + i * 6, none⟩) lE).trans x0
        have y1 := (bu.cell (p := ⟨bE, oE + i * 6 + 1, none⟩) lE).trans x1
        have y2 := (bu.cell (p := ⟨bE, oE + i * 6 + 2, none⟩) lE).trans x2
        have y3 := (bu.cell (p := ⟨bE, oE + i * 6 + 3, none⟩) lE).trans x3
        have y4 := (bu.cell (p := ⟨bE, oE + i * 6 + 4, none⟩) lE).trans x4
        have y5 := (bu.cell (p := ⟨bE, oE + i * 6 + 5, none⟩) lE).trans x5
        have C2 := hd (NX.out u bu)
        clear x0 x1 x2 x3 x4 x5 CC NX bu
        go_wp2_with (go_at_call 19; refine C2.out.mono ?_; rintro e u2 ⟨⟨vr, rfl⟩, hI⟩; have HI := hd hI; clear hI)
        exact ⟨⟨i + 1, by omega, by go_num, HI⟩, by simp [intOf]; omega⟩
      · have hcb : (ck == 0) = false := by simpa using hc0
        have F2 := hd (fun (W w' : World) (v : Value) h1 h2 h3 => FIN.out W w' v ck (i : Int) h1 h2 h3 (by
          have h := HRP.out
          simp only [repP] at h
          rw [if_neg (by rw [HCK.out]; exact hc0), HCK.out] at h
          exact h))
        clear FIN CT HRP HTK HB
        go_upto_region 8 with (go_at_call 17; refine CC.out.mono ?_; rintro e u ⟨rfl, bu⟩)
        obtain ⟨c1, c2⟩ := CX.out u bu
        have C2 := hd (CD.out u bu)
        have BU := hd bu
        clear x0 x1 x2 x3 x4 x5 CC bu CD
        go_wp2_with (go_at_call 18; refine C2.out.mono ?_; rintro e u2 ⟨v, rfl, hv, b2⟩; obtain ⟨z1, z2⟩ := CX.out u2 (BU.out.trans (b2.mono BU.out.size)); obtain ⟨β, hse, hβ⟩ := hv; obtain ⟨aT, cT, hvT, -, -⟩ := hse.form; subst hvT; have HSE := hd (And.intro hse hβ); clear hse hβ)
        refine bodyPost_ret (v := .tuple #[.slice aD i cD, .slice aT (runP [] D).length cT, .int .i64 ck, .int .i64 (i : Int)]) (by simp [results, Tryz.results5, go_sem]) rfl ?_
        exact ⟨_, _, _, _, rfl, F2.out u u2 _ BU.out b2 ⟨β, HSE.out.1, HSE.out.2⟩⟩
    · obtain rfl : i = nL := by omega
      have i1 : ¬ ((i : Int) < (i : Int)) := by omega
      have F2 := hd (fun (w' : World) (v : Value) h2 h3 => FIN.out wr w' v 0 (-1) (Below.refl _ _) h2 h3 (by
        rw [hrep, List.drop_eq_nil_of_le (by have := HN.out; omega)]
        rfl))
      obtain ⟨c1, c2⟩ := CX.out wr (Below.refl _ _)
      have C2 := hd (CD.out wr (Below.refl _ _))
      clear FIN hB hJ hr hrep HB HS CD
      go_wp2_with (go_at_call 18; refine C2.out.mono ?_; rintro e u2 ⟨v, rfl, hv, b2⟩; obtain ⟨z1, z2⟩ := CX.out u2 b2; obtain ⟨β, hse, hβ⟩ := hv; obtain ⟨aT, cT, hvT, -, -⟩ := hse.form; subst hvT; have HSE := hd (And.intro hse hβ); clear hse hβ)
      refine bodyPost_ret (v := .tuple #[.slice aD i cD, .slice aT (runP [] D).length cT, .int .i64 0, .int .i64 (-1)]) (by simp [results, Tryz.results5, go_sem]) rfl ?_
      exact ⟨_, _, _, _, rfl, F2.out u2 _ b2 ⟨β, HSE.out.1, HSE.out.2⟩⟩

end Go.Proofs.YtilidolbplglcaaGreatDoor

/-! Sb -/
namespace Go.Proofs.YtilidolbplglcaaGreatDoor
open Go.RowKit
set_option linter.unusedVariables false

theorem cells5 {w : World} {g : Nat} {a b c d e : Value} {t : TypeId} (h : w.heap[g]? = some (.cells #[a, b, c, d, e] t (0, 0))) :
    (w.cell? ⟨g, 0, none⟩ = some a ∧ w.cell? ⟨g, 1, none⟩ = some b ∧ w.cell? ⟨g, 2, none⟩ = some c ∧ w.cell? ⟨g, 3, none⟩ = some d ∧ w.cell? ⟨g, 4, none⟩ = some e) ∧
    (w.frozen? ⟨g, 0, none⟩ = false ∧ w.frozen? ⟨g, 1, none⟩ = false ∧ w.frozen? ⟨g, 2, none⟩ = false ∧ w.frozen? ⟨g, 3, none⟩ = false ∧ w.frozen? ⟨g, 4, none⟩ = false) := by
  simp [World.cell?, World.frozen?, h]

/-- append of one int. -/
theorem push_int (w : World) (β : Option Nat) (v : Value) (xs : List Int) (hv : SF ei 1 w 3 β v xs) (b : Nat) (x : Int) (hb : w.heap[b]? = some (.cells #[.int .i64 x] 3 (0, 0))) (hn : xs.length ≤ 100000) :
    ∃ v' w', (∀ ty, (Builtin.append_ #[54, 54] ty #[v, .slice (some ⟨b, 0, none⟩) 1 1]).run Tryz.prog w = .ok v' w') ∧ NowF ei 1 w w' 3 β v' (xs ++ [x]) := by
  obtain ⟨i0, hi0, hz0, hz1, hz2⟩ := info_parts Tryz.infoI
  obtain ⟨v', w', hr, hN⟩ := run_pushF sz_ei (P := Tryz.prog) w 54 0 3 i0 _ 8 Tryz.underlying54 hi0 hz0 hz1 rfl hz2 β v xs hv ⟨b, 0, none⟩ 1 1 [x] rfl (fun j u hj => by
    rw [cl_one] at hj
    cases j with
    | zero => rw [add_lit, cell_row hb]; simpa [ei] using hj
    | succ j => simp [ei] at hj) (by omega) (by omega) (by omega)
  exact ⟨v', w', fun ty => hr, hN⟩

/-- append of one operation. -/
theorem push_op (w : World) (β : Option Nat) (v : Value) (xs : List OpE) (hv : SF opc 5 w 46 β v xs) (b : Nat) (x : OpE) (hb : w.heap[b]? = some (.cells (opc x).toArray 46 (0, 0))) (hn : xs.length ≤ 100000) :
    ∃ v' w', (∀ ty, (Builtin.append_ #[24, 24] ty #[v, .slice (some ⟨b, 0, none⟩) 1 1]).run Tryz.prog w = .ok v' w') ∧ NowF opc 5 w w' 46 β v' (xs ++ [x]) := by
  obtain ⟨i0, hi0, hz0, hz1, hz2⟩ := info_parts Tryz.infoO
  obtain ⟨v', w', hr, hN⟩ := run_pushF sz_opc (P := Tryz.prog) w 24 0 46 i0 _ 40 Tryz.underlying24 hi0 hz0 hz1 rfl hz2 β v xs hv ⟨b, 0, none⟩ 1 1 [x] rfl (fun j u hj => by
    rw [cl_one] at hj
    rw [add_lit, cell_row hb, List.getElem?_toArray, Nat.zero_add]
    exact hj) (by omega) (by omega) (by omega)
  exact ⟨v', w', fun ty => hr, hN⟩

theorem NowF.slice {α : Type} {f : α → List Value} {k : Nat} {w w' : World} {e : TypeId} {β : Option Nat} {v' : Value} {xs : List α} (h : NowF f k w w' e β v' xs) : ∃ a n c, v' = .slice a n c := by
  obtain ⟨g', h1, -⟩ := h
  obtain ⟨a', c', h, -⟩ := h1.form
  exact ⟨a', _, c', h⟩

set_option maxRecDepth 100000 in
set_option maxHeartbeats 4000000 in
theorem add_any (x : Nat) (f : Bool) (ms : List Int) (os : List OpE) (last : Int) (m : Int) (o : OpE) (S : Nat → Prop) (w : World) (h : RAt w x f ms os last S) (hl1 : ms.length ≤ 4096) (hl2 : os.length ≤ 4096) :
    Calls Tryz.prog 68 #[.pointer (some ⟨x, 0, none⟩), .int .i64 m, o.val] w fun e w' => e = .returned (.tuple #[]) ∧ NowR w w' x f (ms ++ [m]) (os ++ [o]) last S := by
  obtain ⟨k, p, c, q, s⟩ := o
  simp only [OpE.val]
  obtain ⟨vm, vo, βm, βo, hK, hSx, hSm, hSo, hS⟩ := h
  obtain ⟨am, cm, hvm, -⟩ := hK.rm.form
  obtain ⟨ao, co, hvo, -⟩ := hK.ro.form
  obtain ⟨w1, hw1⟩ : ∃ w1, w1 = w.alloc (.cells #[.int .i64 k, .int .i64 p, .int .u8 c, .int .i64 q, .int .i64 s] 46) := ⟨_, rfl⟩
  have b1 : Below w.heap.size w w1 := by rw [hw1]; exact (Below.refl _ _).alloc (Nat.le_refl _) _
  have z1 : w1.heap.size = w.heap.size + 1 := by rw [hw1]; simp
  have B1 : w1.heap[w.heap.size]? = some (.cells #[.int .i64 k, .int .i64 p, .int .u8 c, .int .i64 q, .int .i64 s] 46 (0, 0)) := by rw [hw1]; exact heap_alloc_new w _
  have K1 := hK.below b1
  have b2 : Below w1.heap.size w1 (w1.alloc (.cells #[.int .i64 m] 3)) := (Below.refl _ _).alloc (Nat.le_refl _) _
  have K2 := K1.below b2
  obtain ⟨v1, wa, hr1, N1⟩ := push_int (w1.alloc (.cells #[.int .i64 m] 3)) βm vm ms K2.rm w1.heap.size m (heap_alloc_new w1 _) (by omega)
  obtain ⟨a1, n1, e1, rfl⟩ := N1.slice
  obtain ⟨g1, N11, N12, N13⟩ := N1.out
  have sz2 : (w1.alloc (.cells #[.int .i64 m] 3)).heap.size = w.heap.size + 2 := by simp [z1]
  have hx2 : wa.heap[x]? = some (.cells #[vm, vo, .bool f, .int .i64 last] 134 (0, 0)) := N13.keeps K2.box (fun hb => K2.m_ne hb)
  have Ba : wa.heap[w.heap.size]? = some (.cells #[.int .i64 k, .int .i64 p, .int .u8 c, .int .i64 q, .int .i64 s] 46 (0, 0)) := N13.keeps ((b2.block _ (by omega)).trans B1) (fun hb => by have := hS _ (hSm _ hb); omega)
  have M1 := now_marks (S := S) K2 hSx hSm hSo (fun k hk => by have := hS k hk; omega) N11 (N12.imp id (fun h => by omega)) N13
  obtain ⟨W, hW⟩ : ∃ W, W = wa.setCell ⟨x, 0, none⟩ (.slice a1 n1 e1) := ⟨_, rfl⟩
  rw [← hW] at M1
  have xw := hS x hSx
  have BW : W.heap[w.heap.size]? = some (.cells #[.int .i64 k, .int .i64 p, .int .u8 c, .int .i64 q, .int .i64 s] 46 (0, 0)) := by
    rw [hW]
    exact (Fr.setCell (S := (· = x)) wa ⟨x, 0, none⟩ (.slice a1 n1 e1) rfl).keeps Ba (by omega)
  have HW := hd hW
  obtain ⟨S1, ⟨vm3, vo3, βm3, βo3, K3, r1, r2, r3, r4⟩, M12, M13⟩ := M1
  have K4 := K3.below (Below.drew (Below.refl W.heap.size W))
  have b5 : Below W.drew.heap.size W.drew (W.drew.alloc (.cells #[.int .i64 k, .int .i64 p, .int .u8 c, .int .i64 q, .int .i64 s] 46)) := (Below.refl _ _).alloc (Nat.le_refl _) _
  have K5 := K4.below b5
  obtain ⟨v2, wb, hr2, N2⟩ := push_op (W.drew.alloc (.cells #[.int .i64 k, .int .i64 p, .int .u8 c, .int .i64 q, .int .i64 s] 46)) βo3 vo3 os K5.ro W.drew.heap.size ⟨k, p, c, q, s⟩ (heap_alloc_new W.drew _) (by omega)
  obtain ⟨a2, n2, e2, rfl⟩ := N2.slice
  obtain ⟨g2, N21, N22, N23⟩ := N2.out
  have zW : (W.drew.alloc (.cells #[.int .i64 k, .int .i64 p, .int .u8 c, .int .i64 q, .int .i64 s] 46)).heap.size = W.heap.size + 1 := by simp
  have hx5 : wb.heap[x]? = some (.cells #[vm3, vo3, .bool f, .int .i64 last] 134 (0, 0)) := N23.keeps K5.box (fun hb => K5.o_ne hb)
  have M2 := now_ops (S := S1) K5 r1 r2 r3 (fun k hk => by have := r4 k hk; omega) N21 (N22.imp id (fun h => by omega)) N23
  have Z : Hid (NowR w (wb.setCell ⟨x, 1, none⟩ (.slice a2 n2 e2)) x f (ms ++ [m]) (os ++ [⟨k, p, c, q, s⟩]) last S) := by
    have hF : Fr S w W := (Fr.of_below b1).trans ((Fr.of_below b2).trans (M13.mono (fun k _ h => h)))
    have hFd : Fr S1 W (W.drew.alloc (.cells #[.int .i64 k, .int .i64 p, .int .u8 c, .int .i64 q, .int .i64 s] 46)) := (Fr.drew _ _).trans (Fr.alloc _ _ _)
    obtain ⟨S2, h1, h2, h3⟩ := M2
    refine ⟨S2, h1, fun j hj => ?_, hF.next (hFd.trans h3) (fun i hi hs => ?_)⟩
    · rcases h2 j hj with h | h
      · rcases M12 j h with h | h
        · exact .inl h
        · exact .inr (by omega)
      · have := hF.size
        exact .inr (by omega)
    · rcases M12 i hs with h | h
      · exact h
      · omega
  obtain ⟨am3, cm3, hvm3, -⟩ := K3.rm.form
  obtain ⟨ao3, co3, hvo3, -⟩ := K3.ro.form
  have c0 := cell_row hK.box 0
  have cW := cell_row K3.box 1
  have d0 := cell_row hx2 0
  have f0 := frozen_row hx2 0
  have d1 := cell_row hx5 1
  have f1 := frozen_row hx5 1
  simp at c0 cW d0 d1
  obtain ⟨⟨y0, y1, y2, y3, y4⟩, -⟩ := cells5 BW
  have xlW : x < W.heap.size := block_lt K3.box
  rw [z1] at hr1
  rw [show W.drew.heap.size = W.heap.size from rfl] at hr2
  have HR2 := hd hr2
  have HC := hd (And.intro xlW (And.intro cW (And.intro d1 f1)))
  have HY := hd (And.intro y0 (And.intro y1 (And.intro y2 (And.intro y3 y4))))
  clear hr2 cW d1 f1 y0 y1 y2 y3 y4 BW xlW hl1 hl2 hvm hvo hvm3 hvo3
  clear hK K1 K2 K3 K4 K5 N1 N2 N11 N12 N13 N21 N22 N23 M2 M12 M13 r1 r2 r3 r4 hx2 hx5 b1 b2 b5 B1 Ba hSx hSm hSo hS z1 sz2 zW hW
  go_enter Tryz.func68, Tryz.ntmps68
  subst hw1
  go_wp2_with (at_builtin; refine wpList_append_k _ rfl _ _ 54 54 rfl _ _ rfl rfl (hr1 _) ?_)
  rw [← HW.out]
  obtain ⟨xlW, cW, d1, f1⟩ := HC.out
  obtain ⟨y0, y1, y2, y3, y4⟩ := HY.out
  have hr2 := HR2.out
  go_region_law (refine step_append_k rfl (.tmp 20) (.tmp 22) 24 24 rfl _ _ (by simp [Act.eval]) (by simp [Act.eval]) (hr2 _) ?_)
  all_goals go_wp2
  all_goals refine bodyPost_end (v := .tuple #[]) (by simp [results, Tryz.results68, go_sem]) rfl ?_
  all_goals exact ⟨rfl, Z.out⟩

theorem SpAt.cells {w : World} {x : Nat} {p : Sp} {S : Nat → Prop} (h : SpAt w x p S) : x < w.heap.size ∧ w.cell? ⟨x, 2, none⟩ = some (.bool p.f) ∧ w.cell? ⟨x, 3, none⟩ = some (.int .i64 p.last) ∧ w.frozen? ⟨x, 3, none⟩ = false := by
  obtain ⟨⟨vm, vo, βm, βo, hK, -⟩, -⟩ := h
  have c2 := cell_row hK.box 2
  have c3 := cell_row hK.box 3
  simp at c2 c3
  exact ⟨block_lt hK.box, c2, c3, frozen_row hK.box 3⟩
theorem RAt.cells {w : World} {x : Nat} {f : Bool} {ms : List Int} {os : List OpE} {last : Int} {S : Nat → Prop} (h : RAt w x f ms os last S) : x < w.heap.size ∧ w.cell? ⟨x, 2, none⟩ = some (.bool f) ∧ w.cell? ⟨x, 3, none⟩ = some (.int .i64 last) ∧ w.frozen? ⟨x, 3, none⟩ = false := by
  obtain ⟨vm, vo, βm, βo, hK, -⟩ := h
  have c2 := cell_row hK.box 2
  have c3 := cell_row hK.box 3
  simp at c2 c3
  exact ⟨block_lt hK.box, c2, c3, frozen_row hK.box 3⟩

set_option maxRecDepth 100000 in
set_option maxHeartbeats 4000000 in
theorem keep_any (x : Nat) (p : Sp) (m : Int) (o : OpE) (S : Nat → Prop) (w : World) (h : SpAt w x p S) (ho : OkOp o) :
    Calls Tryz.prog 50 #[.pointer (some ⟨x, 0, none⟩), .int .i64 m, o.val] w fun e w' => e = .returned (.int .i64 (keepE p m o)) ∧ Now w w' x (keepS p m o) S := by
  have HO := hd (keepS_ok h.2 m o ho)
  have HH := hd h
  have HC := hd ho
  have HS := hd h.1.old
  have hl := h.2
  have l1 : p.ms.length ≤ 4096 := by rw [Sp.ms_len]; have := hl.n; have := hl.m; omega
  have l2 : p.os.length ≤ 4096 := by rw [Sp.os_len]; have := hl.n; have := hl.m; omega
  have HL := hd (And.intro l1 l2)
  obtain ⟨E, hE⟩ : ∃ E, keepE p m o = E := ⟨_, rfl⟩
  obtain ⟨V, hV⟩ : ∃ V, validP o = V := ⟨_, rfl⟩
  have HE := hd hE
  have HV := hd hV
  obtain ⟨k, ps, c, q, s⟩ := o
  simp only [OpE.val]
  clear h ho hl l1 l2 hE
  rw [HE.out]
  obtain ⟨la, hla⟩ : ∃ l, p.last = l := ⟨_, rfl⟩
  have HLA := hd hla
  clear hla hV
  by_cases hv : V = 0
  · subst hv
    by_cases hm : m ≤ la ∨ 4096 < m
    · obtain rfl : E = 100 := by
        rw [← HE.out, keepE, if_neg (by rw [HV.out]; omega), if_pos (by rw [HLA.out]; exact hm)]
      have Z : Hid (∀ w', Below w.heap.size w w' → Now w w' x (keepS p m ⟨k, ps, c, q, s⟩) S) := fun w' hb => by
        rw [keepS, if_neg (by rw [HE.out]; omega)]
        exact Now.of_below HH.out hb
      by_cases hm1 : m ≤ la
      · clear hm
        go_enter Tryz.func50, Tryz.ntmps50
        go_wp2_with fail
        refine (valid_any k ps c q s _ HC.out.1 HC.out.2).mono ?_
        rintro e w1 ⟨rfl, hb⟩
        have b1 : Below w.heap.size w w1 := ((Below.refl _ _).alloc (Nat.le_refl _) _).trans (hb.mono (by simp))
        have c3 := (HH.out.below b1).cells.2.2.1
        have B1 := hd b1
        rw [HLA.out] at c3
        rw [HV.out]
        clear hb b1
        go_wp2
        go_ret
        exact ⟨rfl, Z.out _ B1.out⟩
      · have hm2 : 4096 < m := by omega
        clear hm
        go_enter Tryz.func50, Tryz.ntmps50
        go_wp2_with fail
        refine (valid_any k ps c q s _ HC.out.1 HC.out.2).mono ?_
        rintro e w1 ⟨rfl, hb⟩
        have b1 : Below w.heap.size w w1 := ((Below.refl _ _).alloc (Nat.le_refl _) _).trans (hb.mono (by simp))
        have c3 := (HH.out.below b1).cells.2.2.1
        have B1 := hd b1
        rw [HLA.out] at c3
        rw [HV.out]
        clear hb b1
        go_wp2
        go_ret
        exact ⟨rfl, Z.out _ B1.out⟩
    · obtain rfl : E = 0 := by
        rw [← HE.out, keepE, if_neg (by rw [HV.out]; omega), if_neg (by rw [HLA.out]; exact hm)]
      have hm1 : ¬ m ≤ la := by omega
      have hm2 : ¬ 4096 < m := by omega
      clear hm
      go_enter Tryz.func50, Tryz.ntmps50
      go_wp2_with fail
      refine (valid_any k ps c q s _ HC.out.1 HC.out.2).mono ?_
      rintro e w1 ⟨rfl, hb⟩
      have b1 : Below w.heap.size w w1 := ((Below.refl _ _).alloc (Nat.le_refl _) _).trans (hb.mono (by simp))
      have X1 : w1.heap[w.heap.size]? = some (.cells #[.int .i64 k, .int .i64 ps, .int .u8 c, .int .i64 q, .int .i64 s] 46 (0, 0)) := (hb.block _ (by simp)).trans (heap_alloc_new w _)
      have H1 := HH.out.below b1
      have H2 := hd (H1.below (Below.drew (Below.refl w1.heap.size w1)))
      have c3 := H1.cells.2.2.1
      obtain ⟨⟨y0, y1, y2, y3, y4⟩, -⟩ := cells5 X1
      have B1 := hd b1
      rw [HLA.out] at c3
      rw [HV.out]
      clear hb b1 X1 H1
      go_wp2_with fail
      have C1 : Hid (∀ W, Below w1.heap.size w1 W → Calls Tryz.prog 68 #[.pointer (some ⟨x, 0, none⟩), .int .i64 m, .agg #[.int .i64 k, .int .i64 ps, .int .u8 c, .int .i64 q, .int .i64 s]] W fun e w' => e = .returned (.tuple #[]) ∧ w'.cell? ⟨x, 3, none⟩ = some (.int .i64 la) ∧ w'.frozen? ⟨x, 3, none⟩ = false ∧ Now w (w'.setCell ⟨x, 3, none⟩ (.int .i64 m)) x (keepS p m ⟨k, ps, c, q, s⟩) S) := by
        intro W hW
        have bW : Below w.heap.size w W := B1.out.trans (hW.mono B1.out.size)
        refine (add_any x p.f p.ms p.os p.last m ⟨k, ps, c, q, s⟩ S W (HH.out.below bW).1 HL.out.1 HL.out.2).mono ?_
        rintro e w' ⟨rfl, hN⟩
        have hk : keepS p m ⟨k, ps, c, q, s⟩ = ⟨p.f, p.q ++ [(m, ⟨k, ps, c, q, s⟩)], m⟩ := by rw [keepS, if_pos HE.out]
        have N2 := hN.trans (fun S' h => now_last h m)
        obtain ⟨S1, h1, -⟩ := hN
        have hc := h1.cells
        refine ⟨rfl, by rw [← HLA.out]; exact hc.2.2.1, hc.2.2.2, ?_⟩
        obtain ⟨S2, g1, g2, g3⟩ := N2
        refine ⟨S2, ⟨?_, HO.out⟩, fun k hk => (g2 k hk).imp id (fun h => by have := bW.size; omega), (Fr.of_below bW).trans g3⟩
        rw [hk]
        simpa [Sp.ms, Sp.os] using g1
      go_region_law (first | (go_simp; go_at_call 68; refine (C1.out _ (by repeat (first | exact Below.refl _ _ | refine Below.drew ?_ | refine below_drewN ?_ _))).mono ?_; rintro ex w3 ⟨rfl, h1, h2, h3⟩; have Z3 := hd h3; clear h3))
      all_goals go_wp2
      all_goals go_ret
      all_goals exact ⟨rfl, Z3.out⟩
  · obtain rfl : E = V := by
      rw [← HE.out, keepE, if_pos (by rw [HV.out]; exact hv), HV.out]
    have hv' : (E == 0) = false := by simpa using hv
    have Z : Hid (∀ w', Below w.heap.size w w' → Now w w' x (keepS p m ⟨k, ps, c, q, s⟩) S) := fun w' hb => by
      rw [keepS, if_neg (by rw [HE.out]; exact hv)]
      exact Now.of_below HH.out hb
    go_enter Tryz.func50, Tryz.ntmps50
    go_wp2_with fail
    refine (valid_any k ps c q s _ HC.out.1 HC.out.2).mono ?_
    rintro e w1 ⟨rfl, hb⟩
    have B1 : Hid (Below w.heap.size w w1) := ((Below.refl _ _).alloc (Nat.le_refl _) _).trans (hb.mono (by simp))
    rw [HV.out]
    clear hb
    go_wp2
    go_ret
    exact ⟨rfl, Z.out _ B1.out⟩
end Go.Proofs.YtilidolbplglcaaGreatDoor
