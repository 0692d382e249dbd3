/-
  NetFresh: grownGrams.
-/
import Derived.Test.YtnglcnilckolkaaGc
namespace Go.Proofs.Ytnglcnilckolkaa
open Go.RowKit
set_option linter.unusedVariables false

def zIt : It := ⟨⟨0, 0, [], false⟩, none, 0, none⟩
/-- The first i lists one behind another. -/
def fl (X : Nat → List It) : Nat → List It
  | 0 => []
  | i + 1 => fl X i ++ X i
theorem fl_mem {X : Nat → List It} {x : It} : ∀ {K : Nat}, x ∈ fl X K → ∃ i, i < K ∧ x ∈ X i
  | 0, h => by simp [fl] at h
  | K + 1, h => by
    rw [fl, List.mem_append] at h
    rcases h with h | h
    · obtain ⟨i, hi, hx⟩ := fl_mem h
      exact ⟨i, by omega, hx⟩
    · exact ⟨K, by omega, h⟩
theorem fl_le {X : Nat → List It} {i : Nat} : ∀ {K : Nat}, i < K → (fl X i).length + (X i).length ≤ (fl X K).length
  | 0, h => by omega
  | K + 1, h => by
    rw [fl, List.length_append]
    by_cases e : i = K
    · subst e; exact Nat.le_refl _
    · have := fl_le (X := X) (i := i) (K := K) (by omega)
      omega

/-- While the bytes are gathered. -/
def NRel (w wq : World) (v : Value) (L : List It) : Prop := ∃ β, SRow wq 28 β v (L.map It.sv) ∧ (∀ g, β = some g → w.heap.size ≤ g) ∧ Below w.heap.size w wq

theorem NRel.push {w wq : World} {v : Value} {L : List It} (h : NRel w wq v L) (hL : L.length ≤ 1000) (x : It) :
    ∃ v' w3, (∀ ty, (Builtin.append_ #[22, 22] ty #[v, .slice (some ⟨wq.heap.size, 0, none⟩) 1 1]).run Try.prog (wq.alloc (.cells #[.slice x.a x.d.b.length x.c] 28)) = .ok v' w3) ∧ NRel w w3 v' (L ++ [x]) := by
  obtain ⟨β, h1, h2, h3⟩ := h
  obtain ⟨v', w3, β', hr, hS, hM, hF⟩ := lists_push h1 (by simp; omega) x.a x.d.b.length x.c
  refine ⟨v', w3, hr, β', by simpa [It.sv] using hS, ?_, ?_⟩
  · intro g hg
    rcases hM with hM | ⟨g', hM, hg'⟩
    · exact h2 g (hM ▸ hg)
    · obtain rfl : g' = g := Option.some.inj (hM.symm.trans hg)
      exact Nat.le_trans h3.size hg'
  · exact ((Fr.of_below h3).next (S := fun _ => False) hF (fun k hk e => by have := h2 k e; omega)).below (Nat.le_refl _) (fun k h => h.elim)

theorem RowV.out_cap {w : World} {g N cap : Nat} {e : TypeId} {vs : List Value} (h : RowV w g N cap e vs) : N ≤ cap ∧ cap ≤ 9223372036854775807 := by
  obtain ⟨cur, -, -, -, h1, h2, -⟩ := h
  exact ⟨h1, h2⟩

def gO (L : List It) (j : Nat) : Option Nat := (L.getD j zIt).γ
def nO (L : List It) (j : Nat) : Nat := (L.getD j zIt).d.b.length
def cOf (L : List It) (j : Nat) : Nat := (L.getD j zIt).c
def bO (L : List It) (j : Nat) : List Int := (L.getD j zIt).d.b
theorem getD_of {L : List It} {j : Nat} (hj : j < L.length) : L.getD j zIt = L[j] := by simp [List.getD, List.getElem?_eq_getElem hj]

theorem It.tr {w : World} {x : It} (h : SB w x.γ x.sv x.d.b) : x.a = at0 x.γ ∧ TR w x.γ x.c x.d.b := by
  obtain ⟨c, e, hT⟩ := h.tr
  obtain ⟨e1, -, e3⟩ := Value.slice.inj e
  exact ⟨e1, by rw [e3]; exact hT⟩

theorem inner_tb {w : World} {L : List It} (hR : ∀ x ∈ L, SB w x.γ x.sv x.d.b) (hS : L.Pairwise (fun a b => ∀ g, a.γ = some g → b.γ ≠ some g)) : TB w L.length (gO L) (cOf L) (bO L) := by
  refine ⟨fun i j g hi hj h1 h2 => ?_, fun i hi => ?_⟩
  · rw [gO, getD_of hi] at h1
    rw [gO, getD_of hj] at h2
    rw [List.pairwise_iff_getElem] at hS
    rcases Nat.lt_trichotomy i j with h | h | h
    · exact absurd h2 (hS i j hi hj h g h1)
    · exact h
    · exact absurd h1 (hS j i hj hi h g h2)
  · rw [gO, cOf, bO, getD_of hi]
    exact (It.tr (hR _ (List.getElem_mem hi))).2

theorem inner_lc {w : World} {L : List It} {g cap : Nat} (hR : ∀ x ∈ L, x.a = at0 x.γ) (h : RowV w g (L.map It.sv).length cap 28 (L.map It.sv)) : LC w g L.length (VV (gO L) (nO L) (cOf L)) := by
  obtain ⟨cur, hh, ht, -⟩ := h
  refine ⟨cur, hh, fun i hi => ?_⟩
  have e : (L.map It.sv)[i]? = some (L[i].sv) := by simp [List.getElem?_eq_getElem hi]
  rw [← ht, List.getElem?_take, if_pos (by simpa using hi)] at e
  rw [← Array.getElem?_toList, e, VV, gO, nO, cOf, getD_of hi, It.sv, hR _ (List.getElem_mem hi)]

theorem fr_set4 (w : World) (g k : Nat) (a b c d : Value) : Fr (fun q => some g = some q) w ((((w.setCell ⟨g, k * 4, none⟩ a).setCell ⟨g, k * 4 + 1, none⟩ b).setCell ⟨g, k * 4 + 2, none⟩ c).setCell ⟨g, k * 4 + 3, none⟩ d) := by
  have h : ∀ (w' : World) (o : Nat) (u : Value), Fr (fun q => some g = some q) w' (w'.setCell ⟨g, o, none⟩ u) := fun w' o u => Fr.setCell w' ⟨g, o, none⟩ u rfl
  exact ((h w (k * 4) a).trans (h _ (k * 4 + 1) b)).trans ((h _ (k * 4 + 2) c).trans (h _ (k * 4 + 3) d))

theorem grownD_lo (n i k : Nat) (P : List It) (h : k < n) : (mkDs n i ++ P)[k]? = some (mkD i k) := by
  rw [List.getElem?_append_left (by rw [mkDs_len]; exact h)]
  simp [mkDs, h]
theorem grownD_hi (n i k : Nat) (h : n ≤ k) (hk : k < n + 64) : (mkDs n i ++ tlDs i 64)[k]? = some (tlD i (k - n)) := by
  rw [List.getElem?_append_right (by rw [mkDs_len]; exact h), mkDs_len]
  simp [tlDs, show k - n < 64 by omega]

set_option maxRecDepth 100000 in
set_option maxHeartbeats 8000000 in
theorem grams_any (gL K Kc : Nat) (Γ : Nat → Option Nat) (N C : Nat → Nat) (X : Nat → List It) (w : World) (hT : DB w K Γ C X) (hN : ∀ i, i < K → (X i).length = N i) (hL : LD w gL K (VV Γ N C)) (hK : K ≤ 90) (hb : ∀ i, i < K → N i ≤ 1000) (hgL : gL < w.heap.size) (hKc : K ≤ Kc) (hKm : Kc ≤ 9223372036854775807)
    (hF : (fl X K).length ≤ 90) (hF0 : 0 < (fl X K).length) (hR : ∀ x ∈ fl X K, SB w x.γ x.sv x.d.b) (hS : (fl X K).Pairwise (fun a b => ∀ g, a.γ = some g → b.γ ≠ some g)) (hM : ∀ x ∈ fl X K, x.d.b.length ≤ 1000) :
    Calls Try.prog 38 #[.slice (some ⟨gL, 0, none⟩) K Kc] w fun e w' => e = .returned (.bool true) ∧ Fr (fun k => (∃ j, j < K ∧ Γ j = some k) ∨ ∃ x ∈ fl X K, x.γ = some k) w w' := by
  have HN := hd hN
  have Hb := hd hb
  have HT := hd hT
  have HL := hd hL
  have HgL := hd hgL
  have HF := hd hF
  have HF0 := hd hF0
  have HR := hd hR
  have HS := hd hS
  have HM := hd hM
  have S0 : Hid (NRel w w (.slice none 0 0) (fl X 0)) := ⟨none, ⟨rfl, rfl⟩, fun g h => (by cases h), Below.refl _ _⟩
  clear hT hN hL hb hgL hF hF0 hR hS hM
  go_enter Try.func38, Try.ntmps38
  go_wp2
  go_loopw [3, 4] (fun v i wr => ∃ a : Nat, a ≤ K ∧ i = .int .i64 a ∧ Hid (NRel w wr v (fl X a))) (fun _ i _ => K - (intOf i).toNat)
  case atStart => exact ⟨0, Nat.zero_le _, rfl, S0⟩
  case round =>
    obtain ⟨i, hi, rfl, hr⟩ := hrel
    clear S0
    obtain ⟨va, vc, hvv⟩ : ∃ va vc, _ = Value.slice va (fl X i).length vc := by
      obtain ⟨β, h1, -⟩ := hr.out
      obtain ⟨a, c, e⟩ := h1.form
      rw [List.length_map] at e
      exact ⟨a, c, e⟩
    subst hvv
    by_cases hlt : i < K
    · have i1 : (i : Int) < (K : Int) := by omega
      have hNi := hd (HN.out i hlt)
      have hbi := Hb.out i hlt
      have hle := hd (fl_le (X := X) hlt)
      have D0 : Hid (∀ wq, Below w.heap.size w wq → TO wq (Γ i) (C i) (X i) ∧ LD wq gL K (VV Γ N C)) := fun wq hB => by
        have F : Fr (fun _ => False) w wq := Fr.of_below hB
        exact ⟨(HT.out.2 i hlt).fr F (fun _ _ h => h), HL.out.fr F (fun h => h)⟩
      have CC := (HT.out.2 i hlt).cap
      rw [hNi.out] at CC
      have CN := CC.1
      have CM := CC.2
      clear CC
      have W0 : Hid (NRel w wr (.slice va (fl X i).length vc) (fl X i ++ (X i).take 0)) := by
        have := hr.out
        rw [List.take_zero, List.append_nil]
        exact this
      have cl0 := (D0.out wr (by obtain ⟨_, _, _, h⟩ := hr.out; exact h)).2.cell i hlt
      have hV : Hid (VV Γ N C i = .slice (at0 (Γ i)) (N i) (C i)) := rfl
      rw [hV.out] at cl0
      clear hr
      generalize hni : N i = ni at *
      generalize hci : C i = ci at *
      generalize hgi : Γ i = γi at *
      clear hni hci hgi
      generalize ha : at0 γi = ai at *
      have HA := hd ha
      clear ha
      go_wp2
      go_loopw [3, 5] (fun v k wq => ∃ a : Nat, a ≤ ni ∧ k = .int .i64 a ∧ Hid (NRel w wq v (fl X i ++ (X i).take a))) (fun _ k _ => ni - (intOf k).toNat)
      case atStart => exact ⟨0, Nat.zero_le _, rfl, W0⟩
      case round =>
        obtain ⟨k, hk, rfl, hq⟩ := hrel
        clear W0 cl0
        obtain ⟨ua, uc, huv⟩ : ∃ ua uc, _ = Value.slice ua (fl X i ++ (X i).take k).length uc := by
          obtain ⟨β, h1, -⟩ := hq.out
          obtain ⟨a, c, e⟩ := h1.form
          rw [List.length_map] at e
          exact ⟨a, c, e⟩
        subst huv
        obtain ⟨dO, dL⟩ := D0.out wr (by obtain ⟨_, _, _, h⟩ := hq.out; exact h)
        have cl := dL.cell i hlt
        rw [hV.out] at cl
        by_cases hkn : k < ni
        · have kl : k < (X i).length := by rw [hNi.out]; exact hkn
          obtain ⟨g, hgg, d0, d1, d2, d3, -⟩ := dO.at k kl _ (List.getElem?_eq_getElem kl)
          subst hgg
          have HA' := HA.out
          simp only [at0, Option.map] at HA'
          subst HA'
          have i2 : (k : Int) < (ni : Int) := by omega
          obtain ⟨v', w3, hap, hQ⟩ := hq.out.push (by rw [List.length_append, List.length_take]; have := HF.out; have := hle.out; omega) ((X i)[k])
          have Q3 : Hid (NRel w w3 v' (fl X i ++ (X i).take (k + 1))) := by
            have e : (X i).take (k + 1) = (X i).take k ++ [(X i)[k]] := List.take_succ_eq_append_getElem kl
            rw [e, ← List.append_assoc]
            exact hQ
          generalize (X i)[k] = x at *
          obtain ⟨⟨xf, xt, xb, xs⟩, xa, xc, xg⟩ := x
          simp only at d0 d1 d2 d3 hap
          generalize xb.length = xn at *
          generalize (fl X i ++ (X i).take k).length = un at *
          clear hq hQ dO dL kl
          go_wp2_with (at_builtin; refine wpList_append_k _ rfl _ _ 22 22 rfl _ _ rfl rfl (hap _) ?_)
          exact ⟨⟨k + 1, by omega, by go_num, Q3⟩, by simp [intOf]; omega⟩
        · have N2 : Hid (NRel w wr (.slice ua (fl X i ++ (X i).take k).length uc) (fl X (i + 1))) := by
            have := hq.out
            have e : (X i).take k = X i := List.take_of_length_le (by rw [hNi.out]; omega)
            rw [e] at this ⊢
            exact this
          generalize (fl X i ++ (X i).take k).length = un at *
          clear hq dO dL
          go_wp2
          exact ⟨⟨i + 1, by omega, by go_num, N2⟩, by simp [intOf]; omega⟩
    · have i1 : ¬ (i : Int) < (K : Int) := by omega
      obtain rfl : i = K := by omega
      obtain ⟨β, h1, h2, h3⟩ := hr.out
      have F0 : Fr (fun _ => False) w wr := Fr.of_below h3
      cases β with
      | none =>
        have := h1.2
        have h0 := HF0.out
        rw [List.map_eq_nil_iff] at this
        rw [this] at h0
        simp at h0
      | some gI =>
        obtain ⟨cI, hv, hRow⟩ := h1
        obtain ⟨rfl, -, rfl⟩ := Value.slice.inj hv
        have TBI := inner_tb (w := wr) (L := fl X i) (fun x hx => SRow.fr (HR.out x hx) F0 (fun _ _ h => h)) HS.out
        have CI := hRow.out_cap
        rw [List.length_map] at CI
        have GA := grown_any gI (fl X i).length vc (gO (fl X i)) (nO (fl X i)) (cOf (fl X i)) (bO (fl X i)) wr TBI (fun _ _ => rfl) (inner_lc (fun x hx => (It.tr (HR.out x hx)).1) hRow) HF.out (fun j hj => by rw [nO, getD_of hj]; exact HM.out _ (List.getElem_mem hj)) hRow.lt CI.1 CI.2
        have GA' : Hid (Calls Try.prog 49 #[.slice (some ⟨gI, 0, none⟩) (fl X i).length vc] wr fun e w' => e = .returned (.bool true) ∧ DB w' i Γ C X ∧ LD w' gL i (VV Γ N C) ∧ w.heap.size ≤ w'.heap.size ∧ Fr (fun k => ∃ x ∈ fl X i, x.γ = some k) w w') := by
          refine GA.mono fun e w' ⟨he, hB⟩ => ⟨he, ?_⟩
          have B5 : Fr (fun k => ∃ x ∈ fl X i, x.γ = some k) wr w' := hB.mono (fun k _ ⟨j, hj, e⟩ => ⟨_, List.getElem_mem hj, by rw [gO, getD_of hj] at e; exact e⟩)
          have ty5 : ∀ k, (∃ x ∈ fl X i, x.γ = some k) → ∃ cur, wr.heap[k]? = some (.cells cur 5 (0, 0)) := fun k ⟨x, hx, e⟩ => (It.tr (SRow.fr (HR.out x hx) F0 (fun _ _ h => h))).2.ty k e
          refine ⟨?_, ?_, ?_, (F0.mono (fun _ _ h => h.elim)).trans B5⟩
          · refine (HT.out.fr F0 (fun _ _ _ _ h => h)).fr B5 (fun j hj g e e' => ?_)
            obtain ⟨c1, t1⟩ := ((HT.out.2 j hj).fr F0 (fun _ _ h => h)).ty g e
            obtain ⟨c2, t2⟩ := ty5 g e'
            exact ne_ty t1 t2 (by decide) rfl
          · have L1 := HL.out.fr F0 (fun h => h)
            refine L1.fr B5 (fun e' => ?_)
            obtain ⟨cur, t1, -⟩ := L1
            obtain ⟨c2, t2⟩ := ty5 gL e'
            exact ne_ty t1 t2 (by decide) rfl
          · exact Nat.le_trans F0.size B5.size
        clear GA TBI hv hRow F0 h2 h3 hr CI
        generalize (fl X i).length = fn at *
        go_wp2_with fail
        refine GA'.out.mono ?_
        rintro e0 w2 ⟨rfl, R1, R2, R3, R4⟩
        have HB : Hid (∀ j, j < i → ∀ g, Γ j = some g → g < w2.heap.size) := fun j hj => (R1.2 j hj).lt
        have HgL2 : Hid (gL < w2.heap.size) := Nat.lt_of_lt_of_le HgL.out R3
        have FR := hd R4
        have S0 : Hid (MReD w2 w2 gL i Γ N C X 0) := ⟨by simpa using R1, R2, Fr.refl _ _⟩
        clear R1 R2 R3 R4 GA'
        have i0 : i ≤ 90 := hK
        go_wp2
        go_loopw [6] (fun ii wr => ∃ a : Nat, a ≤ i ∧ ii = .int .i64 a ∧ Hid (MReD w2 wr gL i Γ N C X a)) (fun ii _ => i - (intOf ii).toNat)
        case atStart => exact ⟨0, Nat.zero_le _, rfl, S0⟩
        case round =>
          obtain ⟨p, hp, rfl, hr⟩ := hrel
          clear S0
          by_cases hlt : p < i
          · have i1 : (p : Int) < (i : Int) := by omega
            have hNp := hd (HN.out p hlt)
            have hbp := Hb.out p hlt
            have R0 : TO wr (Γ p) (C p) (X p) := by
              have := hr.out.1.2 p hlt
              simpa using this
            have W0 : Hid (TO wr (Γ p) (C p) (mkDs 0 p ++ (X p).drop 0) ∧ Fr (fun q => Γ p = some q) wr wr ∧ LD wr gL i (VV Γ N C)) := ⟨by simpa [mkDs] using R0, Fr.refl _ _, hr.out.2.1⟩
            have MR := hd hr.out
            have CN : N p ≤ C p := by rw [← hNp.out]; exact R0.cap.1
            have CM : C p ≤ 9223372036854775807 := R0.cap.2
            clear hr R0
            have hV : Hid (VV Γ N C p = .slice (at0 (Γ p)) (N p) (C p)) := rfl
            generalize hni : N p = ni at *
            generalize hci : C p = ci at *
            generalize hgi : Γ p = γi at *
            have HNI := hd hni
            have HCI := hd hci
            have HGI := hd hgi
            clear hni hci hgi
            have cl0 := W0.out.2.2.cell p hlt
            rw [hV.out] at cl0
            generalize ha : at0 γi = ai at *
            have HA := hd ha
            clear ha
            go_wp2
            go_loopw [7] (fun k wq => ∃ a : Nat, a ≤ ni ∧ k = .int .i64 a ∧ Hid (TO wq γi ci (mkDs a p ++ (X p).drop a) ∧ Fr (fun q => γi = some q) wr wq ∧ LD wq gL i (VV Γ N C))) (fun k _ => ni - (intOf k).toNat)
            case atStart => exact ⟨0, Nat.zero_le _, rfl, W0⟩
            case round =>
              obtain ⟨k, hk, rfl, hq⟩ := hrel
              clear W0 cl0
              have cl := hq.out.2.2.cell p hlt
              rw [hV.out] at cl
              by_cases hkn : k < ni
              · have kl : k < (mkDs k p ++ (X p).drop k).length := by
                  rw [List.length_append, mkDs_len, List.length_drop, hNp.out]; omega
                obtain ⟨g, hgg, d0, d1, d2, d3, fz⟩ := hq.out.1.at k kl _ (List.getElem?_eq_getElem kl)
                have f0 := fz (k * 4)
                have f1 := fz (k * 4 + 1)
                have f2 := fz (k * 4 + 2)
                have f3 := fz (k * 4 + 3)
                clear fz
                subst hgg
                have HA' := HA.out
                simp only [at0, Option.map] at HA'
                subst HA'
                have i2 : (k : Int) < (ni : Int) := by omega
                have st := hq.out.1.set k kl (mkD p k)
                rw [markD_step _ _ _ (by rw [hNp.out]; exact hkn)] at st
                simp only [mkD, List.length_nil] at st
                have F := fr_set4 wr g k (.int .i64 (-1 - 1000 * (p : Int) - (k : Int))) (.int .i64 0) (.slice none 0 0) (.bool false)
                have S2 := hd (And.intro st (And.intro (hq.out.2.1.trans F) (hq.out.2.2.fr F (hq.out.2.2.row hq.out.1))))
                generalize (mkDs k p ++ (X p).drop k)[k] = old at *
                clear hq kl st F
                go_wp2
                exact ⟨⟨k + 1, by omega, by go_num, S2⟩, by simp [intOf]; omega⟩
              · have M2 : Hid (MReD w2 wr gL i Γ N C X (p + 1)) := by
                  have hkk : k = ni := by omega
                  subst hkk
                  have hRow := hq.out.1
                  rw [List.drop_of_length_le (by rw [hNp.out]; exact Nat.le_refl _), List.append_nil] at hRow
                  obtain ⟨t1, t2, t3⟩ := MR.out
                  refine ⟨?_, hq.out.2.2, ?_⟩
                  · refine t1.upd p hlt (by rw [HGI.out]; exact hq.out.2.1) ?_ ?_ (fun _ _ => rfl)
                    · simp only [show p < p + 1 by omega, if_true, HNI.out, HGI.out, HCI.out]
                      exact hRow
                    · intro j hj
                      by_cases h1 : j < p
                      · simp [h1, show j < p + 1 by omega]
                      · simp [h1, show ¬ j < p + 1 by omega]
                  · exact t3.trans (hq.out.2.1.mono (fun q _ e => ⟨p, hlt, by rw [HGI.out]; exact e⟩))
                clear hq
                go_wp2
                exact ⟨⟨p + 1, by omega, by go_num, M2⟩, by simp [intOf]; omega⟩
          · have i1 : ¬ (p : Int) < (i : Int) := by omega
            have G0 : Hid (GReD w2 wr gL i Γ N C (.slice none 0 0) 0) := by
              obtain ⟨t1, t2, t3⟩ := hr.out
              refine ⟨fun _ => [], C, fun _ => none, fun _ => 0, [], none, ?_, t2, t3, ⟨rfl, rfl⟩, rfl, fun j hj => by omega, fun _ _ => ⟨rfl, rfl⟩, fun g h => (by cases h)⟩
              refine ⟨t1.1, fun j hj => ?_⟩
              have := t1.2 j hj
              simp only [show j < p by omega, if_true] at this
              simpa using this
            clear hr
            go_wp2
            go_loopw [8, 9] (fun gv ii wq => ∃ a : Nat, a ≤ i ∧ ii = .int .i64 a ∧ Hid (GReD w2 wq gL i Γ N C gv a)) (fun _ ii _ => i - (intOf ii).toNat)
            case atStart => exact ⟨0, Nat.zero_le _, rfl, G0⟩
            case round =>
              obtain ⟨q, hq, rfl, hg⟩ := hrel
              clear G0
              by_cases hqK : q < i
              · have i2 : (q : Int) < (i : Int) := by omega
                obtain ⟨P, C', H, D, vs, β, t1, t2, t3, t4, t5, t6, t7, t8⟩ := hg.out
                obtain ⟨va, vc, rfl⟩ := t4.form
                rw [t5]
                have hg' : Hid (GReD w2 wr gL i Γ N C (.slice va q vc) q) := by
                  have := hg.out
                  rw [t5] at this
                  exact this
                have cl := t2.cell q hqK
                have hr := t1.2 q hqK
                simp only [(t7 q (Nat.le_refl _)).1, (t7 q (Nat.le_refl _)).2, List.append_nil] at hr
                have I0 : Hid (IReD wr wr (Γ q) (N q) q (.slice (at0 (Γ q)) (N q) (C q)) 0) := by
                  refine ⟨[], C q, Γ q, C q, rfl, ?_, by simpa using hr, Fr.refl _ _, .inl rfl⟩
                  simpa [tlDs] using hr
                have hcq := hr.cap
                rw [mkDs_len] at hcq
                have hcq1 := hcq.1
                have hcq2 := hcq.2
                have hbq := Hb.out q hqK
                have hBq : Hid (∀ g, Γ q = some g → g < wr.heap.size) := fun g e => Nat.lt_of_lt_of_le (HB.out q hqK g e) t3.size
                clear hg t1 t2 t3 t4 t5 t6 t7 t8 hr hcq
                have II : Hid (∀ wq x, IReD wr wq (Γ q) (N q) q x 64 → ∃ (a : Option Addr) (c : Nat) (v' : Value) (w3 : World), x = .slice a (N q + 64) c ∧ (∀ ty, (Builtin.append_ #[73, 73] ty #[.slice va q vc, .slice (some ⟨wq.heap.size, 0, none⟩) 1 1]).run Try.prog (wq.alloc (.cells #[.slice a (N q + 64) c] 43)) = .ok v' w3) ∧ GReD w2 w3 gL i Γ N C v' (q + 1)) := fun wq x hx => hg'.out.step hqK hx HB.out HgL2.out (by omega)
                clear hg'
                simp only [VV] at cl
                generalize Γ q = γq at *
                generalize N q = nq at *
                generalize C q = cq at *
                generalize at0 γq = aq at *
                go_wp2
                go_loopw [10, 11] (fun x k wq => ∃ a : Nat, a ≤ 64 ∧ k = .int .i64 a ∧ Hid (IReD wr wq γq nq q x a)) (fun _ k _ => 64 - (intOf k).toNat)
                case atStart => exact ⟨0, Nat.zero_le _, rfl, I0⟩
                case round =>
                  obtain ⟨k, hk, rfl, hx⟩ := hrel
                  clear I0 cl
                  obtain ⟨PP, c1, β1, c0, hxv, -⟩ := hx.out
                  subst hxv
                  generalize at0 β1 = a1 at *
                  by_cases hk64 : k < 64
                  · have i3 : (k : Int) < 64 := by omega
                    obtain ⟨x', w3, hap, hI⟩ := hx.out.push hBq.out (by omega)
                    simp only [opc, tlD, List.length_nil] at hap
                    have I3 := hd hI
                    clear hx hI
                    go_wp2_with (at_builtin; refine wpList_append_k _ rfl _ _ 43 43 rfl _ _ rfl rfl (hap _) ?_)
                    exact ⟨⟨k + 1, by omega, by go_num, I3⟩, by simp [intOf]; omega⟩
                  · have i3 : ¬ (k : Int) < 64 := by omega
                    obtain rfl : k = 64 := by omega
                    obtain ⟨a, c, v', w3, hxv, hap, hG⟩ := II.out wr _ hx.out
                    obtain ⟨e1, -, e3⟩ := Value.slice.inj hxv
                    subst e1
                    subst e3
                    have G3 := hd hG
                    clear hx hG hxv
                    go_wp2_with (at_builtin; refine wpList_append_k _ rfl _ _ 73 73 rfl _ _ rfl rfl (hap _) ?_)
                    exact ⟨⟨q + 1, by omega, by go_num, G3⟩, by simp [intOf]; omega⟩
              · have i2 : ¬ (q : Int) < (i : Int) := by omega
                obtain ⟨P, C', H, D, vs, β, t1, t2, t3, t4, t5, t6, t7, t8⟩ := hg.out
                have hqq : q = i := by omega
                obtain ⟨va, vc, rfl, hf⟩ := formK t4 (t5.trans hqq)
                have TT := hd t1
                have LL := hd t2
                have BB := hd t3
                have RR : Hid (∀ j, j < i → vs[j]? = some (.slice (at0 (H j)) (N j + 64) (D j)) ∧ TO wr (H j) (D j) (mkDs (N j) j ++ tlDs j 64)) := fun j hj => ⟨(t6 j (by omega)).1, (t6 j (by omega)).2.1⟩
                have FF := hd hf
                clear hg t1 t2 t3 t4 t5 t6 t7 t8 hf hqq
                go_wp2
                go_loopw [12] (fun ii wq => ∃ a : Nat, a ≤ i ∧ ii = .int .i64 a ∧ wq = wr) (fun ii _ => i - (intOf ii).toNat)
                case atStart => exact ⟨0, Nat.zero_le _, rfl, rfl⟩
                case round =>
                  obtain ⟨u, hu, rfl, rfl⟩ := hrel
                  by_cases huK : u < i
                  · have i3 : (u : Int) < (i : Int) := by omega
                    have cl := LL.out.cell u huK
                    simp only [VV] at cl
                    obtain ⟨gg, rfl, hgg, hcell⟩ := FF.out (by omega)
                    obtain ⟨r1, r2⟩ := RR.out u huK
                    have cg := (hcell u huK).trans r1
                    have RB : Hid (TO wr (Γ u) (C' u) (mkDs (N u) u ++ P u)) := TT.out.2 u huK
                    have RH := hd r2
                    have hbu := Hb.out u huK
                    have cH := r2.cap
                    rw [List.length_append, mkDs_len, tlDs_len] at cH
                    have cH1 := cH.1
                    have cH2 := cH.2
                    clear r1 r2 hcell cH
                    generalize Γ u = γu at *
                    generalize N u = nu at *
                    generalize C u = cu at *
                    generalize H u = ηu at *
                    generalize D u = du at *
                    generalize P u = pu at *
                    generalize hau : at0 γu = au at *
                    generalize hbu2 : at0 ηu = bu at *
                    have HAU := hd hau
                    have HBU := hd hbu2
                    clear hau hbu2
                    go_wp2
                    go_loopw [14] (fun k wq => ∃ a : Nat, a ≤ nu + 64 ∧ k = .int .i64 a ∧ wq = wr) (fun k _ => nu + 64 - (intOf k).toNat)
                    case atStart => exact ⟨0, Nat.zero_le _, rfl, rfl⟩
                    case round =>
                      obtain ⟨k, hk, rfl, rfl⟩ := hrel
                      by_cases hkn : k < nu + 64
                      · have i4 : (k : Int) < (nu : Int) + 64 := by omega
                        have lH : (mkDs nu u ++ tlDs u 64).length = nu + 64 := by rw [List.length_append, mkDs_len, tlDs_len]
                        by_cases hkm : k < nu
                        · obtain ⟨h0, eh, ch0, -⟩ := RH.out.at k (by rw [lH]; exact hkn) _ (grownD_lo nu u k _ hkm)
                          subst eh
                          have HBU' := HBU.out
                          simp only [at0, Option.map] at HBU'
                          subst HBU'
                          have lB : k < (mkDs nu u ++ pu).length := by rw [List.length_append, mkDs_len]; omega
                          obtain ⟨b0, eb, cb, -⟩ := RB.out.at k lB _ (grownD_lo nu u k _ hkm)
                          subst eb
                          have HAU' := HAU.out
                          simp only [at0, Option.map] at HAU'
                          subst HAU'
                          simp only [mkD] at ch0 cb
                          have i5 : (k : Int) < (nu : Int) := by omega
                          clear lB lH
                          go_wp2
                          exact ⟨⟨k + 1, by omega, by go_num, by first | rfl | trivial⟩, by simp [intOf]; omega⟩
                        · obtain ⟨h0, eh, -, ch, -⟩ := RH.out.at k (by rw [lH]; exact hkn) _ (grownD_hi nu u k (by omega) hkn)
                          subst eh
                          have HBU' := HBU.out
                          simp only [at0, Option.map] at HBU'
                          subst HBU'
                          have ek : ((k - nu : Nat) : Int) = (k : Int) - (nu : Int) := by omega
                          have et : 1 + 1000 * (u : Int) + ((k - nu : Nat) : Int) = 1 + 1000 * (u : Int) + (k : Int) - (nu : Int) := by omega
                          simp only [tlD] at ch
                          rw [et] at ch
                          have i5 : ¬ (k : Int) < (nu : Int) := by omega
                          clear ek et lH
                          go_wp2
                          exact ⟨⟨k + 1, by omega, by go_num, by first | rfl | trivial⟩, by simp [intOf]; omega⟩
                      · go_wp2
                        exact ⟨⟨u + 1, by omega, by go_num, by first | rfl | trivial⟩, by simp [intOf]; omega⟩
                  · go_wp2
                    go_ret
                    exact ⟨rfl, (FR.out.mono (fun k _ h => .inr h)).next BB.out (fun k _ h => .inl h)⟩

end Go.Proofs.Ytnglcnilckolkaa
