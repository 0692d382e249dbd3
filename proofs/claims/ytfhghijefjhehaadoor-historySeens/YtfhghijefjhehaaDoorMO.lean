/-
  Texts put together: Jy Jz.
-/
import Derived.Test.YtfhghijefjhehaaDoorJx
import Derived.Test.YtfhghijefjhehaaDoorIp
/-! Jy -/
namespace Go.Proofs.YtfhghijefjhehaaDoor
open Go.RowKit
set_option linter.unusedVariables false

theorem pair_ne {l : List El} (h : l.Pairwise keyNe) {x y : El} (hx : x ∈ l) (hy : y ∈ l) (hne : x ≠ y) : keyNe x y := by
  induction l with
  | nil => cases hx
  | cons a l ih =>
    obtain ⟨h1, h2⟩ := List.pairwise_cons.1 h
    rcases List.mem_cons.1 hx with rfl | hx'
    · rcases List.mem_cons.1 hy with rfl | hy'
      · exact absurd rfl hne
      · exact h1 y hy'
    · rcases List.mem_cons.1 hy with rfl | hy'
      · exact (h1 x hx').symm
      · exact ih h2 hx' hy'

/-- All that is known where Check finds nothing. -/
structure Ok (C : Int) (log : List Ed) (evs : List Ev) (D : Nat → List El) : Prop where
  c : 1 ≤ C ∧ C ≤ 64
  n : log.length ≤ 4096
  gl : GL C log log.length
  ge : GE C log evs evs.length
  al : ∀ (j : Nat) (x : Ed), log[j]? = some x → x.o.sq ≤ (dn evs evs.length x.o.cl : Int)
  dl : ∀ j (hj : j < evs.length), (D j).length = evs[j].len
  dw : ∀ j, j < evs.length → ∀ x ∈ D j, wfE x
  ch : ∀ j (hj : j < evs.length), 0 ≤ evs[j].o.ch ∧ evs[j].o.ch ≤ 255

section
variable {C : Int} {log : List Ed} {evs : List Ev} {D : Nat → List El}
theorem Ok.facts (h : Ok C log evs D) : ∀ a x, a < evs.length → evs[a]? = some x → FactE evs log a x := fun a x ha hx => ((gE_R h.gl h.ge) a x ha hx).fact
theorem pvD_len (hl : ∀ j (hj : j < evs.length), (D j).length = evs[j].len) (c : Int) : ∀ n, n ≤ evs.length → (pvD evs D n c).length = (pv evs n c).len
  | 0, _ => rfl
  | n + 1, h => by
    rw [pvD_step evs D n c h, pv_step evs n c h]
    split
    · exact hl n h
    · exact pvD_len hl c n (by omega)
theorem Ok.edit (h : Ok C log evs D) {j : Nat} {x : Ev} (hx : evs[j]? = some x) (ho : x.o ≠ zo) : x.site ≠ 0 ∧ chg x.o ∧ fit (pv evs j x.site).len x.o ∧ x.o.cl = x.site := by
  have hj : j < evs.length := (List.getElem?_eq_some_iff.1 hx).1
  obtain ⟨-, -, hh⟩ := h.ge j x hj hx
  rcases hh with ⟨-, -, h3⟩ | ⟨h1, -, ⟨h2, -⟩, h4, h5, -⟩ | ⟨-, h2, -⟩
  · exact absurd h3 ho
  · exact ⟨h1, h4, h5, h2⟩
  · exact absurd h2 ho
theorem Ok.kind (h : Ok C log evs D) : ∀ (a : Nat) (x : Ev), evs[a]? = some x → x.o ≠ zo → x.o.kind = 1 ∨ x.o.kind = 2 := fun a x hx ho => by
  obtain ⟨-, h1, h2, -⟩ := h.edit hx ho
  obtain ⟨-, -, -, h4, -⟩ := fitsP_zero h2
  have := ((chP_iff x.o).1 h1).1
  rcases h4 with h4 | h4 | h4
  · exact absurd h4 this
  · exact .inl h4.1
  · exact .inr h4.1
theorem Ok.ev (h : Ok C log evs D) : ∀ j (hj : j < evs.length), evs[j].o ≠ zo → (0 ≤ evs[j].o.cl ∧ evs[j].o.cl ≤ 64) ∧ (evs[j].o.kind ≠ 1 → 0 ≤ evs[j].o.pos ∧ evs[j].o.pos < (pvD evs D j evs[j].site).length) := fun j hj ho => by
  have hx : evs[j]? = some evs[j] := List.getElem?_eq_getElem hj
  obtain ⟨-, h1, h2, -⟩ := h.edit hx ho
  have hr := chP_range h1
  refine ⟨⟨by omega, by omega⟩, fun hk => ?_⟩
  obtain ⟨-, -, -, h4, h5⟩ := fitsP_zero h2
  rw [pvD_len h.dl _ j (by omega)]
  have hz := ((chP_iff _).1 h1).1
  rcases h4 with h4 | h4 | h4
  · exact absurd h4 hz
  · exact absurd h4.1 hk
  · exact ⟨h5, h4.2⟩
theorem Ok.wf (h : Ok C log evs D) {c : Int} {d : Dd} (hd : d ∈ ddAt evs D evs.length c) : wfE (dEl d) := by
  obtain ⟨q, hq⟩ := List.mem_iff_getElem?.1 hd
  obtain ⟨j, x, h1, h2, h3, h4, h5, rfl⟩ := dd_of _ hq
  rw [dEl_mk]
  obtain ⟨-, hc, -, -⟩ := h.edit h2 h4
  by_cases hk : x.o.kind = 2
  · rw [elD_del hk]
    have hw : ∀ y ∈ pvD evs D j c, wfE y := by
      intro y hy
      unfold pvD at hy
      cases hg : (shAt evs j c).getLast? with
      | none => rw [hg] at hy; cases hy
      | some a =>
        rw [hg] at hy
        have ha : a ∈ shAt evs j c := List.mem_of_getLast? hg
        have hjl : j < evs.length := (List.getElem?_eq_some_iff.1 h2).1
        have hal : a < evs.length := by have := (shAt_lt ha).1; omega
        exact h.dw a hal y hy
    have hjl : j < evs.length := (List.getElem?_eq_some_iff.1 h2).1
    have hev := h.ev j hjl
    rw [(List.getElem?_eq_some_iff.1 h2).2, h3] at hev
    have hp : x.o.pos.toNat < (pvD evs D j c).length := by have := (hev h4).2 (by omega); omega
    have e : (pvD evs D j c).getD x.o.pos.toNat (0, 0, 0) = (pvD evs D j c)[x.o.pos.toNat] := getD_at _ _ _ hp
    rw [e]
    exact hw _ (List.getElem_mem hp)
  · rw [elD_ins hk]
    have hr := chP_range hc
    have hj : j < evs.length := (List.getElem?_eq_some_iff.1 h2).1
    have hch := h.ch j hj
    rw [(List.getElem?_eq_some_iff.1 h2).2] at hch
    exact ⟨hch, ⟨by simp only [oEl]; omega, by simp only [oEl]; omega⟩, by simp only [oEl]; omega, by simp only [oEl]; omega⟩

/-- The deed of the log's edit k. -/
def fD (log : List Ed) (evs : List Ev) (D : Nat → List El) (k : Nat) : Dd := match log[k]? with
  | some x => ((ddAt evs D evs.length x.o.cl)[x.o.sq.toNat - 1]?).getD ⟨⟨0, zo⟩, 0, 0, 0⟩
  | none => ⟨⟨0, zo⟩, 0, 0, 0⟩
theorem Ok.lg (h : Ok C log evs D) (k : Nat) (hk : k < log.length) : ∃ cN qN : Nat, log[k].o.cl = (cN : Int) ∧ cN < 65 ∧ log[k].o.sq = (qN : Int) + 1 ∧ (ddAt evs D evs.length (cN : Int))[qN]? = some (fD log evs D k) := by
  have hx : log[k]? = some log[k] := List.getElem?_eq_getElem hk
  obtain ⟨h1, h2, -⟩ := h.gl k _ hk hx
  have hr := chP_range h1
  have ha := h.al k _ hx
  refine ⟨log[k].o.cl.toNat, log[k].o.sq.toNat - 1, by omega, by omega, by omega, ?_⟩
  have e : ((log[k].o.cl.toNat : Nat) : Int) = log[k].o.cl := by omega
  rw [e]
  have hl : log[k].o.sq.toNat - 1 < (ddAt evs D evs.length log[k].o.cl).length := by rw [ddAt_len]; omega
  simp only [fD, hx]
  rw [List.getElem?_eq_getElem hl]
  rfl
theorem vis_eq (h : Ok C log evs D) (e : Ev) (hN : Nat) (he : e.hav = (hN : Int)) (hl : hN ≤ log.length) : visP log evs D e = (List.range hN).map (fD log evs D) ++ (ddAt evs D evs.length e.site).take e.made.toNat := by
  unfold visP
  rw [he, Int.toNat_natCast]
  congr 1
  clear he
  induction hN with
  | zero => simp
  | succ n ih =>
    rw [List.range_succ, List.map_append, ← ih (by omega), List.take_add_one, List.getElem?_eq_getElem (show n < log.length by omega), List.filterMap_append]
    congr 1
    obtain ⟨cN, qN, h1, h2, h3, h4⟩ := h.lg n (by omega)
    have h5 : (ddAt evs D evs.length log[n].o.cl)[log[n].o.sq.toNat - 1]? = some (fD log evs D n) := by
      rw [h1, h3, show ((qN : Int) + 1).toNat - 1 = qN by omega]
      exact h4
    simp [h5]
theorem Ok.at (h : Ok C log evs D) {i : Nat} {e : Ev} (hi : evs[i]? = some e) : ∃ sN hN mN : Nat, e.site = (sN : Int) ∧ sN < 65 ∧ e.hav = (hN : Int) ∧ hN ≤ log.length ∧ e.made = (mN : Int) ∧ mN ≤ (ddAt evs D evs.length e.site).length := by
  have hil : i < evs.length := (List.getElem?_eq_some_iff.1 hi).1
  have hpv : pv evs (i + 1) e.site = e := by simp only [pv, hi, if_true]
  have hE1 : GE C log evs (i + 1) := h.ge.mono (by omega)
  have hb := pv_bounds hE1 e.site
  rw [hpv] at hb
  obtain ⟨⟨a1, a2, -, -⟩, ⟨-, a5⟩, hh⟩ := h.ge i e hil hi
  have hc := h.c
  refine ⟨e.site.toNat, e.hav.toNat, e.made.toNat, by omega, by omega, by omega, by omega, by omega, ?_⟩
  by_cases hs : e.site = 0
  · rcases hh with ⟨-, h2, -⟩ | ⟨h1, -⟩ | ⟨h1, -⟩
    · rw [h2]; exact Nat.zero_le _
    · exact absurd hs h1
    · exact absurd hs h1
  · have := made_dn (i := i + 1) (fun j x hj hx => h.facts j x (by omega) hx) hs
    rw [hpv] at this
    rw [ddAt_len, this, Int.toNat_natCast]
    exact dn_mono (by omega) _
theorem S2_ds (nE c : Nat) (hc : c < 65) : S2 log evs D nE (130 + c) = .ds (ddAt evs D nE (c : Int)) := by
  unfold S2
  rw [if_neg (by omega), if_neg (by omega), show 130 + c - 130 = c by omega]
theorem Ok.there (h : Ok C log evs D) {i : Nat} {e : Ev} (hi : evs[i]? = some e) (x : El) : thereP (visP log evs D e) x ↔ x ∈ stayP log evs D e := by
  rw [stay_iff (D := D) h.gl h.ge h.facts h.al h.kind hi x]
  unfold thereP madeB goneB
  simp only [decide_eq_true_eq, decide_eq_false_iff_not]
  constructor
  · rintro ⟨-, h1, h2⟩
    exact ⟨h1, h2⟩
  · rintro ⟨⟨d, h1, h2, h3⟩, h4⟩
    exact ⟨⟨d, h1, h3⟩, ⟨d, h1, h2, h3⟩, h4⟩
theorem Ok.keys (h : Ok C log evs D) {e : Ev} : (stayP log evs D e).Pairwise keyNe := stay_keys h.ge h.facts
end

end Go.Proofs.YtfhghijefjhehaaDoor

/-! Jz -/
namespace Go.Proofs.YtfhghijefjhehaaDoor
open Go.RowKit
set_option linter.unusedVariables false

theorem rcs_zero {C : Int} {nL nE : Nat} {log : List Ed} {evs : List Ev} {p : Int} (hl : log.length = nL) (he : evs.length = nE) (h : RCs C nL nE log evs 0 p) : (1 ≤ C ∧ C ≤ 64) ∧ log.length ≤ 4096 ∧ GL C log log.length ∧ GE C log evs evs.length ∧ (∀ (j : Nat) (x : Ed), log[j]? = some x → x.o.sq ≤ (dn evs evs.length x.o.cl : Int)) ∧ p = -1 := by
  rcases h with ⟨-, h, -⟩ | ⟨-, -, h, -⟩ | ⟨-, -, k, -, -, -, h, -⟩ | ⟨-, -, -, i, -, -, -, h, -⟩ | ⟨-, -, -, -, k, -, -, -, h, -⟩ | ⟨a, b, g, ge, g1, -, hp⟩
  · omega
  · omega
  · omega
  · omega
  · omega
  · have gl : GL C log log.length := by rw [hl]; exact glD g
    have gr : GEr C log evs evs.length := by rw [he]; exact ge
    exact ⟨a, by omega, gl, gR_E gl gr, fun j x hx => (mk_iff gl gr hx).1 (g1 j x hx), hp⟩

theorem ro_split {C : Int} {aL aE : Option Addr} {nL cL nE cE : Nat} {log : List Ed} {evs : List Ev} {D : Nat → List El} {w w' : World} {e : Ending} (hl : log.length = nL) (he : evs.length = nE) (h1 : RO C aL aE nL cL nE cE log evs D w e w') :
    ∃ v ev, e = .returned (.tuple #[v, ev]) ∧ Below w.heap.size w w' ∧ ((∃ c p, RCs C nL nE log evs c p ∧ IsF w' ev p c ∧ c ≠ 0) ∨ (RCs C nL nE log evs 0 (-1) ∧ ev = .nilIface ∧ ∃ x L, v = .pointer (some ⟨x, 0, none⟩) ∧ w.heap.size ≤ x ∧ TL w' x C (.slice aL nL cL) (.slice aE nE cE) (S2 log evs D nE) L)) := by
  obtain ⟨v', ev', c, p, e', hB', hR, hF⟩ := ro_rcs hl he h1
  obtain ⟨v, ev, e0, hB, h1⟩ := h1
  obtain ⟨rfl, rfl⟩ : v = v' ∧ ev = ev' := by
    have := e0.symm.trans e'
    simpa using this
  refine ⟨v, ev, e0, hB, ?_⟩
  rcases hF with ⟨f1, f2⟩ | ⟨rfl, rfl, rfl⟩
  · exact .inl ⟨c, p, hR, f1, f2⟩
  · right
    have no : ∀ p c, ¬ IsF w' .nilIface p c := fun p c ⟨b, h, _⟩ => by cases h
    rcases h1 with ⟨a, h1⟩ | ⟨a, b, h1⟩ | ⟨a, b, k, hk, g1, g2, h1⟩ | ⟨a, b, g, i, hi, g1, g2, h1⟩ | ⟨a, b, g, ge, k, hk, g1, g2, h1⟩ | ⟨a, b, g, ge, g1, -, x, L, h3, h4, h5⟩
    · exact absurd h1 (no _ _)
    · exact absurd h1 (no _ _)
    · exact absurd h1 (no _ _)
    · exact absurd h1 (no _ _)
    · exact absurd h1 (no _ _)
    · exact ⟨hR, rfl, x, L, h3, h4, h5⟩

/-- What Seen answers. -/
def SeP (C : Int) (nL nE : Nat) (log : List Ed) (evs : List Ev) (D : Nat → List El) (i : Int) (L : List El) (c p : Int) : Prop :=
  (RCs C nL nE log evs c p ∧ c ≠ 0 ∧ L = []) ∨ (RCs C nL nE log evs 0 (-1) ∧ (i < 0 ∨ (nE : Int) ≤ i) ∧ L = [] ∧ c = 144 ∧ p = i) ∨
  (RCs C nL nE log evs 0 (-1) ∧ ∃ (iN : Nat) (e : Ev), i = (iN : Int) ∧ evs[iN]? = some e ∧ L.Pairwise ltK ∧ (∀ x, x ∈ L ↔ x ∈ stayP log evs D e) ∧ c = 0 ∧ p = -1)
theorem sep_one {C : Int} {nL nE : Nat} {log : List Ed} {evs : List Ev} {D : Nat → List El} {i : Int} {L L' : List El} {c p c' p' : Int} (hl : log.length = nL) (he : evs.length = nE) (h : SeP C nL nE log evs D i L c p) (h' : SeP C nL nE log evs D i L' c' p') : L = L' ∧ c = c' ∧ p = p' := by
  rcases h with ⟨a, b, rfl⟩ | ⟨a, b, rfl, rfl, rfl⟩ | ⟨a, iN, e, rfl, h1, h2, h3, rfl, rfl⟩
  · rcases h' with ⟨a', b', rfl⟩ | ⟨a', -⟩ | ⟨a', -⟩
    · exact ⟨rfl, rcs_one hl he a a'⟩
    · exact absurd (rcs_one hl he a a').1 b
    · exact absurd (rcs_one hl he a a').1 b
  · rcases h' with ⟨a', b', rfl⟩ | ⟨a', b', rfl, rfl, rfl⟩ | ⟨a', iN, e, rfl, h1, -⟩
    · exact absurd (rcs_one hl he a' a).1 b'
    · exact ⟨rfl, rfl, rfl⟩
    · have := (List.getElem?_eq_some_iff.1 h1).1
      omega
  · rcases h' with ⟨a', b', rfl⟩ | ⟨a', b', rfl, rfl, rfl⟩ | ⟨a', iN', e', hi', h1', h2', h3', rfl, rfl⟩
    · exact absurd (rcs_one hl he a' a).1 b'
    · have := (List.getElem?_eq_some_iff.1 h1).1
      omega
    · obtain rfl : iN = iN' := by omega
      rw [h1] at h1'
      obtain rfl := Option.some.inj h1'
      exact ⟨sorted_ext h2 h2' (fun x => (h3 x).trans (h3' x).symm), rfl, rfl⟩

set_option maxRecDepth 100000 in
set_option maxHeartbeats 8000000 in
theorem hseen_any (C : Int) (aL aE : Option Addr) (nL cL nE cE : Nat) (log : List Ed) (evs : List Ev) (A : Nat → Option Addr) (K : Nat → Nat) (D : Nat → List El) (i : Int) (w : World) (hL : IsL w aL nL log) (hV : IsV w aE nE evs A K) (hX : IsX w evs A D) (hnE : nE ≤ 1466015503701)
    (hcl : ∀ j (h : j < log.length), 0 ≤ log[j].o.ch ∧ log[j].o.ch ≤ 255) (hce : ∀ j (h : j < evs.length), 0 ≤ evs[j].o.ch ∧ evs[j].o.ch ≤ 255) (hDw : ∀ j, j < evs.length → ∀ x ∈ D j, wfE x) (hcap : nL ≤ cL ∧ cL ≤ 4611686018427387904) :
    Calls Tryd.prog 9 #[.agg #[.int .i64 C, .slice aL nL cL, .slice aE nE cE], .int .i64 i] w fun e w' => ∃ a cc L ev c p, e = .returned (.tuple #[.slice a (List.length (α := El) L) cc, ev]) ∧ Below w.heap.size w w' ∧ IsTx w' a L ∧ SeP C nL nE log evs D i L c p ∧ ((IsF w' ev p c ∧ c ≠ 0) ∨ (ev = .nilIface ∧ c = 0 ∧ p = -1)) := by
  have hb : Below w.heap.size w (w.alloc (.cells #[.int .i64 C, .slice aL nL cL, .slice aE nE cE] 25)) := (Below.refl _ _).alloc (Nat.le_refl _) _
  have HG := hd (heap_alloc_new w (.cells #[.int .i64 C, .slice aL nL cL, .slice aE nE cE] 25))
  have HB := hd hb
  have HLE := hd (show log.length = nL ∧ evs.length = nE from ⟨hL.1, hV.1⟩)
  have CR := hd (read_any C aL aE nL cL nE cE log evs A K D _ (hL.below hb (Nat.le_refl _)) (hV.below hb (Nat.le_refl _)) (hX.below hb (Nat.le_refl _)) (by omega) hcl hce)
  have HL := hd (fun u (hu : Below w.heap.size w u) => hL.below hu (Nat.le_refl _))
  have HV := hd (fun u (hu : Below w.heap.size w u) => hV.below hu (Nat.le_refl _))
  have HDL := hd (fun j (hj : j < evs.length) => (hX j hj).1)
  have HN := hd hnE
  have HCE := hd hce
  have HDW := hd hDw
  have HCP := hd hcap
  have nilT := hd (fun (u : World) => (show IsTx u none [] from fun h => by simp at h))
  clear hb hL hV hX hnE hcl hce hDw hcap
  go_enter Tryd.func9, Tryd.ntmps9
  go_upto_region 1 with fail
  generalize w.alloc (.cells #[.int .i64 C, .slice aL nL cL, .slice aE nE cE] 25) = w0 at *
  have m0 := cell_row HG.out 0; have m1 := cell_row HG.out 1; have m2 := cell_row HG.out 2
  simp at m0 m1 m2
  go_upto_region 2 with (go_at_call 12; refine CR.out.mono ?_; intro e u hro; obtain ⟨v, ev, rfl, bu, hro⟩ := ro_split HLE.out.1 HLE.out.2 hro)
  have BU := hd (HB.out.trans (bu.mono HB.out.size))
  have n2 := (bu.cell (p := ⟨w.heap.size, 2, none⟩) (block_lt HG.out)).trans m2
  clear CR m0 m1 m2 bu HG HB
  rcases hro with ⟨c, p, hR, hF, hc⟩ | ⟨hR, rfl, x, L, rfl, hx, hT⟩
  · have Z : Hid (Below w.heap.size w u ∧ IsTx u none [] ∧ SeP C nL nE log evs D i [] c p ∧ (IsF u ev p c ∧ c ≠ 0)) := ⟨BU.out, nilT.out u, .inl ⟨hR, hc, rfl⟩, hF, hc⟩
    obtain ⟨b, rfl, -⟩ := hF
    clear hR hc nilT BU HL HV HDL HDW HCE HLE n2
    go_wp2
    go_ret2
    exact ⟨none, 0, [], _, c, p, rfl, Z.out.1, Z.out.2.1, Z.out.2.2.1, .inl Z.out.2.2.2⟩
  · have HR := hd hR
    have HT := hd hT
    clear hR hT
    by_cases hi0 : i < 0
    · have CW := hd (fun W => wrap_any i 144 W)
      clear HL HV HDL HDW HCE HT
      go_wp2_with (go_at_call 20; refine (CW.out _).mono ?_; rintro e u2 ⟨v2, rfl, hF, b2⟩)
      have Z : Hid (Below w.heap.size w u2 ∧ SeP C nL nE log evs D i [] 144 i ∧ IsF u2 v2 i 144) := ⟨BU.out.trans (b2.mono BU.out.size), .inr (.inl ⟨HR.out, .inl hi0, rfl, rfl, rfl⟩), hF⟩
      clear hF b2 CW
      go_wp2
      go_ret2
      exact ⟨none, 0, [], _, 144, i, rfl, Z.out.1, nilT.out _, Z.out.2.1, .inl ⟨Z.out.2.2, by omega⟩⟩
    · by_cases hi1 : (nE : Int) ≤ i
      · have CW := hd (fun W => wrap_any i 144 W)
        clear HL HV HDL HDW HCE HT
        go_wp2_with (go_at_call 20; refine (CW.out _).mono ?_; rintro e u2 ⟨v2, rfl, hF, b2⟩)
        have Z : Hid (Below w.heap.size w u2 ∧ SeP C nL nE log evs D i [] 144 i ∧ IsF u2 v2 i 144) := ⟨BU.out.trans (b2.mono BU.out.size), .inr (.inl ⟨HR.out, .inr hi1, rfl, rfl, rfl⟩), hF⟩
        clear hF b2 CW
        go_wp2
        go_ret2
        exact ⟨none, 0, [], _, 144, i, rfl, Z.out.1, nilT.out _, Z.out.2.1, .inl ⟨Z.out.2.2, by omega⟩⟩
      · obtain ⟨iN, rfl⟩ : ∃ iN : Nat, i = (iN : Int) := ⟨i.toNat, by omega⟩
        have hil : iN < evs.length := by have := HLE.out.2; omega
        have hei : evs[iN]? = some evs[iN] := List.getElem?_eq_getElem hil
        obtain ⟨r1, r2, r3, r4, r5, -⟩ := rcs_zero HLE.out.1 HLE.out.2 HR.out
        have OK : Hid (Ok C log evs D) := ⟨r1, r2, r3, r4, r5, HDL.out, HDW.out, HCE.out⟩
        obtain ⟨sN, hN, mN, a1, a2, a3, a4, a5, a6⟩ := OK.out.at hei
        obtain ⟨b, off, rfl, sb, q⟩ := (HV.out u BU.out).2 (by have := HLE.out.2; omega)
        obtain ⟨k0, k1, k2, k3, k4, k5, k6, k7, k8, k9⟩ := q iN hil
        have VE := hd (vis_eq OK.out evs[iN] hN a3 a4)
        rw [a1, a5, Int.toNat_natCast] at VE
        rw [a1] at k1 a6
        rw [a3] at k2
        rw [a5] at k3
        have i1 : (iN : Int) < (nE : Int) := by omega
        have HEI := hd hei
        have WFV : Hid ((∀ k, k < hN → wfE (dEl (fD log evs D k))) ∧ ∀ d ∈ ddAt evs D evs.length (sN : Int), wfE (dEl d)) := ⟨fun k hk => by
          obtain ⟨cN, qN, -, -, -, h4⟩ := OK.out.lg k (by omega)
          exact OK.out.wf (List.mem_of_getElem? h4), fun d hd => OK.out.wf hd⟩
        have CS := hd (sightAt_any u x C aL nL cL (.slice (some ⟨b, off, none⟩) nE cE) (S2 log evs D nE) L log evs[iN].step sN hN mN evs[iN].o.kind evs[iN].o.pos evs[iN].o.ch evs[iN].o.cl evs[iN].o.sq (A iN) evs[iN].len (K iN) HT.out (HL.out u BU.out) (fun c => ddAt evs D evs.length (c : Int)) (fun c hc => by rw [HLE.out.2]; exact S2_ds nE c hc) (fD log evs D) (fun k hk hkN => OK.out.lg k hk) (by have := HLE.out.1; omega) HCP.out.1 HCP.out.2 a2 a6 WFV.out.1 WFV.out.2 (fun c => by rw [ddAt_len]; exact Nat.le_trans (dn_le _ _) (by have := HN.out; have := HLE.out.2; omega)))
        have LV := hd (show ((List.range hN).map (fD log evs D) ++ (ddAt evs D evs.length (sN : Int)).take mN).length ≤ 5864062014634 from by
          have h1 : (ddAt evs D evs.length (sN : Int)).length ≤ evs.length := by rw [ddAt_len]; exact dn_le _ _
          have := HN.out; have := HLE.out.2
          simp only [List.length_append, List.length_map, List.length_range, List.length_take]
          omega)
        clear q hei r1 r2 r3 r4 r5 a1 a2 a3 a4 a5 a6 sb HL HV HDL HDW HCE HT WFV
        generalize hev : evs[iN] = ex at *
        clear hev
        go_wp2_with (go_at_call 21; refine CS.out.mono ?_; rintro e u2 ⟨s, m, rfl, hg, -, -, b2⟩)
        have HGs := hd hg
        have LV2 := LV
        rw [← VE.out] at HGs LV2
        have CL := hd (list_any u2 s m (visP log evs D ex) HGs.out LV2.out (fun x y hx hy hne => pair_ne OK.out.keys ((OK.out.there HEI.out x).1 hx) ((OK.out.there HEI.out y).1 hy) hne))
        have BU2 := hd (BU.out.trans (b2.mono BU.out.size))
        clear hg HGs LV LV2 CS k0 k1 k2 k3 k4 k5 k6 k7 k8 k9 n2 b2
        refine CL.out.mono ?_
        rintro e u3 ⟨a, c, L3, rfl, ht, hp, hm, b3⟩
        have Z : Hid (Below w.heap.size w u3 ∧ IsTx u3 a L3 ∧ SeP C nL nE log evs D (iN : Int) L3 0 (-1)) := ⟨BU2.out.trans (b3.mono BU2.out.size), ht, .inr (.inr ⟨HR.out, iN, ex, rfl, HEI.out, hp, fun x => (hm x).trans (OK.out.there HEI.out x), rfl, rfl⟩)⟩
        clear ht hp hm b3 CL VE
        go_wp2
        go_ret2
        exact ⟨a, c, L3, _, 0, -1, rfl, Z.out.1, Z.out.2.1, Z.out.2.2, .inr ⟨rfl, rfl, rfl⟩⟩

set_option maxRecDepth 100000 in
set_option maxHeartbeats 8000000 in
theorem rseen_law (C : Int) (aL aE : Option Addr) (nL cL nE cE : Nat) (log : List Ed) (evs : List Ev) (A : Nat → Option Addr) (K : Nat → Nat) (D : Nat → List El) (i : Int) (w : World) (hL : IsL w aL nL log) (hV : IsV w aE nE evs A K) (hX : IsX w evs A D) (hnE : nE ≤ 1466015503701)
    (hce : ∀ j (h : j < evs.length), 0 ≤ evs[j].o.ch ∧ evs[j].o.ch ≤ 255) (hDw : ∀ j, j < evs.length → ∀ x ∈ D j, wfE x) :
    Calls Tryd.prog 10 #[.agg #[.int .i64 C, .slice aL nL cL, .slice aE nE cE], .int .i64 i] w fun e w' => ∃ a cc L c p, e = .returned (.tuple #[.slice a (List.length (α := El) L) cc, .int .i64 c, .int .i64 p]) ∧ Below w.heap.size w w' ∧ IsTx w' a L ∧ SeP C nL nE log evs D i L c p ∧ List.length (α := El) L ≤ 5864062014634 := by
  have hb : Below w.heap.size w (w.alloc (.cells #[.int .i64 C, .slice aL nL cL, .slice aE nE cE] 25)) := (Below.refl _ _).alloc (Nat.le_refl _) _
  have HG := hd (heap_alloc_new w (.cells #[.int .i64 C, .slice aL nL cL, .slice aE nE cE] 25))
  have HB := hd hb
  have HLE := hd (show log.length = nL ∧ evs.length = nE from ⟨hL.1, hV.1⟩)
  have CR := hd (rcheck_any C aL aE nL cL nE cE log evs A K _ (hL.below hb (Nat.le_refl _)) (hV.below hb (Nat.le_refl _)) (by omega))
  have HL := hd (fun u (hu : Below w.heap.size w u) => hL.below hu (Nat.le_refl _))
  have HV := hd (fun u (hu : Below w.heap.size w u) => hV.below hu (Nat.le_refl _))
  have HX := hd (fun u (hu : Below w.heap.size w u) => hX.below hu (Nat.le_refl _))
  have HDL := hd (fun j (hj : j < evs.length) => (hX j hj).1)
  have HN := hd hnE
  have HCE := hd hce
  have HDW := hd hDw
  have nilT := hd (fun (u : World) => (show IsTx u none [] from fun h => by simp at h))
  clear hb hL hV hX hnE hce hDw
  go_enter Tryd.func10, Tryd.ntmps10
  go_upto_region 1 with fail
  generalize w.alloc (.cells #[.int .i64 C, .slice aL nL cL, .slice aE nE cE] 25) = w0 at *
  have m0 := cell_row HG.out 0; have m1 := cell_row HG.out 1; have m2 := cell_row HG.out 2
  simp at m0 m1 m2
  go_upto_region 2 with (go_at_call 7; refine CR.out.mono ?_; rintro e u ⟨c, p, rfl, hR, bu⟩)
  have BU := hd (HB.out.trans (bu.mono HB.out.size))
  have n0 := (bu.cell (p := ⟨w.heap.size, 0, none⟩) (block_lt HG.out)).trans m0
  have n1 := (bu.cell (p := ⟨w.heap.size, 1, none⟩) (block_lt HG.out)).trans m1
  have n2 := (bu.cell (p := ⟨w.heap.size, 2, none⟩) (block_lt HG.out)).trans m2
  have HR := hd hR
  clear CR m0 m1 m2 bu HG HB hR
  by_cases hc : c = 0
  · subst hc
    obtain ⟨r1, r2, r3, r4, r5, rfl⟩ := rcs_zero HLE.out.1 HLE.out.2 HR.out
    have OK : Hid (Ok C log evs D) := ⟨r1, r2, r3, r4, r5, HDL.out, HDW.out, HCE.out⟩
    clear r1 r2 r3 r4 r5 HDL HDW HCE
    by_cases hi0 : i < 0
    · have Z : Hid (SeP C nL nE log evs D i [] 144 i) := .inr (.inl ⟨HR.out, .inl hi0, rfl, rfl, rfl⟩)
      clear HL HV HX HR OK
      go_wp2
      go_ret3
      exact ⟨none, 0, [], 144, i, rfl, BU.out, nilT.out _, Z.out, by simp⟩
    · by_cases hi1 : (nE : Int) ≤ i
      · have Z : Hid (SeP C nL nE log evs D i [] 144 i) := .inr (.inl ⟨HR.out, .inr hi1, rfl, rfl, rfl⟩)
        clear HL HV HX HR OK
        go_wp2
        go_ret3
        exact ⟨none, 0, [], 144, i, rfl, BU.out, nilT.out _, Z.out, by simp⟩
      · obtain ⟨iN, rfl⟩ : ∃ iN : Nat, i = (iN : Int) := ⟨i.toNat, by omega⟩
        have hil : iN < evs.length := by have := HLE.out.2; omega
        have hei : evs[iN]? = some evs[iN] := List.getElem?_eq_getElem hil
        obtain ⟨sN, hN, mN, a1, a2, a3, a4, a5, a6⟩ := OK.out.at hei
        obtain ⟨b, off, rfl, sb, -⟩ := (HV.out w (Below.refl _ _)).2 (by have := HLE.out.2; omega)
        have CS := hd (seen_any C aL b off nL cL nE cE iN log evs A K D u (HL.out u BU.out) (HV.out u BU.out) (HX.out u BU.out) (by have := HLE.out.1; have := OK.out.n; omega) (by have := HN.out; omega) (Nat.lt_of_lt_of_le sb BU.out.size) hil (by omega) (by have := HLE.out.1; omega) (by omega) (by omega) (fun j hj => by
          have := chP_range (OK.out.gl j _ hj (List.getElem?_eq_getElem hj)).1
          omega) OK.out.ev OK.out.keys)
        have HEI := hd hei
        have i1 : ¬ (nE : Int) ≤ (iN : Int) := hi1
        clear hei a1 a2 a3 a4 a5 a6 sb HL HV HX
        go_wp2_with (go_at_call 23; refine CS.out.mono ?_; rintro e u3 ⟨a, cc, L3, rfl, ht, hp, hm, b3, hlen⟩)
        have Z : Hid (Below w.heap.size w u3 ∧ IsTx u3 a L3 ∧ SeP C nL nE log evs D (iN : Int) L3 0 (-1) ∧ List.length (α := El) L3 ≤ 5864062014634) := ⟨BU.out.trans (b3.mono BU.out.size), ht, .inr (.inr ⟨HR.out, iN, _, rfl, HEI.out, hp, hm, rfl, rfl⟩), hlen⟩
        clear ht hp hm b3 CS hlen
        go_wp2
        go_ret3
        exact ⟨a, cc, L3, 0, -1, rfl, Z.out.1, Z.out.2.1, Z.out.2.2⟩
  · have Z : Hid (SeP C nL nE log evs D i [] c p) := .inl ⟨HR.out, hc, rfl⟩
    have hcb : (c == 0) = false := by simpa using hc
    clear HL HV HX HR HDL HDW HCE
    go_wp2
    go_ret3
    exact ⟨none, 0, [], c, p, rfl, BU.out, nilT.out _, Z.out, by simp⟩

end Go.Proofs.YtfhghijefjhehaaDoor
