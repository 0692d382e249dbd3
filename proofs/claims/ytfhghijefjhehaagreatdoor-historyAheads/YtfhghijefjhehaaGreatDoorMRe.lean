/-
  Texts put together: Re Rf Rg Rh.
-/
import Derived.Test.YtfhghijefjhehaaGreatDoorMRc
import Derived.Test.YtfhghijefjhehaaGreatDoorMPm
import Derived.Deep.MidRow
/-! Re -/
namespace Go.Proofs.YtfhghijefjhehaaGreatDoor
open Go.RowKit
set_option linter.unusedVariables false

theorem ddAt_mono {evs : List Ev} {D : Nat → List El} {c : Int} {d : Dd} : ∀ {q m : Nat}, q ≤ m → d ∈ ddAt evs D q c → d ∈ ddAt evs D m c
  | q, 0, h, hm => by
    obtain rfl : q = 0 := by omega
    exact hm
  | q, m + 1, h, hm => by
    by_cases e : q = m + 1
    · subst e; exact hm
    · simp only [ddAt]
      exact List.mem_append.2 (.inl (ddAt_mono (q := q) (m := m) (by omega) hm))
/-- An element was put in: a deed tells so. -/
theorem ins_deeds {C : Nat} {log : List Ed} {evs : List Ev} {D : Nat → List El} (hE : GE (C : Int) log evs evs.length) (hC : C ≤ 64) (x : El) : InsP evs x ↔ ∃ c, c < 65 ∧ ∃ d ∈ ddAt evs D evs.length ((c : Nat) : Int), d.e.o.kind = 1 ∧ ((d.c, d.l, d.s) : El) = x := by
  constructor
  · rintro ⟨j, hj, h1, h2⟩
    have hz : zoB evs[j].o = false := by
      cases h : zoB evs[j].o with
      | false => rfl
      | true =>
        have := (zoB_iff _).1 h
        rw [this] at h1
        simp [zo] at h1
    obtain ⟨cN, hc, hcC⟩ := site_of hE j hj hz
    refine ⟨cN, by omega, mkD (pvD evs D j (cN : Int)) evs[j], ddAt_mono (q := j + 1) (by omega) ?_, h1, ?_⟩
    · rw [← hc, dd_same (List.getElem?_eq_getElem hj) hz]
      simp
    · have e2 : ¬ evs[j].o.kind = 2 := by omega
      have e3 : elD (pvD evs D j (cN : Int)) evs[j] = elE evs[j].o := by unfold elD; exact if_neg e2
      simp only [mkD, e3]
      exact h2
  · rintro ⟨c, hc, d, hd1, hk, hx⟩
    obtain ⟨q, hq, hdq⟩ := List.getElem_of_mem hd1
    obtain ⟨j, e, h1, h2, h3, h4, h5, rfl⟩ := dd_of _ (List.getElem?_eq_some_iff.2 ⟨hq, hdq⟩)
    obtain ⟨hj, rfl⟩ := List.getElem?_eq_some_iff.1 h2
    have hk' : evs[j].o.kind = 1 := hk
    refine ⟨j, hj, hk', ?_⟩
    have e2 : ¬ evs[j].o.kind = 2 := by omega
    have e3 : elD (pvD evs D j (c : Int)) evs[j] = elE evs[j].o := by unfold elD; exact if_neg e2
    simp only [mkD, e3] at hx
    exact hx

end Go.Proofs.YtfhghijefjhehaaGreatDoor

/-! Rf -/
namespace Go.Proofs.YtfhghijefjhehaaGreatDoor
open Go.RowKit
set_option linter.unusedVariables false

/-- The lists of deeds, as they lie there. -/
theorem TL.deeds {w : World} {x : Nat} {C : Int} {vL vE : Value} {S : Nat → Ls} {L : Nat → Option Nat} (h : TL w x C vL vE S L) (Z : Nat → List Dd) (hS : ∀ c, c < 65 → S (130 + c) = .ds (Z c)) :
    ∃ cs : List Value, cs.length = 65 ∧ w.rangeAt x 133 cs ∧ ∀ c, c < 65 → ∃ a cp, cs[c]? = some (.slice a (Z c).length cp) ∧ (0 < (Z c).length → ∃ g, a = some ⟨g, 0, none⟩ ∧ g < w.heap.size ∧ ∀ q (hq : q < (Z c).length) j u, j < 9 → (ddc (Z c)[q])[j]? = some u → w.cell? ⟨g, q * 9 + j, none⟩ = some u) := by
  have each : ∀ c, ∃ v, c < 65 → (w.cell? ⟨x, 133 + c, none⟩ = some v ∧ ∃ β, SF ddc 9 w 143 β v (Z c)) := fun c => by
    by_cases hc : c < 65
    · obtain ⟨v, h1, h2⟩ := h.slot (130 + c) (by omega)
      rw [hS c hc] at h2
      exact ⟨v, fun _ => ⟨by rw [show 133 + c = 3 + (130 + c) by omega]; exact h1, _, h2⟩⟩
    · exact ⟨.nilIface, fun h => absurd h hc⟩
  obtain ⟨f, hf⟩ := Classical.axiomOfChoice each
  refine ⟨(List.range 65).map f, by simp, fun j v hj => ?_, fun c hc => ?_⟩
  · rw [List.getElem?_map] at hj
    by_cases hj6 : j < 65
    · rw [List.getElem?_range hj6] at hj
      obtain rfl : f j = v := by simpa using hj
      exact (hf j hj6).1
    · rw [List.getElem?_eq_none (by simp; omega)] at hj
      simp at hj
  · obtain ⟨-, β, h2⟩ := hf c hc
    rw [List.getElem?_map, List.getElem?_range hc]
    cases β with
    | none =>
      obtain ⟨e1, e2⟩ := h2
      refine ⟨none, 0, by simp [e1, e2], fun h => by rw [e2] at h; simp at h⟩
    | some g =>
      obtain ⟨cap, e1, hR⟩ := h2
      refine ⟨_, cap, by simp [e1], fun _ => ⟨g, rfl, hR.lt, fun q hq j u hj hu => ?_⟩⟩
      rw [hR.cell szD q j hq hj]
      exact hu

theorem infoDs : (Tryz.prog.info? 115).map (·.size) = some 65 := by kernel_rfl

/-- An element of the array, read by value. -/
theorem idxDs (cs : List Value) (k : Nat) (hk : k < 65) (v : Value) (hv : cs[k]? = some v) (W : World) : (Instr.index 115 (.agg cs.toArray) (.int .i64 (k : Int))).run Tryz.prog W = .ok v W := by
  simp [Instr.index, run_underlying Tryz.underlying115, asIntOf, go_sem, part, hv]
  omega
/-- A deed put the element in. -/
def InsD (Z : Nat → List Dd) (y : El) : Prop := ∃ c, c < 65 ∧ ∃ d ∈ Z c, d.e.o.kind = 1 ∧ ((d.c, d.l, d.s) : El) = y

set_option maxRecDepth 100000 in
set_option maxHeartbeats 4000000 in
theorem inserted_any {w : World} {x : Nat} {C : Int} {vL vE : Value} {S : Nat → Ls} {L : Nat → Option Nat} (h : TL w x C vL vE S L) (Z : Nat → List Dd) (hS : ∀ c, c < 65 → S (130 + c) = .ds (Z c)) (hZ : ∀ c, c < 65 → (Z c).length ≤ 1000000) (y : El) :
    Calls Tryz.prog 26 #[.pointer (some ⟨x, 0, none⟩), elV y] w fun e w' => ∃ b : Bool, e = .returned (.bool b) ∧ (b = true ↔ InsD Z y) ∧ Below w.heap.size w w' := by
  obtain ⟨y0, y1, y2⟩ := y
  have b1 : Below w.heap.size w (w.alloc (.cells #[.int .u8 y0, .int .i64 y1, .int .i64 y2] 42)) := (Below.refl _ _).alloc (Nat.le_refl _) _
  have hX := hd (heap_alloc_new w (.cells #[.int .u8 y0, .int .i64 y1, .int .i64 y2] 42))
  obtain ⟨cs, hl, hr, hcs⟩ := (h.below b1).deeds Z hS
  have HB := hd b1
  have HR := hd hr
  have HL := hd hl
  have HCS := hd hcs
  have HZ := hd hZ
  clear h hS hZ b1 hl hr hcs
  simp only [elV]
  go_enter Tryz.func26, Tryz.ntmps26
  go_upto_region 1 with fail
  generalize w.alloc (.cells #[.int .u8 y0, .int .i64 y1, .int .i64 y2] 42) = w0 at *
  go_wp2_with (refine wpList_load_mid rfl _ _ rfl x 133 rfl cs _ HR.out Tryz.underlying115 rfl (by rw [HL.out]; exact infoDs) ?_)
  go_loopw [13] (fun i wr => ∃ k : Nat, k ≤ 65 ∧ i = .int .i64 (k : Int) ∧ Hid (Below w0.heap.size w0 wr) ∧ Hid (∀ c, c < k → ∀ d ∈ Z c, ¬ (d.e.o.kind = 1 ∧ ((d.c, d.l, d.s) : El) = (y0, y1, y2)))) (fun i _ => 65 - (intOf i).toNat)
  case atStart => exact ⟨0, Nat.zero_le _, rfl, Below.refl _ _, fun c h => by omega⟩
  case round =>
    obtain ⟨k, hk, rfl, hB, hN⟩ := hrel
    by_cases hlt : k < 65
    · have i1 : (k : Int) < 65 := by omega
      obtain ⟨a, cp, hck, hrow⟩ := HCS.out k hlt
      have HROW := hd hrow
      have hidx := idxDs cs k hlt _ hck
      have hzk := HZ.out k hlt
      clear hrow hck
      go_wp2_with fail
      clear hidx
      go_loopw [18] (fun i wr => ∃ q : Nat, q ≤ (Z k).length ∧ i = .int .i64 (q : Int) ∧ Hid (Below w0.heap.size w0 wr) ∧ Hid (∀ j (hj : j < (Z k).length), j < q → ¬ ((Z k)[j].e.o.kind = 1 ∧ (((Z k)[j].c, (Z k)[j].l, (Z k)[j].s) : El) = (y0, y1, y2)))) (fun i _ => (Z k).length - (intOf i).toNat)
      case atStart => exact ⟨0, Nat.zero_le _, rfl, hB, fun j hj h => by omega⟩
      case round =>
        obtain ⟨q, hq, rfl, hB2, hN2⟩ := hrel
        clear hB
        by_cases hql : q < (Z k).length
        · have i2 : (q : Int) < ((Z k).length : Int) := by omega
          obtain ⟨g, rfl, hg, hcell⟩ := HROW.out (by omega)
          have c0 := hcell q hql 0 _ (by omega) rfl
          have c1 := hcell q hql 1 _ (by omega) rfl
          have c2 := hcell q hql 2 _ (by omega) rfl
          have c3 := hcell q hql 3 _ (by omega) rfl
          have c4 := hcell q hql 4 _ (by omega) rfl
          have c5 := hcell q hql 5 _ (by omega) rfl
          have c6 := hcell q hql 6 _ (by omega) rfl
          have c7 := hcell q hql 7 _ (by omega) rfl
          have c8 := hcell q hql 8 _ (by omega) rfl
          have HYS : Hid ((Z k)[q].e.o.kind = 1 → (((Z k)[q].c, (Z k)[q].l, (Z k)[q].s) : El) = (y0, y1, y2) → InsD Z (y0, y1, y2)) := fun h1 h2 => ⟨k, hlt, (Z k)[q], List.getElem_mem hql, h1, h2⟩
          have HNX : Hid (¬ ((Z k)[q].e.o.kind = 1 ∧ (((Z k)[q].c, (Z k)[q].l, (Z k)[q].s) : El) = (y0, y1, y2)) → ∀ j (hj : j < (Z k).length), j < q + 1 → ¬ ((Z k)[j].e.o.kind = 1 ∧ (((Z k)[j].c, (Z k)[j].l, (Z k)[j].s) : El) = (y0, y1, y2))) := fun h j hj hl => if e : j = q then by subst e; exact h else hN2.out j hj (by omega)
          have lX : w.heap.size < w0.heap.size := block_lt hX.out
          clear hcell hN2
          generalize (Z k)[q] = d at *
          obtain ⟨⟨dt, ⟨ok, op, oc, ol, os⟩⟩, dc, dl, ds⟩ := d
          simp only at c0 c1 c2 c3 c4 c5 c6 c7 c8 HYS HNX
          simp only [Nat.add_zero] at c0
          have c0 := (hB2.out.cell (p := ⟨g, q * 9, none⟩) hg).trans c0
          have c1 := (hB2.out.cell (p := ⟨g, q * 9 + 1, none⟩) hg).trans c1
          have c2 := (hB2.out.cell (p := ⟨g, q * 9 + 2, none⟩) hg).trans c2
          have c3 := (hB2.out.cell (p := ⟨g, q * 9 + 3, none⟩) hg).trans c3
          have c4 := (hB2.out.cell (p := ⟨g, q * 9 + 4, none⟩) hg).trans c4
          have c5 := (hB2.out.cell (p := ⟨g, q * 9 + 5, none⟩) hg).trans c5
          have c6 := (hB2.out.cell (p := ⟨g, q * 9 + 6, none⟩) hg).trans c6
          have c7 := (hB2.out.cell (p := ⟨g, q * 9 + 7, none⟩) hg).trans c7
          have c8 := (hB2.out.cell (p := ⟨g, q * 9 + 8, none⟩) hg).trans c8
          obtain ⟨⟨r0, r1, r2⟩, -⟩ := cells3F ((hB2.out.block _ lX).trans hX.out)
          have b5 : Below wr.heap.size wr (wr.alloc (.cells #[.int .i64 dt, .int .i64 ok, .int .i64 op, .int .u8 oc, .int .i64 ol, .int .i64 os, .int .u8 dc, .int .i64 dl, .int .i64 ds] 143)) := (Below.refl _ _).alloc (Nat.le_refl _) _
          have hO := hd (heap_alloc_new wr (.cells #[.int .i64 dt, .int .i64 ok, .int .i64 op, .int .u8 oc, .int .i64 ol, .int .i64 os, .int .u8 dc, .int .i64 dl, .int .i64 ds] 143))
          have HB5 := hd (hB2.out.trans (b5.mono hB2.out.size))
          have lXr : w.heap.size < wr.heap.size := Nat.lt_of_lt_of_le lX hB2.out.size
          have r0 := (b5.cell (p := ⟨w.heap.size, 0, none⟩) lXr).trans r0
          have r1 := (b5.cell (p := ⟨w.heap.size, 1, none⟩) lXr).trans r1
          have r2 := (b5.cell (p := ⟨w.heap.size, 2, none⟩) lXr).trans r2
          have hmm : (Z k).length - (q + 1) < (Z k).length - q := by omega
          have hqb : q + 1 ≤ 1000000 := by omega
          clear b5 hB2
          go_upto_region 7 with fail
          generalize wr.alloc (.cells #[.int .i64 dt, .int .i64 ok, .int .i64 op, .int .u8 oc, .int .i64 ol, .int .i64 os, .int .u8 dc, .int .i64 dl, .int .i64 ds] 143) = w5 at *
          generalize wr.heap.size = be at *
          have z1 := cell_row hO.out 1; have z6 := cell_row hO.out 6; have z7 := cell_row hO.out 7; have z8 := cell_row hO.out 8
          simp at z1 z6 z7 z8
          clear c0 c1 c2 c3 c4 c5 c6 c7 c8 lXr hO lX
          by_cases hk1 : ok = 1
          · subst hk1
            by_cases he : ((dc, dl, ds) : El) = (y0, y1, y2)
            · have ZY := hd (HYS.out rfl he)
              injection he with e0 e1
              injection e1 with e1 e2
              subst e0
              subst e1
              subst e2
              have eqs := elSame dc dl ds
              clear HNX HYS
              go_wp2
              refine bodyPost_ret (v := .bool true) (by simp [results, Tryz.results26, go_sem]) rfl ?_
              exact ⟨true, rfl, ⟨fun _ => ZY.out, fun _ => rfl⟩, HB.out.trans (HB5.out.mono HB.out.size)⟩
            · have NX := hd (HNX.out (fun h => he h.2))
              have eqs := fun W => elNe he W
              clear HNX HYS he
              go_wp2
              exact ⟨⟨q + 1, by omega, by go_num, HB5, NX⟩, by simp [intOf]; omega⟩
          · have NX := hd (HNX.out (fun h => hk1 h.1))
            have hkb : (ok == 1) = false := by simpa using hk1
            clear HNX HYS
            go_wp2
            exact ⟨⟨q + 1, by omega, by go_num, HB5, NX⟩, by simp [intOf]; omega⟩
        · have i2 : ¬ ((q : Int) < ((Z k).length : Int)) := by omega
          have NX : Hid (∀ c, c < k + 1 → ∀ d ∈ Z c, ¬ (d.e.o.kind = 1 ∧ ((d.c, d.l, d.s) : El) = (y0, y1, y2))) := fun c hc d hd1 => by
            by_cases e : c = k
            · subst e
              obtain ⟨j, hj, rfl⟩ := List.getElem_of_mem hd1
              exact hN2.out j hj (by omega)
            · exact hN.out c (by omega) d hd1
          have hmm : 65 - (k + 1) < 65 - k := by omega
          clear hN2 hN
          go_wp2
          exact ⟨⟨k + 1, by omega, by go_num, hB2, NX⟩, by simp [intOf]; omega⟩
    · have i1 : ¬ ((k : Int) < 65) := by omega
      have ZN : Hid (¬ InsD Z (y0, y1, y2)) := fun ⟨c, hc, d, hd1, hd2⟩ => hN.out c (by omega) d hd1 hd2
      clear hN
      go_wp2
      refine bodyPost_ret (v := .bool false) (by simp [results, Tryz.results26, go_sem]) rfl ?_
      exact .inl ⟨rfl, ZN.out, HB.out.trans (hB.out.mono HB.out.size)⟩

end Go.Proofs.YtfhghijefjhehaaGreatDoor

/-! Rg -/
namespace Go.Proofs.YtfhghijefjhehaaGreatDoor
open Go.RowKit
set_option linter.unusedVariables false

/-- What the document asks of the texts of the done forms, one behind the other. -/
def srvP (a b : El) : List OpE → List El → Int
  | [], _ => 0
  | o :: l, t => if ordP (apE t o) a b = 0 then srvP a b l (apE t o) else ordP (apE t o) a b
/-- The server makes no edits. -/
theorem edW_srv {C : Int} {log : List Ed} {evs : List Ev} {D : Nat → List El} (hg : GL C log log.length) (hE : GE C log evs evs.length) : edW evs D 0 = [] := by
  unfold edW
  cases hl : ddAt evs D evs.length ((0 : Nat) : Int) with
  | nil => rfl
  | cons d l =>
    obtain ⟨j, e, h1, h2, h3, h4, h5, -⟩ := dd_of evs.length (q := 0) (d := d) (c := ((0 : Nat) : Int)) (by rw [hl]; rfl)
    obtain ⟨m1, -⟩ := ev_made (hE.mono (show j + 1 ≤ _ by omega)) (fun x z hx => facts_of hg hE x z (by omega)) h2 h4
    exact absurd h3 m1
theorem srv_way (a b : El) (done : List OpE) (hcl : ∀ o ∈ done, o.cl ≠ 0) : ∀ (m : Nat) (k : Wk), k.still = [] → k.forms = [] → done.length - k.hav = m → fsN (fun v : Vw => ordP v.doc a b) (wayW apE done 0 k) = srvP a b (done.drop k.hav) k.text
  | 0, k, hs, hf, hm => by
    rw [way_end (fun x hx => by rw [hs] at hx; cases hx) (by omega), List.drop_eq_nil_of_le (by omega)]
    rfl
  | m + 1, k, hs, hf, hm => by
    have hl : k.hav < done.length := by omega
    have ho : done[k.hav]? = some done[k.hav] := List.getElem?_eq_getElem hl
    have hc : (done[k.hav].cl == 0) = false := by
      have := hcl _ (List.getElem_mem hl)
      simpa using this
    rw [way_take (fun x hx => by rw [hs] at hx; cases hx) ho, hc, List.drop_eq_getElem_cons hl]
    have e1 : k.take apE done[k.hav] false = ⟨k.still, apE k.text done[k.hav], [], k.hav + 1, k.made⟩ := by
      unfold Wk.take
      rw [hf]
      rfl
    rw [e1]
    simp only [fsN, srvP, Wk.view]
    have ih := srv_way a b done hcl m ⟨k.still, apE k.text done[k.hav], [], k.hav + 1, k.made⟩ hs rfl (by show done.length - (k.hav + 1) = m; omega)
    rw [ih]
    rfl
/-- The path of the server tells what the done forms tell. -/
theorem srv_path {C : Nat} {log : List Ed} {evs : List Ev} {D : Nat → List El} (hg : GL (C : Int) log log.length) (hE : GE (C : Int) log evs evs.length) (hP : PF C log (edW evs D)) (a b : El) :
    fsN (fun v : Vw => ordP v.doc a b) (pathP log evs D 0) = srvP a b (stW apE log (edW evs D) log.length).2 [] := by
  have h0 : (stW apE log (edW evs D) 0).1 0 = ⟨[], [], [], 0, 0⟩ := by
    simp only [stW]
    rw [edW_srv hg hE]
  have hcl : ∀ o ∈ (stW apE log (edW evs D) log.length).2, o.cl ≠ 0 := fun o ho => by
    rw [done_at _ (Nat.le_refl _)] at ho
    obtain ⟨k, hk, rfl⟩ := List.mem_map.1 ho
    have hk := List.mem_range.1 hk
    rw [(hP.op k hk).1]
    have := (hP.cl k hk).1
    omega
  unfold pathP
  rw [h0]
  have hz : ordP ([] : List El) a b = 0 := ord_zero.2 (.inl List.not_mem_nil)
  have e := srv_way a b _ hcl _ ⟨[], [], [], 0, 0⟩ rfl rfl rfl
  simp only [List.drop_zero] at e
  simp only [fsN, Wk.view, hz, if_true]
  exact e

end Go.Proofs.YtfhghijefjhehaaGreatDoor

/-! Rh -/
namespace Go.Proofs.YtfhghijefjhehaaGreatDoor
open Go.RowKit
set_option linter.unusedVariables false

/-- What the states of client c tell. -/
def cliP (log : List Ed) (evs : List Ev) (D : Nat → List El) (a b : El) (c : Nat) : Int := fsN (fun v : Vw => ordP v.doc a b) (pathP log evs D c)
/-- The clients from 1 to C. -/
def clisP (log : List Ed) (evs : List Ev) (D : Nat → List El) (a b : El) (C : Nat) : Int := fsN (cliP log evs D a b) ((List.range C).map (· + 1))
def ansP (log : List Ed) (evs : List Ev) (D : Nat → List El) (a b : El) (C : Nat) : Int :=
  if clisP log evs D a b C = 0 then srvP a b (stW apE log (edW evs D) log.length).2 [] else clisP log evs D a b C
theorem clisP_succ {log : List Ed} {evs : List Ev} {D : Nat → List El} {a b : El} {C : Nat} : clisP log evs D a b (C + 1) = if clisP log evs D a b C = 0 then cliP log evs D a b (C + 1) else clisP log evs D a b C := by
  have e : clisP log evs D a b (C + 1) = fsN (cliP log evs D a b) ((List.range C).map (· + 1) ++ [C + 1]) := by
    unfold clisP
    rw [List.range_succ, List.map_append]
    rfl
  rw [e, fsN_append]
  show (if clisP log evs D a b C = 0 then _ else clisP log evs D a b C) = _
  congr 1
  simp only [fsN]
  split
  · rename_i h
    exact h.symm
  · rfl
/-- A client told it: those behind it are not asked. -/
theorem clisP_stop {log : List Ed} {evs : List Ev} {D : Nat → List El} {a b : El} {k : Nat} (h : clisP log evs D a b k ≠ 0) : ∀ {C : Nat}, k ≤ C → clisP log evs D a b C = clisP log evs D a b k
  | 0, hk => by
    obtain rfl : k = 0 := by omega
    rfl
  | C + 1, hk => by
    by_cases e : k = C + 1
    · subst e; rfl
    · have ih := clisP_stop h (C := C) (by omega)
      rw [clisP_succ, ih, if_neg h]
/-- What Ahead answers. -/
def AhP (C : Int) (nL nE : Nat) (log : List Ed) (evs : List Ev) (D : Nat → List El) (a b : El) (n c p : Int) : Prop :=
  (RCs C nL nE log evs c p ∧ c ≠ 0 ∧ n = 0) ∨ (RCs C nL nE log evs 0 (-1) ∧ ¬ InsP evs a ∧ n = 0 ∧ c = 144 ∧ p = 0) ∨ (RCs C nL nE log evs 0 (-1) ∧ InsP evs a ∧ (¬ InsP evs b ∨ a = b) ∧ n = 0 ∧ c = 144 ∧ p = 1) ∨
  (RCs C nL nE log evs 0 (-1) ∧ InsP evs a ∧ InsP evs b ∧ a ≠ b ∧ n = ansP log evs D a b C.toNat ∧ c = 0 ∧ p = -1)
theorem ah_one {C : Int} {nL nE : Nat} {log : List Ed} {evs : List Ev} {D : Nat → List El} {a b : El} {n n' c p c' p' : Int} (hl : log.length = nL) (he : evs.length = nE) (h : AhP C nL nE log evs D a b n c p) (h' : AhP C nL nE log evs D a b n' c' p') : n = n' ∧ c = c' ∧ p = p' := by
  rcases h with ⟨r, b1, rfl⟩ | ⟨r, i1, rfl, rfl, rfl⟩ | ⟨r, i1, i2, rfl, rfl, rfl⟩ | ⟨r, i1, i2, i3, rfl, rfl, rfl⟩
  · rcases h' with ⟨r', b2, rfl⟩ | ⟨r', -⟩ | ⟨r', -⟩ | ⟨r', -⟩
    · exact ⟨rfl, rcs_one hl he r r'⟩
    all_goals exact absurd (rcs_one hl he r r').1 b1
  · rcases h' with ⟨r', b2, rfl⟩ | ⟨r', j1, rfl, rfl, rfl⟩ | ⟨r', j1, -⟩ | ⟨r', j1, -⟩
    · exact absurd (rcs_one hl he r' r).1 b2
    · exact ⟨rfl, rfl, rfl⟩
    all_goals exact absurd j1 i1
  · rcases h' with ⟨r', b2, rfl⟩ | ⟨r', j1, -⟩ | ⟨r', j1, j2, rfl, rfl, rfl⟩ | ⟨r', j1, j2, j3, -⟩
    · exact absurd (rcs_one hl he r' r).1 b2
    · exact absurd i1 j1
    · exact ⟨rfl, rfl, rfl⟩
    · exact i2.elim (fun h => absurd j2 h) (fun h => absurd h j3)
  · rcases h' with ⟨r', b2, rfl⟩ | ⟨r', j1, -⟩ | ⟨r', j1, j2, -⟩ | ⟨r', j1, j2, j3, rfl, rfl, rfl⟩
    · exact absurd (rcs_one hl he r' r).1 b2
    · exact absurd i1 j1
    · exact j2.elim (fun h => absurd i2 h) (fun h => absurd h i3)
    · exact ⟨rfl, rfl, rfl⟩

end Go.Proofs.YtfhghijefjhehaaGreatDoor
