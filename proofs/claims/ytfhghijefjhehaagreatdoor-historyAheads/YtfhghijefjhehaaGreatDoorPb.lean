/-
  A walker of the document: told.
-/
import Derived.Test.YtfhghijefjhehaaGreatDoorMOe
import Derived.Deep.DeepCutAuto
namespace Go.Proofs.YtfhghijefjhehaaGreatDoor
open Go.RowKit
set_option linter.unusedVariables false

section
variable {w w' : World} {g o : Nat} {β φ ν : Option Nat} {es : List Ed} {k : Wk} {way : List PV}
/-- The way gets longer: the append, then the field. -/
theorem WR.push {v0 : Value} (h : WR w g o β φ ν es k way) (hv : w.cell? ⟨g, o + 3, none⟩ = some v0) (p : PV) (b : Nat) (hb : w.heap[b]? = some (.cells (vwc p).toArray 72 (0, 0))) (hp : ∃ β, SE w β p.v p.doc) (hn : way.length ≤ 1000000) :
    ∃ a c w' ν', (∀ ty, (Builtin.append_ #[27, 27] ty #[v0, .slice (some ⟨b, 0, none⟩) 1 1]).run Tryz.prog w = .ok (.slice a (way.length + 1) c) w') ∧ (∃ v, w'.cell? ⟨g, o + 3, none⟩ = some v) ∧ w'.frozen? ⟨g, o + 3, none⟩ = false ∧ (∀ j, ν' = some j → ν = some j ∨ w.heap.size ≤ j) ∧
      WR (w'.setCell ⟨g, o + 3, none⟩ (.slice a (way.length + 1) c)) g o β φ ν' es k (way ++ [p]) ∧ Oth g o w (w'.setCell ⟨g, o + 3, none⟩ (.slice a (way.length + 1) c)) ∧ Fr (fun j => j = g ∨ ν = some j) w (w'.setCell ⟨g, o + 3, none⟩ (.slice a (way.length + 1) c)) := by
  obtain ⟨a1, a2, a3, a4⟩ := h.apart
  obtain ⟨vE, vT, vF, vW, hE, hT, hO, hW, c0, c1, c2, c3, c4, c5⟩ := h.cells
  obtain rfl : vW = v0 := by rw [c3] at hv; exact Option.some.inj hv
  obtain ⟨v', w', hr, g', hS', hN⟩ := push_vw _ ν vW way hW b p hb hn
  obtain ⟨a, c, hv', -⟩ := hS'.form
  simp only [List.length_append, List.length_cons, List.length_nil, Nat.zero_add] at hv'
  subst hv'
  have hF : Fr (fun j => ν = some j) w w' := by
    rcases hN with ⟨a, b⟩ | ⟨a, b⟩
    · exact b.mono (fun j _ hj => by rw [hj]; exact a)
    · exact b.mono (fun j _ hj => hj.elim)
  have hty : ∀ j cs t, ν = some j → w.heap[j]? = some (.cells cs t (0, 0)) → t = 72 := fun j cs t hj hc => by
    rw [hj] at hW
    obtain ⟨cur, hc'⟩ := SF.blk hW
    rw [hc] at hc'
    simp at hc'
    exact hc'.2
  have tell : ∀ {β : Option Nat} {v : Value} {t : List El}, SE w β v t → SE w' β v t := fun {β v t} hs => hs.fr hF (fun g hg hs' => by
    subst hg
    obtain ⟨cs, hc⟩ := hs.blk
    have := hty _ _ _ hs' hc
    cases this)
  -- the walker behind the append, its way not yet written
  obtain ⟨cur, uE, uT, uF, uW, k1, k2, d0, d1, d2, d3, d4, d5, jE, ⟨βt, jT⟩, jO, jW⟩ := h.blk
  have kg : w'.heap[g]? = some (.cells cur 84 (0, 0)) := hF.keeps k1 (fun e => a2 g e rfl)
  have hcell : w'.cell? ⟨g, o + 3, none⟩ = some vW := (hF.cell (p := ⟨g, o + 3, none⟩) (block_lt k1) (fun e => a2 g e rfl)).trans c3
  have e3 : cur.setIfInBounds (o + 3) (.slice a (way.length + 1) c) = cur.setIfInBounds (o + 3) (.slice a (way.length + 1) c) := rfl
  have hFg : Fr (· = g) w' (w'.setCell ⟨g, o + 3, none⟩ (.slice a (way.length + 1) c)) := Fr.setCell _ _ _ rfl
  have gg : g' ≠ g := fun e => by
    obtain ⟨cs, hc⟩ := SF.blk hS'
    rw [e, kg] at hc
    simp at hc
  have tell2 : ∀ {β : Option Nat} {v : Value} {t : List El}, SE w' β v t → SE (w'.setCell ⟨g, o + 3, none⟩ (.slice a (way.length + 1) c)) β v t := fun {β v t} hs => hs.fr hFg (fun g' hg e => by
    subst hg
    obtain ⟨cs, hc⟩ := hs.blk
    rw [e, kg] at hc
    simp at hc)
  have hF2 : Fr (fun j => j = g ∨ ν = some j) w (w'.setCell ⟨g, o + 3, none⟩ (.slice a (way.length + 1) c)) := (hF.mono (fun j _ hj => .inr hj)).trans (hFg.mono (fun j _ hj => .inl hj))
  refine ⟨a, c, w', some g', hr, ⟨_, hcell⟩, frozen_row kg _, fun j hj => ?_, ⟨⟨_, uE, uT, uF, _, set_row kg (o + 3) _, by simpa using k2, ?_, ?_, ?_, ?_, ?_, ?_, (jE.fr hF (fun j hj hs => ?_)).fr hFg (fun j hj e => a3 j hj e), ⟨βt, tell2 (tell jT)⟩, (jO.fr hF (fun j hj hs => a4 j hj hs)).fr hFg (fun j hj e => a1 j hj e), hS'.fr hFg (fun j hj e => by injection hj with hj; exact gg (hj.trans e))⟩, fun q hq => ?_, h.st, h.le⟩, (Oth.fr hF (fun e => a2 g e rfl)).trans (Oth.set _ ⟨by omega, by omega⟩), hF2⟩
  · injection hj with hj
    subst hj
    rcases hN with ⟨e, -⟩ | ⟨e, -⟩
    · exact .inl e
    · exact .inr (by omega)
  · rw [Array.getElem?_setIfInBounds_ne (by omega)]; exact d0
  · rw [Array.getElem?_setIfInBounds_ne (by omega)]; exact d1
  · rw [Array.getElem?_setIfInBounds_ne (by omega)]; exact d2
  · rw [Array.getElem?_setIfInBounds_self_of_lt (by omega)]
  · rw [Array.getElem?_setIfInBounds_ne (by omega)]; exact d4
  · rw [Array.getElem?_setIfInBounds_ne (by omega)]; exact d5
  · rw [hj] at jE
    obtain ⟨cs, hc⟩ := SF.blk jE
    have := hty _ _ _ hs hc
    cases this
  · rcases List.mem_append.1 hq with hq | hq
    · obtain ⟨β', hs⟩ := h.docs q hq
      exact ⟨β', tell2 (tell hs)⟩
    · rw [List.mem_singleton.1 hq]
      obtain ⟨β', hs⟩ := hp
      exact ⟨β', tell2 (tell hs)⟩
end

/-- What the copying loop has so far. -/
def CpE (w wr : World) (v : Value) (t : List El) (q : Nat) : Prop := ∃ βd, SE wr βd v (t.take q) ∧ Below w.heap.size w wr ∧ ∀ g, βd = some g → w.heap.size ≤ g
theorem CpE.push {w wr : World} {v : Value} {t : List El} {q : Nat} (h : CpE w wr v t q) (hq : q < t.length) (hl : t.length ≤ 4096) :
    ∃ a c w', (∀ ty, (Builtin.append_ #[70, 70] ty #[v, .slice (some ⟨wr.heap.size, 0, none⟩) 1 1]).run Tryz.prog (wr.alloc (.cells (elc t[q]).toArray 42)) = .ok (.slice a (q + 1) c) w') ∧ CpE w w' (.slice a (q + 1) c) t (q + 1) := by
  obtain ⟨βd, h1, h2, h3⟩ := h
  have b1 : Below wr.heap.size wr (wr.alloc (.cells (elc t[q]).toArray 42)) := (Below.refl _ _).alloc (Nat.le_refl _) _
  obtain ⟨v', w', hr, β', k1, k2, k3⟩ := run_pushE _ βd v (t.take q) (h1.below b1) wr.heap.size t[q] (heap_alloc_new wr _) (by rw [List.length_take]; omega)
  rw [← List.take_succ_eq_append_getElem hq] at k1
  obtain ⟨a, c, hv, -⟩ := k1.form
  have el : (t.take (q + 1)).length = q + 1 := by rw [List.length_take]; omega
  rw [el] at hv
  subst hv
  have hb : Below w.heap.size w (wr.alloc (.cells (elc t[q]).toArray 42)) := h2.trans (b1.mono h2.size)
  refine ⟨a, c, w', hr, β', k1, hb.trans (k3.below hb.size (fun j hj => h3 j hj)), fun g hg => ?_⟩
  rcases k2 with k2 | ⟨g', k2, k4⟩
  · exact h3 g (k2 ▸ hg)
  · rw [k2] at hg
    injection hg with hg
    have := hb.size
    omega

section
variable {w : World} {g o : Nat} {β φ ν : Option Nat} {es : List Ed} {k : Wk} {way : List PV}
/-- What told leaves. -/
def ToldP (w : World) (g o : Nat) (β φ ν : Option Nat) (es : List Ed) (k : Wk) (way : List PV) (w' : World) : Prop :=
  (∃ ν' p, p.view = k.view ∧ WR w' g o β φ ν' es k (way ++ [p]) ∧ ∀ j, ν' = some j → ν = some j ∨ w.heap.size ≤ j) ∧ Fr (fun j => j = g ∨ ν = some j) w w' ∧ Oth g o w w'

set_option maxRecDepth 100000 in
set_option maxHeartbeats 4000000 in
theorem told_any (h : WR w g o β φ ν es k way) (hn : way.length ≤ 1000000) :
    Calls Tryz.prog 55 #[.pointer (some ⟨g, o, none⟩)] w fun e w' => (∃ v, e = .returned v) ∧ ToldP w g o β φ ν es k way w' := by
  obtain ⟨vE, vT, vF, vW, hE, ⟨βt, hT⟩, hO, hW, c0, c1, c2, c3, c4, c5⟩ := h.cells
  obtain ⟨aT, cT, rfl, iT, -⟩ := hT.form
  obtain ⟨aW, cW, rfl, -⟩ := hW.form
  have hlt := h.lt
  have hle := h.le
  have HH := hd h
  have HN := hd hn
  have IT := hd iT
  have I0 : Hid (CpE w w (.slice none 0 0) k.text 0) := ⟨none, ⟨rfl, rfl⟩, Below.refl _ _, fun g hg => (by cases hg)⟩
  clear h hE hO hW hT iT c0 c2 hn
  have HTX := hd (show k.text = k.text from rfl)
  obtain ⟨t, ht⟩ : ∃ t, k.text = t := ⟨_, rfl⟩
  rw [ht] at c1 IT I0 hle
  have HT := hd ht
  clear ht HTX
  go_enter Tryz.func55, Tryz.ntmps55
  go_wp2_with fail
  go_loopw [2, 3] (fun v i wr => ∃ q : Nat, q ≤ t.length ∧ i = .int .i64 (q : Int) ∧ Hid (CpE w wr v t q)) (fun _ i _ => t.length - (intOf i).toNat)
  case atStart => exact ⟨0, Nat.zero_le _, rfl, I0⟩
  case round =>
    obtain ⟨q, hq, rfl, HR⟩ := hrel
    clear I0
    obtain ⟨βd, r1, hB, r3⟩ := HR.out
    obtain ⟨aV, cV, hvV, -⟩ := r1.form
    have el : (t.take q).length = q := by rw [List.length_take]; omega
    rw [el] at hvV
    subst hvV
    have s1 := (hB.cell (p := ⟨g, o + 1, none⟩) hlt).trans c1
    by_cases hql : q < t.length
    · have i1 : (q : Int) < (t.length : Int) := by omega
      obtain ⟨b, off, hab, hbl⟩ := IT.out.addr (by omega)
      subst hab
      obtain ⟨y0, y1, y2⟩ := IT.out.at q hql hql
      have y0 := (hB.cell (p := ⟨b, off + q * 3, none⟩) hbl).trans y0
      have y1 := (hB.cell (p := ⟨b, off + q * 3 + 1, none⟩) hbl).trans y1
      have y2 := (hB.cell (p := ⟨b, off + q * 3 + 2, none⟩) hbl).trans y2
      obtain ⟨aN, cN, w3, hrun, hC⟩ := HR.out.push hql hle
      have HC := hd hC
      have hm : t.length - (q + 1) < t.length - q := by omega
      simp only [elc] at hrun
      clear HR r1 r3 hC el
      go_wp2_with (at_builtin; refine wpList_append_k _ rfl _ _ 70 70 rfl _ _ rfl rfl (hrun _) ?_)
      exact ⟨⟨q + 1, by omega, by go_num, HC⟩, by simp [intOf]; omega⟩
    · have i1 : ¬ ((q : Int) < (t.length : Int)) := by omega
      have eq : q = t.length := by omega
      have hS : SE wr βd (.slice aV q cV) t := by
        have := r1
        rwa [List.take_of_length_le (by omega)] at this
      have H1 := HH.out.below hB
      have b5 : Below wr.heap.size wr (wr.drew.alloc (.cells (vwc ⟨zop, k.hav, k.made, .slice aV q cV, t⟩).toArray 72)) := ((Below.refl _ _).drew).alloc (Nat.le_refl _) _
      have s3 := (hB.cell (p := ⟨g, o + 3, none⟩) hlt).trans c3
      have s4 := (hB.cell (p := ⟨g, o + 4, none⟩) hlt).trans c4
      have s5 := (hB.cell (p := ⟨g, o + 5, none⟩) hlt).trans c5
      have lg : g < wr.heap.size := Nat.lt_of_lt_of_le hlt hB.size
      obtain ⟨aN, cN, w6, ν', hap, ⟨vx, hvx⟩, hfz, hν, hWR, hOt, hFr⟩ := (H1.below b5).push ((b5.cell (p := ⟨g, o + 3, none⟩) lg).trans s3) ⟨zop, k.hav, k.made, .slice aV q cV, t⟩ wr.heap.size (heap_alloc_new wr.drew _) ⟨βd, hS.below b5⟩ HN.out
      have Z : Hid (ToldP w g o β φ ν es k way (w6.setCell ⟨g, o + 3, none⟩ (.slice aN (way.length + 1) cN))) := by
        have hOg : Oth g o w wr := Oth.fr (Fr.of_below (S := fun _ => False) hB) (fun h => h)
        have hO5 : Oth g o wr (wr.drew.alloc (.cells (vwc ⟨zop, k.hav, k.made, .slice aV q cV, t⟩).toArray 72)) := Oth.fr (Fr.of_below (S := fun _ => False) b5) (fun h => h)
        refine ⟨⟨ν', _, ?_, hWR, fun j hj => ?_⟩, ((Fr.of_below hB).trans (Fr.of_below b5)).trans hFr, (hOg.trans hO5).trans hOt⟩
        · simp only [PV.view, Wk.view, HT.out]
        · rcases hν j hj with h1 | h1
          · exact .inl h1
          · exact .inr (Nat.le_trans hB.size (Nat.le_trans b5.size h1))
      simp only [vwc, svl] at hap
      clear r1 r3 hS H1 b5 HR HH hν hWR hOt hFr eq el
      go_upto_region 5 with fail
      go_region_law (refine step_append_k rfl (.tmp 27) (.tmp 38) 27 27 rfl _ _ (by simp [Act.eval]) (by simp [Act.eval]) (hap _) ?_)
      all_goals go_wp2
      all_goals (refine bodyPost_end (results_none rfl _ _ _) rfl ?_)
      all_goals exact ⟨⟨_, rfl⟩, Z.out⟩
end

end Go.Proofs.YtfhghijefjhehaaGreatDoor
