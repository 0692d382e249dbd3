/-
  Texts put together: Pc Pd.
-/
import Derived.Test.YtfhghijefjhehaaGreatDoorMTChg
import Derived.Test.YtfhghijefjhehaaGreatDoorPb
/-! Pc -/
namespace Go.Proofs.YtfhghijefjhehaaGreatDoor
open Go.RowKit
set_option linter.unusedVariables false

theorem applyP_ap {t : List El} {r : OpE} (hf : fitsP t.length r = 0) : applyP t r = apE t r := by
  unfold apE applyP
  rw [if_pos hf]
  rfl

set_option maxRecDepth 100000 in
set_option maxHeartbeats 2000000 in
theorem applied_any {w : World} {βt : Option Nat} {v : Value} {t : List El} (hs : SE w βt v t) (r : OpE) :
    Calls Tryz.prog 30 #[v, r.val] w fun e w' => ∃ a c βt', e = .returned (.slice a (List.length (α := El) (apE t r)) c) ∧ SE w' βt' (.slice a (List.length (α := El) (apE t r)) c) (apE t r) ∧ Below w.heap.size w w' := by
  obtain ⟨a, c, rfl, hE, -⟩ := hs.form
  obtain ⟨k, p, ch, l, s⟩ := r
  simp only [OpE.val]
  have hb : Below w.heap.size w (w.alloc (.cells #[.int .i64 k, .int .i64 p, .int .u8 ch, .int .i64 l, .int .i64 s] 69)) := (Below.refl _ _).alloc (Nat.le_refl _) _
  by_cases hf : fitsP t.length ⟨k, p, ch, l, s⟩ = 0
  · have e1 := applyP_ap hf
    have CA := hd (rapply_good a t.length c k p ch l s t (apE t ⟨k, p, ch, l, s⟩) (List.length (α := El) (apE t ⟨k, p, ch, l, s⟩)) _ (hE.below hb) hf e1.symm rfl)
    have HB := hd hb
    clear hs hE hb e1 hf
    go_enter Tryz.func30, Tryz.ntmps30
    go_upto_region 1 with fail
    generalize hw0 : w.alloc (.cells #[.int .i64 k, .int .i64 p, .int .u8 ch, .int .i64 l, .int .i64 s] 69) = w0 at *
    have hop : w0.heap[w.heap.size]? = some (.cells #[.int .i64 k, .int .i64 p, .int .u8 ch, .int .i64 l, .int .i64 s] 69 (0, 0)) := by rw [← hw0]; exact heap_alloc_new w _
    obtain ⟨⟨z0, z1, z2, z3, z4⟩, -⟩ := cellsF hop
    clear hop hw0
    go_wp2_with fail
    refine CA.out.mono ?_
    rintro e w1 ⟨v, rfl, hO, b1⟩
    obtain ⟨gg, -, hO⟩ := hO
    obtain ⟨a', c', rfl, -⟩ := hO.form
    have Z := hd (And.intro hO (HB.out.trans (b1.mono HB.out.size)))
    clear hO b1 CA HB z0 z1 z2 z3 z4
    go_wp2
    go_ret
    exact ⟨_, _, _, rfl, Z.out.1, Z.out.2⟩
  · obtain ⟨er, her⟩ : ∃ er, fitsP t.length ⟨k, p, ch, l, s⟩ = er := ⟨_, rfl⟩
    have e1 : apE t ⟨k, p, ch, l, s⟩ = t := by
      unfold apE
      rw [if_neg hf]
    have CA := hd (fun W => rapply_bad a t.length c k p ch l s er W her (by rw [← her]; exact hf))
    have he' : (er != 0) = true := by rw [← her]; simpa using hf
    rw [e1]
    have HB := hd hb
    have HS := hd (fun W (hW : Below w.heap.size w W) => hs.below hW)
    clear hs hE hb e1 hf her
    go_enter Tryz.func30, Tryz.ntmps30
    go_upto_region 1 with fail
    generalize hw0 : w.alloc (.cells #[.int .i64 k, .int .i64 p, .int .u8 ch, .int .i64 l, .int .i64 s] 69) = w0 at *
    have hop : w0.heap[w.heap.size]? = some (.cells #[.int .i64 k, .int .i64 p, .int .u8 ch, .int .i64 l, .int .i64 s] 69 (0, 0)) := by rw [← hw0]; exact heap_alloc_new w _
    obtain ⟨⟨z0, z1, z2, z3, z4⟩, -⟩ := cellsF hop
    clear hop hw0
    go_wp2_with fail
    refine (CA.out _).mono ?_
    rintro e w1 ⟨rfl, b1⟩
    have Z := hd (And.intro (HS.out _ (HB.out.trans (b1.mono HB.out.size))) (HB.out.trans (b1.mono HB.out.size)))
    clear b1 CA HB z0 z1 z2 z3 z4 HS
    go_wp2
    go_ret
    exact ⟨_, _, _, rfl, Z.out.1, Z.out.2⟩

end Go.Proofs.YtfhghijefjhehaaGreatDoor

/-! Pd -/
namespace Go.Proofs.YtfhghijefjhehaaGreatDoor
open Go.RowKit
set_option linter.unusedVariables false

/-- The walker, an operation at block bx beside it; since w nothing but its own has changed. -/
structure MS (w wx : World) (g o bx : Nat) (β φ0 ν0 φ ν : Option Nat) (es : List Ed) (k : Wk) (way : List PV) (op : OpE) : Prop where
  wr : WR wx g o β φ ν es k way
  ob : wx.heap[bx]? = some (.cells (opc op).toArray 69 (0, 0))
  fr : Fr (fun j => j = g ∨ φ0 = some j ∨ ν0 = some j) w wx
  ot : Oth g o w wx
  nb : φ ≠ some bx
  lb : w.heap.size ≤ bx
  nf : ∀ j, φ = some j → φ0 = some j ∨ w.heap.size ≤ j
  nn : ∀ j, ν = some j → ν0 = some j ∨ w.heap.size ≤ j

section
variable {w wx wy : World} {g o bx : Nat} {β φ0 ν0 φ ν : Option Nat} {es : List Ed} {k : Wk} {way : List PV} {op : OpE}
theorem MS.below (h : MS w wx g o bx β φ0 ν0 φ ν es k way op) (hb : Below wx.heap.size wx wy) : MS w wy g o bx β φ0 ν0 φ ν es k way op :=
  ⟨h.wr.below hb, (hb.block _ (block_lt h.ob)).trans h.ob, h.fr.trans (Fr.of_below hb), h.ot.trans (Oth.fr (Fr.of_below (S := fun _ => False) hb) (fun h => h)), h.nb, h.lb, h.nf, h.nn⟩
theorem MS.gb (h : MS w wx g o bx β φ0 ν0 φ ν es k way op) : bx ≠ g := fun e => by
  obtain ⟨cur, vE, vT, vF, vW, h1, -⟩ := h.wr.blk
  have := h.ob
  rw [e, h1] at this
  simp at this
theorem MS.setop (h : MS w wx g o bx β φ0 ν0 φ ν es k way op) (r : OpE) : MS w (set5 wx bx 0 r.kind r.pos r.ch r.cl r.sq) g o bx β φ0 ν0 φ ν es k way r := by
  have hF := Fr.set5 wx bx 0 r.kind r.pos r.ch r.cl r.sq
  obtain ⟨vE, vT, vF, vW, hE, hT, hO, hW, -⟩ := h.wr.cells
  refine ⟨h.wr.fr hF (fun j cs t hj hc => ?_) (fun j hj e => h.nb (e ▸ hj)) (fun j hj e => ?_), set5_op h.ob _ _ _ _ _, h.fr.next hF (fun i hi hs => ?_), h.ot.trans (Oth.fr hF (fun e => h.gb e.symm)), h.nb, h.lb, h.nf, h.nn⟩
  · subst hj
    rw [h.ob] at hc
    obtain ⟨-, rfl⟩ : _ ∧ 69 = t := by simpa using hc
    exact ⟨by decide, by decide, by decide⟩
  · subst hj
    obtain ⟨cs, hc⟩ := SF.blk hW
    rw [e, h.ob] at hc
    simp at hc
  · have := h.lb
    omega
/-- One field of the walker is written. -/
theorem MS.put (h : MS w wx g o bx β φ0 ν0 φ ν es k way op) {φ' : Option Nat} {k' : Wk} (hW : WR wy g o β φ' ν es k' way) (hO : Oth g o wx wy) (hF : Fr (· = g) wx wy) (hφ : ∀ j, φ' = some j → φ = some j ∨ (w.heap.size ≤ j ∧ j ≠ bx)) : MS w wy g o bx β φ0 ν0 φ' ν es k' way op :=
  ⟨hW, hF.keeps h.ob (fun e => h.gb e), h.fr.trans (hF.mono (fun j _ hj => .inl hj)), h.ot.trans hO, fun e => by
    rcases hφ bx e with h1 | h1
    · exact h.nb h1
    · exact h1.2 rfl, h.lb, fun j hj => by
    rcases hφ j hj with h1 | h1
    · exact h.nf j h1
    · exact .inr h1.1, h.nn⟩
theorem MS.text (h : MS w wx g o bx β φ0 ν0 φ ν es k way op) {βt : Option Nat} {v : Value} {t : List El} (hs : SE wx βt v t) (hl : t.length ≤ 4096) : MS w (wx.setCell ⟨g, o + 1, none⟩ v) g o bx β φ0 ν0 φ ν es ⟨k.still, t, k.forms, k.hav, k.made⟩ way op := by
  obtain ⟨z1, z2, z3⟩ := h.wr.setText hs hl
  exact h.put z1 z2 z3 (fun j hj => .inl hj)
theorem MS.made (h : MS w wx g o bx β φ0 ν0 φ ν es k way op) (m : Nat) : MS w (wx.setCell ⟨g, o + 5, none⟩ (.int .i64 m)) g o bx β φ0 ν0 φ ν es ⟨es.drop m, k.text, k.forms, k.hav, m⟩ way op := by
  obtain ⟨z1, z2, z3⟩ := h.wr.setMade m
  exact h.put z1 z2 z3 (fun j hj => .inl hj)
theorem MS.hav (h : MS w wx g o bx β φ0 ν0 φ ν es k way op) (m : Nat) : MS w (wx.setCell ⟨g, o + 4, none⟩ (.int .i64 m)) g o bx β φ0 ν0 φ ν es ⟨k.still, k.text, k.forms, m, k.made⟩ way op := by
  obtain ⟨z1, z2, z3⟩ := h.wr.setHav m
  exact h.put z1 z2 z3 (fun j hj => .inl hj)
theorem MS.told {wz : World} (h : MS w wx g o bx β φ0 ν0 φ ν es k way op) (hT : ToldP wx g o β φ ν es k way wz) : ∃ ν' p, p.view = k.view ∧ MS w wz g o bx β φ0 ν0 φ ν' es k (way ++ [p]) op := by
  obtain ⟨⟨ν', p, h1, h2, h3⟩, hF, hO⟩ := hT
  refine ⟨ν', p, h1, h2, hF.keeps h.ob (fun hs => ?_), h.fr.next hF (fun i hi hs => ?_), h.ot.trans hO, h.nb, h.lb, h.nf, fun j hj => ?_⟩
  · rcases hs with hs | hs
    · exact h.gb hs
    · obtain ⟨vE, vT, vF, vW, hE, hT, hO, hW, -⟩ := h.wr.cells
      rw [hs] at hW
      obtain ⟨cs, hc⟩ := SF.blk hW
      rw [h.ob] at hc
      simp at hc
  · rcases hs with hs | hs
    · exact .inl hs
    · rcases h.nn i hs with h4 | h4
      · exact .inr (.inr h4)
      · omega
  · rcases h3 j hj with h4 | h4
    · exact h.nn j h4
    · exact .inr (Nat.le_trans h.fr.size h4)

/-- The forms get longer: the append, then the field. -/
theorem MS.form {v0 : Value} (h : MS w wx g o bx β φ0 ν0 φ ν es k way op) (hv : wx.cell? ⟨g, o + 2, none⟩ = some v0) (x : OpE) (b : Nat) (hb : wx.heap[b]? = some (.cells (opc x).toArray 69 (0, 0))) (hn : k.forms.length ≤ 1000000) :
    ∃ a c w', (∀ ty, (Builtin.append_ #[63, 63] ty #[v0, .slice (some ⟨b, 0, none⟩) 1 1]).run Tryz.prog wx = .ok (.slice a (k.forms.length + 1) c) w') ∧ (∃ v, w'.cell? ⟨g, o + 2, none⟩ = some v) ∧ w'.frozen? ⟨g, o + 2, none⟩ = false ∧
      ∃ φ', MS w (w'.setCell ⟨g, o + 2, none⟩ (.slice a (k.forms.length + 1) c)) g o bx β φ0 ν0 φ' ν es ⟨k.still, k.text, k.forms ++ [x], k.hav, k.made⟩ way op := by
  obtain ⟨a1, a2, a3, a4⟩ := h.wr.apart
  obtain ⟨vE, vT, vF, vW, hE, hT, hO, hW, c0, c1, c2, -⟩ := h.wr.cells
  obtain rfl : vF = v0 := by rw [c2] at hv; exact Option.some.inj hv
  obtain ⟨v', w', g', hr, hF', hN⟩ := hO.push x b hb hn
  obtain ⟨a, c, hv', -⟩ := hF'.is
  simp only [List.length_append, List.length_cons, List.length_nil, Nat.zero_add] at hv'
  subst hv'
  have hF : Fr (fun j => φ = some j) wx w' := by
    rcases hN with ⟨a, b⟩ | ⟨a, b⟩
    · exact b.mono (fun j _ hj => by rw [hj]; exact a)
    · exact b.mono (fun j _ hj => hj.elim)
  have hty : ∀ j cs t, φ = some j → wx.heap[j]? = some (.cells cs t (0, 0)) → t = 69 := fun j cs t hj hc => by
    rw [hj] at hO
    obtain ⟨cur, hc'⟩ := hO.blk
    rw [hc] at hc'
    simp at hc'
    exact hc'.2
  obtain ⟨cur, uE, uT, uF, uW, k1, k2, d0, d1, d2, d3, d4, d5, jE, ⟨βt, jT⟩, jO, jW⟩ := h.wr.blk
  have ng : φ ≠ some g := fun e => a1 g e rfl
  have kg : w'.heap[g]? = some (.cells cur 84 (0, 0)) := hF.keeps k1 ng
  -- behind the append, the forms not yet written: the walker with the longer forms
  have hFg : Fr (· = g) w' (w'.setCell ⟨g, o + 2, none⟩ (.slice a (k.forms.length + 1) c)) := Fr.setCell _ _ _ rfl
  have gg : g' ≠ g := fun e => by
    obtain ⟨cs, hc⟩ := hF'.blk
    rw [e, kg] at hc
    simp at hc
  have tell : ∀ {β : Option Nat} {v : Value} {t : List El}, SE wx β v t → SE (w'.setCell ⟨g, o + 2, none⟩ (.slice a (k.forms.length + 1) c)) β v t := fun {β v t} hs => (hs.fr hF (fun g hg hs' => by
    subst hg
    obtain ⟨cs, hc⟩ := hs.blk
    have := hty _ _ _ hs' hc
    cases this)).fr hFg (fun g' hg e => by
    subst hg
    obtain ⟨cs, hc⟩ := hs.blk
    rw [e, k1] at hc
    simp at hc)
  have hF2 : Fr (fun j => j = g ∨ φ = some j) wx (w'.setCell ⟨g, o + 2, none⟩ (.slice a (k.forms.length + 1) c)) := (hF.mono (fun j _ hj => .inr hj)).trans (hFg.mono (fun j _ hj => .inl hj))
  have hcell : w'.cell? ⟨g, o + 2, none⟩ = some vF := (hF.cell (p := ⟨g, o + 2, none⟩) (block_lt k1) ng).trans c2
  refine ⟨a, c, w', hr, ⟨_, hcell⟩, frozen_row kg _, some g', ⟨⟨⟨_, uE, uT, _, uW, set_row kg (o + 2) _, by simpa using k2, ?_, ?_, ?_, ?_, ?_, ?_, (jE.fr hF (fun j hj hs => ?_)).fr hFg (fun j hj e => a3 j hj e), ⟨βt, tell jT⟩, hF'.fr hFg (fun j hj e => by injection hj with hj; exact gg (hj.trans e)), (jW.fr hF (fun j hj hs => a4 j hs hj)).fr hFg (fun j hj e => a2 j hj e)⟩, fun q hq => ?_, h.wr.st, h.wr.le⟩, hF2.keeps h.ob (fun hs => ?_), h.fr.next hF2 (fun i hi hs => ?_), (h.ot.trans (Oth.fr hF ng)).trans (Oth.set _ ⟨by omega, by omega⟩), ?_, h.lb, ?_, h.nn⟩⟩
  · rw [Array.getElem?_setIfInBounds_ne (by omega)]; exact d0
  · rw [Array.getElem?_setIfInBounds_ne (by omega)]; exact d1
  · rw [Array.getElem?_setIfInBounds_self_of_lt (by omega)]
  · rw [Array.getElem?_setIfInBounds_ne (by omega)]; exact d3
  · rw [Array.getElem?_setIfInBounds_ne (by omega)]; exact d4
  · rw [Array.getElem?_setIfInBounds_ne (by omega)]; exact d5
  · rw [hj] at jE
    obtain ⟨cs, hc⟩ := SF.blk jE
    have := hty _ _ _ hs hc
    cases this
  · obtain ⟨β', hs⟩ := h.wr.docs q hq
    exact ⟨β', tell hs⟩
  · rcases hs with hs | hs
    · exact h.gb hs
    · exact h.nb hs
  · rcases hs with hs | hs
    · exact .inl hs
    · rcases h.nf i hs with h4 | h4
      · exact .inr (.inl h4)
      · omega
  · intro e
    injection e with e
    rcases hN with ⟨e1, -⟩ | ⟨e1, -⟩
    · exact h.nb (by rw [e1, e])
    · have := block_lt h.ob
      omega
  · intro j hj
    injection hj with hj
    subst hj
    rcases hN with ⟨e1, -⟩ | ⟨e1, -⟩
    · exact h.nf _ e1
    · exact .inr (by rw [e1]; exact h.fr.size)
end

end Go.Proofs.YtfhghijefjhehaaGreatDoor
