/-
  Texts put together: Pf Pg.
-/
import Derived.Test.YtfhghijefjhehaaGreatDoorPe
import Derived.Test.YtfhghijefjhehaaGreatDoorWe
import Derived.Deep.RegionHeld3
/-! Pf -/
namespace Go.Proofs.YtfhghijefjhehaaGreatDoor
open Go.RowKit
set_option linter.unusedVariables false

/-- What take leaves. -/
def TkP (w : World) (g o : Nat) (β φ ν : Option Nat) (es : List Ed) (k : Wk) (way : List PV) (op : OpE) (own : Bool) (w' : World) : Prop := ∃ φ' ν' p, p.view = (k.take apE op own).view ∧ WR w' g o β φ' ν' es (k.take apE op own) (way ++ [p]) ∧ Fr (fun j => j = g ∨ φ = some j ∨ ν = some j) w w' ∧ Oth g o w w' ∧ (∀ j, φ' = some j → φ = some j ∨ w.heap.size ≤ j) ∧ ∀ j, ν' = some j → ν = some j ∨ w.heap.size ≤ j

section
variable {w : World} {g o : Nat} {β φ ν : Option Nat} {es : List Ed} {k : Wk} {way : List PV}
theorem MS.fin {w wx : World} {bx : Nat} {φ' ν' : Option Nat} {op r : OpE} {own : Bool} {p : PV} (h : MS w wx g o bx β φ ν φ' ν' es (k.take apE op own) (way ++ [p]) r) (hp : p.view = (k.take apE op own).view) : TkP w g o β φ ν es k way op own wx := ⟨φ', ν', p, hp, h.wr, h.fr, h.ot, h.nf, h.nn⟩

/-- The walker, its operation put into a block. -/
theorem MS.begin (h : WR w g o β φ ν es k way) (op : OpE) : MS w (w.alloc (.cells (opc op).toArray 69)) g o w.heap.size β φ ν φ ν es k way op := by
  have hb : Below w.heap.size w (w.alloc (.cells (opc op).toArray 69)) := (Below.refl _ _).alloc (Nat.le_refl _) _
  refine ⟨h.below hb, heap_alloc_new w _, Fr.of_below hb, Oth.fr (Fr.of_below (S := fun _ => False) hb) (fun h => h), fun e => ?_, Nat.le_refl _, fun j hj => .inl hj, fun j hj => .inl hj⟩
  obtain ⟨vE, vT, vF, vW, hE, hT, hO, hW, -⟩ := h.cells
  have := hO.lt _ e
  omega

set_option maxRecDepth 100000 in
set_option maxHeartbeats 4000000 in
/-- Its own record: the first form goes. -/
theorem take_own (h : WR w g o β φ ν es k way) (op : OpE) {y : OpE} {fs : List OpE} (hF : k.forms = y :: fs) (hn : way.length ≤ 100000) (hh : k.hav ≤ 4096) :
    Calls Tryz.prog 57 #[.pointer (some ⟨g, o, none⟩), op.val, .bool true] w fun e w' => (∃ v, e = .returned v) ∧ TkP w g o β φ ν es k way op true w' := by
  have hM := hd (MS.begin h op)
  have HN := hd hn
  obtain ⟨ok, opp, oc, ol, os⟩ := op
  simp only [OpE.val, opc] at hM ⊢
  clear h hn
  go_enter Tryz.func57, Tryz.ntmps57
  go_upto_region 1 with fail
  generalize w.alloc (.cells #[.int .i64 ok, .int .i64 opp, .int .u8 oc, .int .i64 ol, .int .i64 os] 69) = w1 at *
  obtain ⟨vE, vT, vF, vW, -, -, hO, -, -, -, d2, -, d4, -⟩ := hM.out.wr.cells
  obtain ⟨aF, cF, hvF, -⟩ := hO.is
  subst hvF
  rw [hF] at hO d2
  simp only [List.length_cons] at hO d2
  obtain ⟨gf, off, -, rfl, -, hc1, hc2, hc3, t1, t2⟩ := hO.tail
  have T1 := hd t1
  have T2 := hd t2
  have f2 := hM.out.wr.frozen (o + 2)
  have lg1 : g < w1.heap.size := hM.out.wr.lt
  have HF := hd hF
  clear hO t1 t2 hF
  by_cases hc : cF = 1
  · subst hc
    obtain rfl : fs = [] := List.length_eq_zero_iff.1 (by omega)
    have T3 : Hid (FO w1 φ (.slice (some ⟨gf, off, none⟩) 0 0) []) := T1.out rfl
    simp only [List.length_nil] at d2
    obtain ⟨z1, z2, z3⟩ := hM.out.wr.setForms T3.out
    have hM2 := hM.out.put z1 z2 z3 (fun j hj => .inl hj)
    have hM3 := hM2.hav (k.hav + 1)
    have ek : (⟨k.still, k.text, [], k.hav + 1, k.made⟩ : Wk) = k.take apE ⟨ok, opp, oc, ol, os⟩ true := by
      unfold Wk.take
      rw [if_pos rfl, HF.out]
      rfl
    have HM2 := hd hM2
    have e4 : ((k.hav : Int) + 1) = ((k.hav + 1 : Nat) : Int) := by omega
    have EM := hd e4
    simp only at hM3
    rw [ek] at hM3
    have CT := hd (told_any hM3.wr (by have := HN.out; omega))
    have HM3 := hd hM3
    obtain ⟨uE, uT, uF, uW, -, -, -, -, -, -, -, -, q4, -⟩ := HM2.out.wr.cells
    have f4 := HM2.out.wr.frozen (o + 4)
    clear z1 z2 z3 hM hM2 hM3 ek e4
    go_upto_region 12 with fail
    generalize w1.setCell ⟨g, o + 2, none⟩ (.slice (some ⟨gf, off, none⟩) 0 0) = w2 at *
    clear d2 d4 f2
    go_upto_region 13 with fail
    rw [EM.out]
    go_wp2_with fail
    refine CT.out.mono ?_
    rintro e w9 ⟨⟨vr, rfl⟩, hTP⟩
    obtain ⟨ν2, p, hp, hM9⟩ := HM3.out.told hTP
    have Z := hd (hM9.fin hp)
    clear hTP hM9 hp CT HM3
    go_wp2
    refine bodyPost_end (results_none rfl _ _ _) rfl ?_
    exact ⟨⟨_, rfl⟩, Z.out⟩
  · obtain ⟨z1, z2, z3⟩ := hM.out.wr.setForms T2.out
    have hM2 := hM.out.put z1 z2 z3 (fun j hj => .inl hj)
    have hM3 := hM2.hav (k.hav + 1)
    have ek : (⟨k.still, k.text, fs, k.hav + 1, k.made⟩ : Wk) = k.take apE ⟨ok, opp, oc, ol, os⟩ true := by
      unfold Wk.take
      rw [if_pos rfl, HF.out]
      rfl
    have HM2 := hd hM2
    have e4 : ((k.hav : Int) + 1) = ((k.hav + 1 : Nat) : Int) := by omega
    have EM := hd e4
    simp only at hM3
    rw [ek] at hM3
    have CT := hd (told_any hM3.wr (by have := HN.out; omega))
    have HM3 := hd hM3
    obtain ⟨uE, uT, uF, uW, -, -, -, -, -, -, -, -, q4, -⟩ := HM2.out.wr.cells
    have f4 := HM2.out.wr.frozen (o + 4)
    clear z1 z2 z3 hM hM2 hM3 ek e4
    go_upto_region 12 with fail
    generalize w1.setCell ⟨g, o + 2, none⟩ (.slice (some ⟨gf, off + 5, none⟩) fs.length (cF - 1)) = w2 at *
    clear d2 d4 f2
    go_upto_region 13 with fail
    rw [EM.out]
    go_wp2_with fail
    refine CT.out.mono ?_
    rintro e w9 ⟨⟨vr, rfl⟩, hTP⟩
    obtain ⟨ν2, p, hp, hM9⟩ := HM3.out.told hTP
    have Z := hd (hM9.fin hp)
    clear hTP hM9 hp CT HM3
    go_wp2
    refine bodyPost_end (results_none rfl _ _ _) rfl ?_
    exact ⟨⟨_, rfl⟩, Z.out⟩
end

end Go.Proofs.YtfhghijefjhehaaGreatDoor

/-! Pg -/
namespace Go.Proofs.YtfhghijefjhehaaGreatDoor
open Go.RowKit
set_option linter.unusedVariables false

theorem through_take {l : List OpE} {op : OpE} {i : Nat} (hi : i < l.length) : throughP op (l.take (i + 1)) false = (shiftP (throughP op (l.take i) false).1 l[i] true, (throughP op (l.take i) false).2 ++ [shiftP l[i] (throughP op (l.take i) false).1 false]) := by
  rw [List.take_succ_eq_append_getElem hi, throughP_snoc]
  rfl

/-- The operation as it is now, the forms that are done. -/
structure TH (w wx : World) (g o bx : Nat) (β φ ν : Option Nat) (es : List Ed) (k : Wk) (way : List PV) (r : OpE) (nx : List OpE) (v : Value) : Prop where
  ms : MS w wx g o bx β φ ν φ ν es k way r
  nx : ∃ φn, FO wx φn v nx ∧ ∀ j, φn = some j → w.heap.size ≤ j ∧ j ≠ bx
  lf : ∀ j, φ = some j → j < w.heap.size

section
variable {w wx wy : World} {g o bx : Nat} {β φ ν : Option Nat} {es : List Ed} {k : Wk} {way : List PV} {r : OpE} {nx : List OpE} {v : Value}
theorem TH.below (h : TH w wx g o bx β φ ν es k way r nx v) (hb : Below wx.heap.size wx wy) : TH w wy g o bx β φ ν es k way r nx v := by
  obtain ⟨φn, h1, h2⟩ := h.nx
  exact ⟨h.ms.below hb, ⟨φn, h1.fr (Fr.of_below (S := fun _ => False) hb) (fun _ _ h => h), h2⟩, h.lf⟩
theorem TH.setop (h : TH w wx g o bx β φ ν es k way r nx v) (x : OpE) : TH w (set5 wx bx 0 x.kind x.pos x.ch x.cl x.sq) g o bx β φ ν es k way x nx v := by
  obtain ⟨φn, h1, h2⟩ := h.nx
  exact ⟨h.ms.setop x, ⟨φn, h1.fr (Fr.set5 wx bx 0 x.kind x.pos x.ch x.cl x.sq) (fun j hj e => (h2 j hj).2 e), h2⟩, h.lf⟩
/-- One form more. -/
theorem TH.push (h : TH w wx g o bx β φ ν es k way r nx v) (x : OpE) (b : Nat) (hb : wx.heap[b]? = some (.cells (opc x).toArray 69 (0, 0))) (hn : nx.length ≤ 1000000) :
    ∃ a c w', (∀ ty, (Builtin.append_ #[63, 63] ty #[v, .slice (some ⟨b, 0, none⟩) 1 1]).run Tryz.prog wx = .ok (.slice a (nx.length + 1) c) w') ∧ TH w w' g o bx β φ ν es k way r (nx ++ [x]) (.slice a (nx.length + 1) c) := by
  obtain ⟨φn, h1, h2⟩ := h.nx
  obtain ⟨v', w', g', hr, hF', hN⟩ := h1.push x b hb hn
  obtain ⟨a, c, hv', -⟩ := hF'.is
  simp only [List.length_append, List.length_cons, List.length_nil, Nat.zero_add] at hv'
  subst hv'
  have hF : Fr (fun j => φn = some j) wx w' := by
    rcases hN with ⟨a, b⟩ | ⟨a, b⟩
    · exact b.mono (fun j _ hj => by rw [hj]; exact a)
    · exact b.mono (fun j _ hj => hj.elim)
  have hty : ∀ j cs t, φn = some j → wx.heap[j]? = some (.cells cs t (0, 0)) → t = 69 := fun j cs t hj hc => by
    rw [hj] at h1
    obtain ⟨cur, hc'⟩ := h1.blk
    rw [hc] at hc'
    simp at hc'
    exact hc'.2
  have hg : φn ≠ some g := fun e => by
    obtain ⟨cur, vE, vT, vF, vW, k1, -⟩ := h.ms.wr.blk
    have := hty g _ _ e k1
    cases this
  refine ⟨a, c, w', hr, ⟨⟨h.ms.wr.fr hF (fun j cs t hj hc => ?_) (fun j hj hs => ?_) (fun j hj hs => ?_), hF.keeps h.ms.ob (fun hs => (h2 bx hs).2 rfl), h.ms.fr.next hF (fun i hi hs => ?_), h.ms.ot.trans (Oth.fr hF hg), h.ms.nb, h.ms.lb, h.ms.nf, h.ms.nn⟩, ⟨some g', hF', fun j hj => ?_⟩, h.lf⟩⟩
  · rw [hty j cs t hj hc]
    exact ⟨by decide, by decide, by decide⟩
  · have := h.lf j hj
    have := (h2 j hs).1
    omega
  · obtain ⟨vE, vT, vF, vW, hE, hT, hO, hW, -⟩ := h.ms.wr.cells
    rw [hj] at hW
    obtain ⟨cs, hc⟩ := SF.blk hW
    have := hty _ _ _ hs hc
    cases this
  · have := (h2 i hs).1
    omega
  · injection hj with hj
    subst hj
    rcases hN with ⟨e, -⟩ | ⟨e, -⟩
    · exact h2 _ e
    · have := h.ms.fr.size
      have := block_lt h.ms.ob
      exact ⟨by omega, by omega⟩
/-- The form i, to be read. -/
theorem TH.nth (h : TH w wx g o bx β φ ν es k way r nx v) {i : Nat} (hi : i < k.forms.length) : ∃ gf off cF, wx.cell? ⟨g, o + 2, none⟩ = some (.slice (some ⟨gf, off, none⟩) k.forms.length cF) ∧ k.forms.length ≤ cF ∧ cF ≤ 9223372036854775807 ∧ gf < wx.heap.size ∧ gf ≠ bx ∧
    wx.cell? ⟨gf, off + i * 5, none⟩ = some (.int .i64 k.forms[i].kind) ∧ wx.cell? ⟨gf, off + i * 5 + 1, none⟩ = some (.int .i64 k.forms[i].pos) ∧ wx.cell? ⟨gf, off + i * 5 + 2, none⟩ = some (.int .u8 k.forms[i].ch) ∧ wx.cell? ⟨gf, off + i * 5 + 3, none⟩ = some (.int .i64 k.forms[i].cl) ∧ wx.cell? ⟨gf, off + i * 5 + 4, none⟩ = some (.int .i64 k.forms[i].sq) := by
  obtain ⟨vE, vT, vF, vW, -, -, hO, -, -, -, d2, -⟩ := h.ms.wr.cells
  obtain ⟨aF, cF, rfl, -⟩ := hO.is
  obtain ⟨gf, off, rfl, -, e1, e2, e3, q⟩ := hO.nth hi
  refine ⟨gf, off, cF, d2, e1, e2, e3, fun e => ?_, q⟩
  cases hφ : φ with
  | none =>
    rw [hφ] at hO
    obtain ⟨-, e⟩ := hO
    rw [e] at hi
    simp at hi
  | some g2 =>
    rw [hφ] at hO
    obtain ⟨off', cap, cur, hv, -⟩ := hO
    simp at hv
    exact h.ms.nb (by rw [hφ, ← hv.1.1, e])
end

end Go.Proofs.YtfhghijefjhehaaGreatDoor
