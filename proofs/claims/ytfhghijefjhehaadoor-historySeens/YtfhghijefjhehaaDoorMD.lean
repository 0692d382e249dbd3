/-
  Texts put together: Hj Ib Ic.
-/
import Derived.Test.YtfhghijefjhehaaDoorMB
/-! Hj -/
namespace Go.Proofs.YtfhghijefjhehaaDoor
open Go.RowKit
set_option linter.unusedVariables false

theorem edFields : Tryd.prog.underlying 48 = some (.struct (Tryd.prog.fieldsOf 48)) := by kernel_rfl
theorem edHeld : Tryd.prog.stoodInHeld 48 = false := by kernel_rfl

theorem edEq (t k p c l s t' k' p' c' l' s' : Int) (W : World) : (Op.equalIn 10000 48 (.agg #[.int .i64 t, .int .i64 k, .int .i64 p, .int .u8 c, .int .i64 l, .int .i64 s]) (.agg #[.int .i64 t', .int .i64 k', .int .i64 p', .int .u8 c', .int .i64 l', .int .i64 s'])).run Tryd.prog W =
    .ok (decide (t = t' ∧ k = k' ∧ p = p' ∧ c = c' ∧ l = l' ∧ s = s')) W := by
  rw [show (10000 : Nat) = 9999 + 1 from rfl, run_equalIn_struct W _ _ _ _ edFields edHeld]
  simp only [Program.fieldsOf, Tryd.underlying48]
  by_cases h0 : t = t'
  · simp [Op.eqFields, part, go_sem, h0]
    (repeat' split) <;> simp_all
  · simp [Op.eqFields, part, go_sem, h0]
theorem edNe {k p c l s k' p' c' l' s' t t' : Int} (h : (⟨t, ⟨k, p, c, l, s⟩⟩ : Ed) ≠ ⟨t', ⟨k', p', c', l', s'⟩⟩) (W : World) : (Op.equalIn 10000 48 (.agg #[.int .i64 t, .int .i64 k, .int .i64 p, .int .u8 c, .int .i64 l, .int .i64 s]) (.agg #[.int .i64 t', .int .i64 k', .int .i64 p', .int .u8 c', .int .i64 l', .int .i64 s'])).run Tryd.prog W = .ok false W := by
  rw [edEq]
  congr 1
  simp only [ne_eq, Ed.mk.injEq, OpE.mk.injEq] at h
  simpa using h
theorem edSame (t k p c l s : Int) (W : World) : (Op.equalIn 10000 48 (.agg #[.int .i64 t, .int .i64 k, .int .i64 p, .int .u8 c, .int .i64 l, .int .i64 s]) (.agg #[.int .i64 t, .int .i64 k, .int .i64 p, .int .u8 c, .int .i64 l, .int .i64 s])).run Tryd.prog W = .ok true W := by
  rw [edEq]
  simp
end Go.Proofs.YtfhghijefjhehaaDoor

/-! Ib -/
namespace Go.Proofs.YtfhghijefjhehaaDoor
open Go.RowKit
set_option linter.unusedVariables false

def lastP (l : List Nat) : Int := match l.getLast? with
  | some j => (j : Int)
  | none => -1
def evV (e : Ev) (a : Option Addr) (c : Nat) : Value := .agg #[.int .i64 e.step, .int .i64 e.site, .int .i64 e.hav, .int .i64 e.made, .int .i64 e.o.kind, .int .i64 e.o.pos, .int .u8 e.o.ch, .int .i64 e.o.cl, .int .i64 e.o.sq, .slice a e.len c]
def evO (evs : List Ev) (A : Nat → Option Addr) (K : Nat → Nat) : Option Nat → Value
  | some j => evV (evs.getD j zev) (A j) (K j)
  | none => evV zev none 0
def oI : Option Nat → Int
  | some j => (j : Int)
  | none => -1
theorem lastP_eq (l : List Nat) : lastP l = oI l.getLast? := by
  unfold lastP oI
  cases l.getLast? <;> rfl

section
variable {w : World} {x : Nat} {C : Int} {vL vE : Value} {S : Nat → Ls} {L : Nat → Option Nat}

/-- The list i of places, to be read. -/
theorem TL.ints (h : TL w x C vL vE S L) {i : Nat} (hi : i < 195) {l : List Nat} (hS : S i = .ns l) : ∃ a c, w.cell? ⟨x, 3 + i, none⟩ = some (.slice a l.length c) ∧ (0 < l.length → ∃ g, a = some ⟨g, 0, none⟩ ∧ ∀ k (hk : k < l.length), w.cell? ⟨g, k, none⟩ = some (.int .i64 (l[k] : Int))) ∧ l.length ≤ 9223372036854775807 := by
  obtain ⟨v, hv, hs⟩ := h.slot i hi
  rw [hS] at hs
  cases hb : L i with
  | none =>
    rw [hb] at hs
    obtain ⟨rfl, rfl⟩ := hs
    exact ⟨none, 0, hv, fun h => by simp at h, by simp⟩
  | some g =>
    rw [hb] at hs
    obtain ⟨cap, rfl, hR⟩ := hs
    refine ⟨_, _, hv, fun _ => ⟨g, rfl, fun k hk => ?_⟩, ?_⟩
    · have := RowF.cell hR szN k 0 hk (by omega)
      rw [Nat.mul_one, Nat.add_zero] at this
      rw [this]
      rfl
    · obtain ⟨cur, -, -, -, h1, h2, -⟩ := hR
      omega

set_option maxRecDepth 100000 in
set_option maxHeartbeats 4000000 in
theorem last_any (h : TL w x C vL vE S L) (c : Nat) (hc : c < 65) (l : List Nat) (hS : S (65 + c) = .ns l) :
    Calls Tryd.prog 46 #[.pointer (some ⟨x, 0, none⟩), .int .i64 c] w fun e w' => e = .returned (.int .i64 (lastP l)) ∧ Below w.heap.size w w' := by
  obtain ⟨a, cp, hv, hg, hl⟩ := h.ints (i := 65 + c) (by omega) hS
  rw [show 3 + (65 + c) = 68 + c from by omega] at hv
  have c65 : (c : Int) < 65 := by omega
  have HH := hd h
  clear h
  cases l with
  | nil =>
    simp only [List.length_nil] at hv
    clear hg hl
    go_enter Tryd.func46, Tryd.ntmps46
    go_wp2
    go_ret
    exact ⟨rfl, Below.refl _ _⟩
  | cons y l =>
    obtain ⟨g, rfl, hcell⟩ := hg (by simp)
    have h1 := hcell l.length (by simp)
    have HG : Hid (lastP (y :: l) = (((y :: l)[l.length]'(by simp) : Nat) : Int)) := by
      unfold Hid lastP
      rw [List.getLast?_eq_getElem?]
      simp
    generalize (y :: l)[l.length]'(by simp) = z at h1 HG
    simp only [List.length_cons] at hv hl
    clear hcell hg
    rw [HG.out]
    have k1 : (((l.length + 1 : Nat) : Int) == 0) = false := by simp; omega
    have h1' : w.cell? ⟨g, l.length + 1 - 1, none⟩ = some (.int .i64 (z : Int)) := h1
    clear h1
    have hn1 : 1 ≤ l.length + 1 := by omega
    generalize l.length + 1 = n at *
    go_enter Tryd.func46, Tryd.ntmps46
    go_wp2
    go_ret
    exact ⟨rfl, Below.refl _ _⟩

set_option maxRecDepth 100000 in
set_option maxHeartbeats 4000000 in
theorem event_any {evs : List Ev} {A : Nat → Option Addr} {K : Nat → Nat} {aE : Option Addr} {nE cE : Nat} (h : TL w x C vL (.slice aE nE cE) S L) (hV : IsV w aE nE evs A K) (j : Option Nat) (hj : ∀ k, j = some k → k < evs.length) :
    Calls Tryd.prog 45 #[.pointer (some ⟨x, 0, none⟩), .int .i64 (oI j)] w fun e w' => e = .returned (evO evs A K j) ∧ Below w.heap.size w w' := by
  obtain ⟨-, -, h2⟩ := h.heads
  have lx := h.lt
  clear h
  cases j with
  | none =>
    simp only [oI, evO]
    clear hV hj
    go_enter Tryd.func45, Tryd.ntmps45
    go_wp2
    refine bodyPost_ret (v := evV zev none 0) (by simp [results, Tryd.results45, go_sem, evV, zev, zo]) rfl ?_
    exact ⟨rfl, by repeat (first | exact Below.refl _ _ | refine Below.alloc ?_ (by simp) _ | refine Below.setCell ?_ (by simp) _)⟩
  | some k =>
    have hk := hj k rfl
    clear hj
    obtain ⟨b, off, rfl, s1, q⟩ := hV.2 (by have := hV.1; omega)
    obtain ⟨q0, q1, q2, q3, q4, q5, q6, q7, q8, q9⟩ := q k hk
    have i1 : (k : Int) < (nE : Int) := by have := hV.1; omega
    have hd1 : evs.getD k zev = evs[k] := by simp [List.getD, List.getElem?_eq_getElem hk]
    simp only [oI, evO, hd1]
    clear q hV hd1
    generalize evs[k] = y at *
    obtain ⟨x0, x1, x2, x3, ⟨ok, op, oc, oL, os⟩, xn⟩ := y
    simp only at q0 q1 q2 q3 q4 q5 q6 q7 q8 q9
    have k1 : ((k : Int) == -1) = false := by first | (simp; done) | (simp; omega)
    have ne : ¬ b = w.heap.size := by omega
    go_enter Tryd.func45, Tryd.ntmps45
    go_wp2
    refine bodyPost_ret (v := .agg #[.int .i64 x0, .int .i64 x1, .int .i64 x2, .int .i64 x3, .int .i64 ok, .int .i64 op, .int .u8 oc, .int .i64 oL, .int .i64 os, .slice (A k) xn (K k)]) (by simp [results, Tryd.results45, go_sem]) rfl ?_
    exact ⟨rfl, by repeat (first | exact Below.refl _ _ | refine Below.alloc ?_ (by simp) _ | refine Below.setCell ?_ (by simp) _)⟩
end

end Go.Proofs.YtfhghijefjhehaaDoor

/-! Ic -/
namespace Go.Proofs.YtfhghijefjhehaaDoor
open Go.RowKit
set_option linter.unusedVariables false

section
variable {w : World} {x : Nat} {C : Int} {vL vE : Value} {S : Nat → Ls} {L : Nat → Option Nat}

set_option maxRecDepth 100000 in
set_option maxHeartbeats 4000000 in
theorem unmade_any (h : TL w x C vL vE S L) (st ha ok op oc oL os : Int) (ad : Option Addr) (nd cd cN mN : Nat) (hc : cN < 65) (l : List Nat) (hS : S cN = .ns l) :
    Calls Tryd.prog 49 #[.pointer (some ⟨x, 0, none⟩), .agg #[.int .i64 st, .int .i64 cN, .int .i64 ha, .int .i64 mN, .int .i64 ok, .int .i64 op, .int .u8 oc, .int .i64 oL, .int .i64 os, .slice ad nd cd]] w
      fun e w' => ∃ r : Bool, e = .returned (.bool r) ∧ (r = true ↔ ∃ hm : mN < l.length, ((l[mN] : Nat) : Int) < ha) ∧ Below w.heap.size w w' := by
  have hb : Below w.heap.size w (w.alloc (.cells #[.int .i64 st, .int .i64 cN, .int .i64 ha, .int .i64 mN, .int .i64 ok, .int .i64 op, .int .u8 oc, .int .i64 oL, .int .i64 os, .slice ad nd cd] 50)) := (Below.refl _ _).alloc (Nat.le_refl _) _
  obtain ⟨a, cp, hv, hg, hl⟩ := (h.below hb).ints (i := cN) (by omega) hS
  have hE := hd (heap_alloc_new w (.cells #[.int .i64 st, .int .i64 cN, .int .i64 ha, .int .i64 mN, .int .i64 ok, .int .i64 op, .int .u8 oc, .int .i64 oL, .int .i64 os, .slice ad nd cd] 50))
  have HB := hd hb
  clear hb h
  have c65 : (cN : Int) < 65 := by omega
  go_enter Tryd.func49, Tryd.ntmps49
  go_upto_region 1 with fail
  generalize w.alloc (.cells #[.int .i64 st, .int .i64 cN, .int .i64 ha, .int .i64 mN, .int .i64 ok, .int .i64 op, .int .u8 oc, .int .i64 oL, .int .i64 os, .slice ad nd cd] 50) = w1 at *
  have e1 := cell_row hE.out 1; have e2 := cell_row hE.out 2; have e3 := cell_row hE.out 3
  simp at e1 e2 e3
  by_cases hm : mN < l.length
  · obtain ⟨g, rfl, hcell⟩ := hg (by omega)
    have h1 := hcell mN hm
    have k1 : (mN : Int) < (l.length : Int) := by omega
    have HR : Hid (((l[mN] : Nat) : Int) < ha ↔ ∃ hm : mN < l.length, ((l[mN] : Nat) : Int) < ha) := ⟨fun h => ⟨hm, h⟩, fun ⟨_, h⟩ => h⟩
    generalize l[mN] = z at h1 HR
    clear hcell hg
    go_quiet (fail)
    go_wp2
    go_quiet (fail)
    go_wp2
    go_ret
    exact ⟨_, rfl, by rw [decide_eq_true_iff]; exact HR.out, below_drewN (below_drewN HB.out _) _⟩
  · have HR : Hid (¬ ∃ hm : mN < l.length, ((l[mN] : Nat) : Int) < ha) := fun ⟨h, _⟩ => hm h
    have k1 : ¬ (mN : Int) < (l.length : Int) := by omega
    clear hg
    go_quiet (fail)
    go_wp2
    go_quiet (fail)
    go_wp2
    go_ret
    first
      | exact .inl ⟨rfl, HR.out, below_drewN (below_drewN HB.out _) _⟩
      | exact ⟨false, rfl, iff_of_false (by decide) HR.out, below_drewN (below_drewN HB.out _) _⟩

set_option maxRecDepth 100000 in
set_option maxHeartbeats 4000000 in
theorem asLogged_any {aL : Option Addr} {nL cL : Nat} {log : List Ed} (h : TL w x C (.slice aL nL cL) vE S L) (hL : IsL w aL nL log) (tg ok op oc os : Int) (cN : Nat) (hc : cN < 65) (h1 : 1 ≤ os) (l : List Nat) (hS : S cN = .ns l) (hlt : ∀ k ∈ l, k < log.length)
    (G : Prop) (hG : G ↔ (l.length : Int) < os ∨ ∃ (q : Nat) (h : q < l.length), (q : Int) + 1 = os ∧ log[l[q]]? = some ⟨tg, ⟨ok, op, oc, cN, os⟩⟩) :
    Calls Tryd.prog 64 #[.pointer (some ⟨x, 0, none⟩), .agg #[.int .i64 tg, .int .i64 ok, .int .i64 op, .int .u8 oc, .int .i64 cN, .int .i64 os]] w
      fun e w' => ∃ r : Bool, e = .returned (.bool r) ∧ (r = true ↔ G) ∧ Below w.heap.size w w' := by
  have hb : Below w.heap.size w (w.alloc (.cells #[.int .i64 tg, .int .i64 ok, .int .i64 op, .int .u8 oc, .int .i64 cN, .int .i64 os] 48)) := (Below.refl _ _).alloc (Nat.le_refl _) _
  obtain ⟨a, cp, hv, hg, hl⟩ := (h.below hb).ints (i := cN) (by omega) hS
  obtain ⟨-, hx1, -⟩ := (h.below hb).heads
  have hE := hd (heap_alloc_new w (.cells #[.int .i64 tg, .int .i64 ok, .int .i64 op, .int .u8 oc, .int .i64 cN, .int .i64 os] 48))
  have HL := hd (hL.below hb (Nat.le_refl _))
  have HB := hd hb
  have HGd := hd hG
  clear hb h hL hG
  have c65 : (cN : Int) < 65 := by omega
  go_enter Tryd.func64, Tryd.ntmps64
  go_upto_region 1 with fail
  generalize w.alloc (.cells #[.int .i64 tg, .int .i64 ok, .int .i64 op, .int .u8 oc, .int .i64 cN, .int .i64 os] 48) = w1 at *
  have e0 := cell_row hE.out 0; have e1 := cell_row hE.out 1; have e2 := cell_row hE.out 2; have e3 := cell_row hE.out 3; have e4 := cell_row hE.out 4; have e5 := cell_row hE.out 5
  simp at e0 e1 e2 e3 e4 e5
  by_cases hgt : (l.length : Int) < os
  · have HR : Hid G := HGd.out.2 (.inl hgt)
    clear hg HGd hlt
    go_quiet (fail)
    go_wp2
    go_quiet (fail)
    go_wp2
    go_ret
    first
      | exact .inr ⟨rfl, HR.out, below_drewN (below_drewN HB.out _) _⟩
      | exact ⟨true, rfl, iff_of_true rfl HR.out, below_drewN (below_drewN HB.out _) _⟩
  · obtain ⟨q, rfl⟩ : ∃ q : Nat, os = (q : Int) + 1 := ⟨(os - 1).toNat, by omega⟩
    have hq : q < l.length := by omega
    obtain ⟨g, rfl, hcell⟩ := hg (by omega)
    have h2 := hcell q hq
    have hz := hlt l[q] (List.getElem_mem hq)
    have HG2 : Hid (G ↔ log[l[q]]? = some ⟨tg, ⟨ok, op, oc, cN, (q : Int) + 1⟩⟩) := by
      constructor
      · intro hh
        rcases HGd.out.1 hh with a | ⟨q', h', a1, a2⟩
        · exact absurd a hgt
        · have : q' = q := by omega
          subst this
          exact a2
      · intro hh
        exact HGd.out.2 (.inr ⟨q, hq, rfl, hh⟩)
    have k1 : IntKind.i64.wrap (q : Int) = (q : Int) := by rw [IntKind.wrap_i64]; omega
    have kd : decide ((l.length : Int) < (q : Int) + 1) = false := by simpa using hgt
    have k2 : (q : Int) < (l.length : Int) := by omega
    obtain ⟨b, off, rfl, s1, qq⟩ := HL.out.2 (by have := HL.out.1; omega)
    obtain ⟨q0, q1, q2, q3, q4, q5⟩ := qq l[q] hz
    have k3 : ((l[q] : Nat) : Int) < (nL : Int) := by have := HL.out.1; omega
    rw [List.getElem?_eq_getElem hz] at HG2
    generalize log[l[q]] = y at *
    generalize l[q] = z at *
    clear hcell hg hlt HGd qq hz h1
    obtain ⟨yt, ⟨yk, yp, yc, yl, ys⟩⟩ := y
    simp only at q0 q1 q2 q3 q4 q5
    by_cases he : (⟨yt, ⟨yk, yp, yc, yl, ys⟩⟩ : Ed) = ⟨tg, ⟨ok, op, oc, cN, (q : Int) + 1⟩⟩
    · have HR : Hid G := HG2.out.2 (by rw [he])
      obtain ⟨rfl, h4⟩ := Ed.mk.inj he
      obtain ⟨rfl, rfl, rfl, rfl, rfl⟩ := OpE.mk.inj h4
      have E1 := fun W => edSame yt yk yp yc (cN : Int) ((q : Int) + 1) W
      clear HG2 he h4
      go_quiet (fail)
      go_wp2
      go_quiet (fail)
      go_wp2
      go_ret
      first
        | exact .inr ⟨rfl, HR.out, below_drewN (below_drewN HB.out _) _⟩
        | exact ⟨true, rfl, iff_of_true rfl HR.out, below_drewN (below_drewN HB.out _) _⟩
    · have HR : Hid (¬ G) := fun hh => he (by have := HG2.out.1 hh; injection this)
      have E1 := fun W => edNe he W
      clear HG2 he
      go_quiet (fail)
      go_wp2
      go_quiet (fail)
      go_wp2
      go_ret
      first
        | exact .inl ⟨rfl, HR.out, below_drewN (below_drewN HB.out _) _⟩
        | exact ⟨false, rfl, iff_of_false (by decide) HR.out, below_drewN (below_drewN HB.out _) _⟩
end

end Go.Proofs.YtfhghijefjhehaaDoor
