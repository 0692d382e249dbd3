/-
  Texts put together: Hg Hh Ia Ig.
-/
import Derived.Test.YtfhghijefjhehaaGreatDoorMNb
import Derived.Test.YtfhghijefjhehaaGreatDoorMHza
import Derived.Deep.RegionHeld3
/-! Hg -/
namespace Go.Proofs.YtfhghijefjhehaaGreatDoor
open Go.RowKit
set_option linter.unusedVariables false

theorem below_drewN {B : Nat} {w w' : World} (h : Below B w w') (m : Nat) : Below B w (w'.drewN m) := ⟨h.os, h.tape, h.output, h.size, h.block⟩

/-- Does an event make this operation? -/
def mkE (e : Ev) (o : OpE) : Prop := e.o ≠ zo ∧ e.o = o

set_option maxRecDepth 100000 in
set_option maxHeartbeats 4000000 in
theorem rmakes_any (C : Int) (aL aE : Option Addr) (nL cL nE cE k : Nat) (log : List Ed) (evs : List Ev) (A : Nat → Option Addr) (K : Nat → Nat) (w : World) (hL : IsL w aL nL log) (hV : IsV w aE nE evs A K) (hk : k < nL) (hkl : k < log.length) (hn : nE ≤ 9223372036854775800) (hm : nL ≤ 4096) :
    Calls Tryz.prog 54 #[.agg #[.int .i64 C, .slice aL nL cL, .slice aE nE cE], .int .i64 k] w fun e w' => ∃ r : Bool, e = .returned (.bool r) ∧ (r = true ↔ ∃ j, ∃ h : j < evs.length, mkE evs[j] log[k].o) ∧ Below w.heap.size w w' := by
  have g := box_hist w #[.int .i64 C, .slice aL nL cL, .slice aE nE cE] 25
  have gb : Below w.heap.size w (w.alloc (.cells #[.int .i64 C, .slice aL nL cL, .slice aE nE cE] 25)) := (Below.refl _ _).alloc (Nat.le_refl _) _
  have H1 := hd (hL.below gb (Nat.le_refl _))
  have H2 := hd (hV.below gb (Nat.le_refl _))
  have HG := hd g
  have HB := hd gb
  clear hL hV g gb
  obtain ⟨bl, fl, rfl, sl, ql⟩ := H1.out.2 (by omega)
  have QL := hd (ql k hkl)
  clear ql sl
  generalize log[k] = y at *
  obtain ⟨yt, yk, yp, yc, yl, ys⟩ := y
  simp only at QL
  go_enter Tryz.func54, Tryz.ntmps54
  go_upto_region 1 with fail
  generalize w.alloc (.cells #[.int .i64 C, .slice (some ⟨bl, fl, none⟩) nL cL, .slice aE nE cE] 25) = w0 at *
  go_wp2_with fail
  have i0 : (k : Int) < (nL : Int) := by omega
  have HN := hd hn
  have HM := hd hm
  clear hn hm
  go_loopw [5] (fun b wr => ∃ i m : Nat, i ≤ nE ∧ b = .int .i64 i ∧ wr = w0.drewN m ∧ Hid (∀ j (h : j < evs.length), j < i → ¬ mkE evs[j] ⟨yk, yp, yc, yl, ys⟩)) (fun b _ => nE - (intOf b).toNat)
  case atStart => exact ⟨0, 0, Nat.zero_le _, rfl, rfl, fun j _ h => by omega⟩
  case round =>
    obtain ⟨i, m, hi, rfl, rfl, HR⟩ := hrel
    have x1 := cell_row HG.out 1
    have x2 := cell_row HG.out 2
    simp at x1 x2
    by_cases hlt : i < nE
    · have l1 : i < evs.length := by have := H2.out.1; omega
      obtain ⟨b, off, rfl, s1, q⟩ := H2.out.2 (by omega)
      obtain ⟨q0, q1, q2, q3, q4, q5, q6, q7, q8, q9⟩ := q i l1
      clear q q0 q1 q2 q3 q9 s1
      obtain ⟨y0, y1, y2, y3, y4, y5⟩ := QL.out
      clear y0
      have i1 : (i : Int) < (nE : Int) := by omega
      have HS := hd (show ∀ P : Prop, (¬ mkE evs[i] ⟨yk, yp, yc, yl, ys⟩) → ∀ j (h : j < evs.length), j < i + 1 → ¬ mkE evs[j] ⟨yk, yp, yc, yl, ys⟩ from fun _ h j hj hji => by
        by_cases e : j = i
        · subst e; exact h
        · exact HR.out j hj (by omega))
      have HE := hd (show mkE evs[i] ⟨yk, yp, yc, yl, ys⟩ → ∃ j, ∃ h : j < evs.length, mkE evs[j] ⟨yk, yp, yc, yl, ys⟩ from fun h => ⟨i, l1, h⟩)
      clear HR
      generalize evs[i] = x at *
      obtain ⟨x0, x1', x2', x3, ⟨ok, op, oc, oL, os⟩, xn⟩ := x
      simp only at q4 q5 q6 q7 q8
      by_cases hz : (⟨ok, op, oc, oL, os⟩ : OpE) = zo
      · obtain ⟨rfl, rfl, rfl, rfl, rfl⟩ := OpE.mk.inj hz
        go_wp2_with fail
        go_quiet (fail)
        go_wp2
        have Z := hd (HS.out True (fun h => h.1 rfl))
        have e3 : wrap64 ((i : Int) + 1) = ((i + 1 : Nat) : Int) := by have := HN.out; rw [wrap64]; omega
        first
          | exact ⟨⟨i + 1, _, by omega, rfl, rfl, Z⟩, by simp [intOf]; omega⟩
          | (rw [e3]; exact ⟨⟨i + 1, _, by omega, rfl, rfl, Z⟩, by simp [intOf]; omega⟩)
      · by_cases he : (⟨ok, op, oc, oL, os⟩ : OpE) = ⟨yk, yp, yc, yl, ys⟩
        · obtain ⟨rfl, rfl, rfl, rfl, rfl⟩ := OpE.mk.inj he
          have E1 := fun W => opNe hz W
          have E2 := fun W => opSame ok op oc oL os W
          have Z := hd (HE.out ⟨hz, rfl⟩)
          clear hz he HS HE
          go_wp2_with fail
          go_quiet (fail)
          clear E1 E2
          go_wp2
          go_ret
          exact ⟨true, rfl, ⟨fun _ => Z.out, fun _ => rfl⟩, below_drewN (below_drewN HB.out _) _⟩
        · have E1 := fun W => opNe hz W
          have E2 := fun W => opNe he W
          have Z := hd (HS.out True (fun h => he h.2))
          clear hz he HS HE
          go_wp2_with fail
          go_quiet (fail)
          clear E1 E2
          go_wp2
          have e3 : wrap64 ((i : Int) + 1) = ((i + 1 : Nat) : Int) := by have := HN.out; rw [wrap64]; omega
          first
            | exact ⟨⟨i + 1, _, by omega, rfl, rfl, Z⟩, by simp [intOf]; omega⟩
            | (rw [e3]; exact ⟨⟨i + 1, _, by omega, rfl, rfl, Z⟩, by simp [intOf]; omega⟩)
    · have i1 : ¬ (i : Int) < (nE : Int) := by omega
      have Z : Hid (∀ j (h : j < evs.length), ¬ mkE evs[j] ⟨yk, yp, yc, yl, ys⟩) := fun j hj => HR.out j hj (by have := H2.out.1; omega)
      clear HR
      go_wp2
      go_ret
      exact .inl ⟨rfl, Z.out, below_drewN HB.out _⟩

end Go.Proofs.YtfhghijefjhehaaGreatDoor

/-! Hh -/
namespace Go.Proofs.YtfhghijefjhehaaGreatDoor
open Go.RowKit
set_option linter.unusedVariables false

theorem pv_step (evs : List Ev) (n : Nat) (c : Int) (h : n < evs.length) : pv evs (n + 1) c = if evs[n].site = c then evs[n] else pv evs n c := by
  simp only [pv, List.getElem?_eq_getElem h]

/-- The place of the event before, as the loop counts it down. -/
def jv : Nat → Int
  | 0 => -1
  | n + 1 => n

def IsP (p : Ev) (v : Value) : Prop := ∃ (st si ok op oc ol os : Int) (a : Option Addr) (c : Nat), v = .agg #[.int .i64 st, .int .i64 si, .int .i64 p.hav, .int .i64 p.made, .int .i64 ok, .int .i64 op, .int .u8 oc, .int .i64 ol, .int .i64 os, .slice a p.len c]

set_option maxRecDepth 100000 in
set_option maxHeartbeats 4000000 in
theorem before_any (C : Int) (aL aE : Option Addr) (nL cL nE cE i : Nat) (evs : List Ev) (A : Nat → Option Addr) (K : Nat → Nat) (w : World) (hV : IsV w aE nE evs A K) (hi : i < nE) (hil : i < evs.length) (hn : nE ≤ 9223372036854775800) :
    Calls Tryz.prog 34 #[.agg #[.int .i64 C, .slice aL nL cL, .slice aE nE cE], .int .i64 i] w fun e w' => ∃ v j, e = .returned (.tuple #[v, .int .i64 j]) ∧ IsP (pv evs i evs[i].site) v ∧ Below w.heap.size w w' := by
  have g := box_hist w #[.int .i64 C, .slice aL nL cL, .slice aE nE cE] 25
  have g0 : ((w.alloc (.cells #[.int .i64 C, .slice aL nL cL, .slice aE nE cE] 25)).alloc (.cells #[.int .i64 0, .int .i64 0, .int .i64 0, .int .i64 0, .int .i64 0, .int .i64 0, .int .u8 0, .int .i64 0, .int .i64 0, .slice none 0 0] 76)).heap[w.heap.size]? = some (.cells #[.int .i64 C, .slice aL nL cL, .slice aE nE cE] 25 (0, 0)) := (heap_alloc_old _ _ (by simp)).trans g
  have g1 : ((w.alloc (.cells #[.int .i64 C, .slice aL nL cL, .slice aE nE cE] 25)).alloc (.cells #[.int .i64 0, .int .i64 0, .int .i64 0, .int .i64 0, .int .i64 0, .int .i64 0, .int .u8 0, .int .i64 0, .int .i64 0, .slice none 0 0] 76)).heap[w.heap.size + 1]? = some (.cells #[.int .i64 0, .int .i64 0, .int .i64 0, .int .i64 0, .int .i64 0, .int .i64 0, .int .u8 0, .int .i64 0, .int .i64 0, .slice none 0 0] 76 (0, 0)) := by
    have := heap_alloc_new (w.alloc (.cells #[.int .i64 C, .slice aL nL cL, .slice aE nE cE] 25)) (.cells #[.int .i64 0, .int .i64 0, .int .i64 0, .int .i64 0, .int .i64 0, .int .i64 0, .int .u8 0, .int .i64 0, .int .i64 0, .slice none 0 0] 76)
    rwa [World.size_alloc] at this
  have gb : Below w.heap.size w ((w.alloc (.cells #[.int .i64 C, .slice aL nL cL, .slice aE nE cE] 25)).alloc (.cells #[.int .i64 0, .int .i64 0, .int .i64 0, .int .i64 0, .int .i64 0, .int .i64 0, .int .u8 0, .int .i64 0, .int .i64 0, .slice none 0 0] 76)) := ((Below.refl _ _).alloc (Nat.le_refl _) _).alloc (by simp) _
  have H2 := hd (hV.below gb (Nat.le_refl _))
  have HG := hd g0
  have HC := hd g1
  have HB := hd gb
  clear hV g g0 g1 gb
  obtain ⟨b, off, rfl, s1, q⟩ := H2.out.2 (by omega)
  have Q := hd q
  clear q s1
  generalize hc : evs[i].site = c
  have QI := hd (hc ▸ (Q.out i hil).2.1)
  clear hc
  have HN := hd hn
  have HI := hd hi
  have i9 : (i : Int) < (nE : Int) := by omega
  have eI : wrap64 ((i : Int) - 1) = jv i := by
    rw [wrap64_id (by omega) (by omega)]
    cases i with
    | zero => rfl
    | succ n => simp only [jv]; omega
  go_enter Tryz.func34, Tryz.ntmps34
  go_upto_region 1 with fail
  generalize (w.alloc (.cells #[.int .i64 C, .slice aL nL cL, .slice (some ⟨b, off, none⟩) nE cE] 25)).alloc (.cells #[.int .i64 0, .int .i64 0, .int .i64 0, .int .i64 0, .int .i64 0, .int .i64 0, .int .u8 0, .int .i64 0, .int .i64 0, .slice none 0 0] 76) = w0 at *
  clear hn hi
  go_wp2_with fail
  have x2 := cell_row HG.out 2
  simp at x2
  go_loopw [6] (fun v wr => ∃ n m : Nat, n ≤ i ∧ v = .int .i64 (jv n) ∧ wr = w0.drewN m ∧ Hid (pv evs i c = pv evs n c)) (fun v _ => (intOf v + 1).toNat)
  case atStart => exact ⟨i, 0, Nat.le_refl _, by rw [← eI], rfl, rfl⟩
  case round =>
    obtain ⟨n, m, hi', rfl, rfl, HR⟩ := hrel
    clear eI
    have y1 := QI.out
    have r0 := cell_row HC.out 0; have r1 := cell_row HC.out 1; have r2 := cell_row HC.out 2; have r3 := cell_row HC.out 3; have r4 := cell_row HC.out 4
    have r5 := cell_row HC.out 5; have r6 := cell_row HC.out 6; have r7 := cell_row HC.out 7; have r8 := cell_row HC.out 8; have r9 := cell_row HC.out 9
    have t0 := frozen_row HC.out 0; have t1 := frozen_row HC.out 1; have t2 := frozen_row HC.out 2; have t3 := frozen_row HC.out 3; have t4 := frozen_row HC.out 4
    have t5 := frozen_row HC.out 5; have t6 := frozen_row HC.out 6; have t7 := frozen_row HC.out 7; have t8 := frozen_row HC.out 8; have t9 := frozen_row HC.out 9
    simp at r0 r1 r2 r3 r4 r5 r6 r7 r8 r9
    cases n with
    | zero =>
      simp only [jv]
      go_wp2
      refine bodyPost_ret (v := .tuple #[.agg #[.int .i64 0, .int .i64 c, .int .i64 0, .int .i64 0, .int .i64 0, .int .i64 0, .int .u8 0, .int .i64 0, .int .i64 0, .slice none 0 0], .int .i64 (-1)]) (by simp [results, Tryz.results34, go_sem, r0, r1, r2, r3, r4, r5, r6, r7, r8, r9]) rfl ?_
      refine ⟨_, _, rfl, ?_, ?_⟩
      · rw [HR.out]
        exact ⟨_, _, _, _, _, _, _, _, _, rfl⟩
      · have hb := below_drewN HB.out m
        iterate 10 refine Below.setCell ?_ (by simp) _
        exact hb
    | succ n =>
      simp only [jv]
      have l1 : n < evs.length := by omega
      obtain ⟨q0, q1, q2, q3, q4, q5, q6, q7, q8, q9⟩ := Q.out n l1
      have i1 : (n : Int) < (nE : Int) := by omega
      have HS := hd (pv_step evs n c l1)
      generalize evs[n] = x at *
      obtain ⟨x0, x1, x2', x3, ⟨ok, op, oc, oL, os⟩, xn⟩ := x
      simp only at q0 q1 q2 q3 q4 q5 q6 q7 q8 q9 HS
      by_cases hc : x1 = c
      · subst hc
        have Z : Hid (pv evs i x1 = ⟨x0, x1, x2', x3, ⟨ok, op, oc, oL, os⟩, xn⟩) := by rw [Hid, HR.out, HS.out, if_pos rfl]
        clear HR HS
        go_wp2_with fail
        go_quiet (fail)
        go_wp2
        refine bodyPost_ret (v := .tuple #[.agg #[.int .i64 x0, .int .i64 x1, .int .i64 x2', .int .i64 x3, .int .i64 ok, .int .i64 op, .int .u8 oc, .int .i64 oL, .int .i64 os, .slice (A n) xn (K n)], .int .i64 n]) (by simp [results, Tryz.results34, go_sem, r0, r1, r2, r3, r4, r5, r6, r7, r8, r9]) rfl ?_
        refine ⟨_, _, rfl, ?_, ?_⟩
        · rw [Z.out]
          exact ⟨_, _, _, _, _, _, _, _, _, rfl⟩
        · have hb := below_drewN HB.out (m + nq)
          iterate 10 refine Below.setCell ?_ (by simp) _
          exact hb
      · have hb : (x1 == c) = false := by simpa using hc
        have Z : Hid (pv evs i c = pv evs n c) := by rw [Hid, HR.out, HS.out, if_neg hc]
        have e3 : wrap64 ((n : Int) - 1) = jv n := by
          have := HN.out
          have := HI.out
          rw [wrap64_id (by omega) (by omega)]
          cases n with
          | zero => rfl
          | succ n => simp only [jv]; omega
        have E3 := hd e3
        clear HR HS e3
        go_wp2_with fail
        go_quiet (fail)
        go_wp2
        have hj : jv n + 1 = (n : Int) := by
          cases n with
          | zero => rfl
          | succ n => simp only [jv]; omega
        first
          | exact ⟨⟨n, _, by omega, by rw [E3.out]; rfl, rfl, Z⟩, by simp only [intOf, E3.out, hj]; omega⟩
          | (rw [E3.out]; exact ⟨⟨n, _, by omega, rfl, rfl, Z⟩, by simp only [intOf, hj]; omega⟩)

end Go.Proofs.YtfhghijefjhehaaGreatDoor

/-! Ia -/
namespace Go.Proofs.YtfhghijefjhehaaGreatDoor
open Go.RowKit
set_option linter.unusedVariables false

/-- A deed: the edit, the element. -/
structure Dd where
  e : Ed
  c : Int
  l : Int
  s : Int
def nic (n : Nat) : List Value := [.int .i64 (n : Int)]
def ddc (d : Dd) : List Value := [.int .i64 d.e.tag, .int .i64 d.e.o.kind, .int .i64 d.e.o.pos, .int .u8 d.e.o.ch, .int .i64 d.e.o.cl, .int .i64 d.e.o.sq, .int .u8 d.c, .int .i64 d.l, .int .i64 d.s]
theorem szN : Sz nic 1 := fun n => ⟨rfl, fun v hv => by simp [nic] at hv; subst hv; rfl⟩
theorem szD : Sz ddc 9 := fun d => ⟨rfl, fun v hv => by
  simp only [ddc, List.mem_cons, List.not_mem_nil, or_false] at hv
  rcases hv with rfl | rfl | rfl | rfl | rfl | rfl | rfl | rfl | rfl <;> rfl⟩

inductive Ls where
  | ns (l : List Nat)
  | ds (l : List Dd)
def Ls.len : Ls → Nat
  | .ns l => l.length
  | .ds l => l.length
def Ls.is (w : World) (β : Option Nat) (v : Value) : Ls → Prop
  | .ns l => SF nic 1 w 3 β v l
  | .ds l => SF ddc 9 w 143 β v l
theorem Ls.fr {w w' : World} {β : Option Nat} {v : Value} {S : Nat → Prop} {s : Ls} (h : s.is w β v) (hF : Fr S w w') (hS : ∀ g, β = some g → ¬ S g) : s.is w' β v := by
  cases s with
  | ns l => exact SF.fr h hF hS
  | ds l => exact SF.fr h hF hS
theorem Ls.form {w : World} {β : Option Nat} {v : Value} {s : Ls} (h : s.is w β v) : ∃ a c, v = .slice a s.len c ∧ s.len ≤ c ∧ c ≤ 9223372036854775807 := by
  cases s with
  | ns l => exact SF.form h
  | ds l => exact SF.form h
theorem Ls.lt {w : World} {β : Option Nat} {v : Value} {s : Ls} (h : s.is w β v) : ∀ g, β = some g → g < w.heap.size := by
  cases s with
  | ns l => exact SF.lt h
  | ds l => exact SF.lt h

def upd {α : Type} (S : Nat → α) (i : Nat) (s : α) : Nat → α := fun j => if j = i then s else S j
theorem upd_same {α : Type} (S : Nat → α) (i : Nat) (s : α) : upd S i s i = s := by simp [upd]
theorem upd_ne {α : Type} (S : Nat → α) {i j : Nat} (s : α) (h : j ≠ i) : upd S i s j = S j := by simp [upd, h]

/-- The tale at block x: its lists S, at the rows L. -/
structure TL (w : World) (x : Nat) (C : Int) (vL vE : Value) (S : Nat → Ls) (L : Nat → Option Nat) : Prop where
  blk : ∃ cur : Array Value, w.heap[x]? = some (.cells cur 117 (0, 0)) ∧ cur.size = 198 ∧ cur[0]? = some (.int .i64 C) ∧ cur[1]? = some vL ∧ cur[2]? = some vE ∧ ∀ i, i < 195 → ∃ v, cur[3 + i]? = some v ∧ (S i).is w (L i) v
  inj : ∀ i j g, i < 195 → j < 195 → L i = some g → L j = some g → i = j
  far : ∀ i g, i < 195 → L i = some g → x < g

section
variable {w w' : World} {x : Nat} {C : Int} {vL vE : Value} {S : Nat → Ls} {L : Nat → Option Nat}
theorem TL.lt (h : TL w x C vL vE S L) : x < w.heap.size := by
  obtain ⟨cur, hh, -⟩ := h.blk
  exact block_lt hh
theorem TL.old (h : TL w x C vL vE S L) {i g : Nat} (hi : i < 195) (hg : L i = some g) : g < w.heap.size := by
  obtain ⟨cur, -, -, -, -, -, hs⟩ := h.blk
  obtain ⟨v, -, hv⟩ := hs i hi
  exact Ls.lt hv g hg
theorem TL.fr {T : Nat → Prop} (h : TL w x C vL vE S L) (hF : Fr T w w') (hx : ¬ T x) (hT : ∀ i g, i < 195 → L i = some g → ¬ T g) : TL w' x C vL vE S L := by
  obtain ⟨cur, hh, h1, h2, h3, h4, hs⟩ := h.blk
  refine ⟨⟨cur, hF.keeps hh hx, h1, h2, h3, h4, fun i hi => ?_⟩, h.inj, h.far⟩
  obtain ⟨v, hv, hi'⟩ := hs i hi
  exact ⟨v, hv, Ls.fr hi' hF (fun g hg => hT i g hi hg)⟩
theorem TL.below (h : TL w x C vL vE S L) (hb : Below w.heap.size w w') : TL w' x C vL vE S L := h.fr (T := fun _ => False) (Fr.of_below hb) (fun h => h) (fun _ _ _ _ h => h)
theorem TL.heads (h : TL w x C vL vE S L) : w.cell? ⟨x, 0, none⟩ = some (.int .i64 C) ∧ w.cell? ⟨x, 1, none⟩ = some vL ∧ w.cell? ⟨x, 2, none⟩ = some vE := by
  obtain ⟨cur, hh, h1, h2, h3, h4, hs⟩ := h.blk
  exact ⟨(cell_row hh 0).trans h2, (cell_row hh 1).trans h3, (cell_row hh 2).trans h4⟩
theorem TL.slot (h : TL w x C vL vE S L) (i : Nat) (hi : i < 195) : ∃ v, w.cell? ⟨x, 3 + i, none⟩ = some v ∧ (S i).is w (L i) v := by
  obtain ⟨cur, hh, h1, h2, h3, h4, hs⟩ := h.blk
  obtain ⟨v, hv, hi'⟩ := hs i hi
  exact ⟨v, (cell_row hh _).trans hv, hi'⟩
theorem TL.frozen (h : TL w x C vL vE S L) (i : Nat) : w.frozen? ⟨x, i, none⟩ = false := by
  obtain ⟨cur, hh, -⟩ := h.blk
  exact frozen_row hh i

/-- One list gets longer: the append's row, then the slot. -/
theorem TL.put {w1 w2 : World} (h : TL w x C vL vE S L) (hb : Below w.heap.size w w1) {i g' : Nat} (hi : i < 195) {s' : Ls} {v' : Value} (hs : s'.is w2 (some g') v') (hN : (L i = some g' ∧ Fr (· = g') w1 w2) ∨ (g' = w1.heap.size ∧ Fr (fun _ => False) w1 w2)) :
    TL (w2.setCell ⟨x, 3 + i, none⟩ v') x C vL vE (upd S i s') (upd L i (some g')) ∧ Fr (fun k => k = x ∨ L i = some k) w (w2.setCell ⟨x, 3 + i, none⟩ v') ∧ (L i = some g' ∨ w.heap.size ≤ g') := by
  have h1 := h.below hb
  have hx1 : x < w1.heap.size := h1.lt
  have xg : x < g' := by
    rcases hN with ⟨a, -⟩ | ⟨a, -⟩
    · exact h1.far i g' hi a
    · omega
  have hF : Fr (fun k => L i = some k) w1 w2 := by
    rcases hN with ⟨a, b⟩ | ⟨a, b⟩
    · exact b.mono (fun k _ hk => by rw [hk]; exact a)
    · exact b.mono (fun k _ hk => hk.elim)
  have hFs : Fr (fun k => k = x) w2 (w2.setCell ⟨x, 3 + i, none⟩ v') := Fr.setCell _ _ _ rfl
  have nx : ∀ g, L i = some g → g ≠ x := fun g hg e => by have := h.far i g hi hg; omega
  have x1 : ¬ (L i = some x) := fun e => nx x e rfl
  obtain ⟨cur, hh, c1, c2, c3, c4, hsl⟩ := h1.blk
  have hh2 := hF.keeps hh x1
  have g'lt : g' < w2.heap.size := Ls.lt hs g' rfl
  refine ⟨⟨⟨cur.setIfInBounds (3 + i) v', set_row hh2 (3 + i) v', by simp [c1], ?_, ?_, ?_, ?_⟩, ?_, ?_⟩, ?_, ?_⟩
  · rw [Array.getElem?_setIfInBounds_ne (by omega)]; exact c2
  · rw [Array.getElem?_setIfInBounds_ne (by omega)]; exact c3
  · rw [Array.getElem?_setIfInBounds_ne (by omega)]; exact c4
  · intro j hj
    by_cases e : j = i
    · subst e
      refine ⟨v', by rw [Array.getElem?_setIfInBounds_self_of_lt (by omega)], ?_⟩
      rw [upd_same, upd_same]
      exact Ls.fr hs hFs (fun g hg => by injection hg with hg; subst hg; omega)
    · obtain ⟨v, hv, hj'⟩ := hsl j hj
      refine ⟨v, by rw [Array.getElem?_setIfInBounds_ne (by omega)]; exact hv, ?_⟩
      rw [upd_ne _ _ e, upd_ne _ _ e]
      refine Ls.fr (Ls.fr hj' hF (fun g hg hgi => e (h1.inj j i g hj hi hg hgi))) hFs (fun g hg => ?_)
      have := h1.far j g hj hg
      omega
  · intro j k g hj hk hg1 hg2
    by_cases e1 : j = i
    · by_cases e2 : k = i
      · omega
      · subst e1
        rw [upd_same] at hg1
        rw [upd_ne _ _ e2] at hg2
        injection hg1 with hg1
        subst hg1
        rcases hN with ⟨a, -⟩ | ⟨a, -⟩
        · exact h1.inj _ _ _ hj hk a hg2
        · have := h1.old hk hg2
          omega
    · by_cases e2 : k = i
      · subst e2
        rw [upd_same] at hg2
        rw [upd_ne _ _ e1] at hg1
        injection hg2 with hg2
        subst hg2
        rcases hN with ⟨a, -⟩ | ⟨a, -⟩
        · exact h1.inj _ _ _ hj hk hg1 a
        · have := h1.old hj hg1
          omega
      · rw [upd_ne _ _ e1] at hg1
        rw [upd_ne _ _ e2] at hg2
        exact h1.inj _ _ _ hj hk hg1 hg2
  · intro j g hj hg
    by_cases e : j = i
    · subst e
      rw [upd_same] at hg
      injection hg with hg
      omega
    · rw [upd_ne _ _ e] at hg
      exact h1.far j g hj hg
  · have f1 : Fr (fun k => k = x ∨ L i = some k) w w1 := Fr.of_below hb
    exact (f1.trans (hF.mono (fun k _ hk => .inr hk))).trans (hFs.mono (fun k _ hk => .inl hk))
  · rcases hN with ⟨a, -⟩ | ⟨a, -⟩
    · exact .inl a
    · exact .inr (by rw [a]; exact hb.size)
end

end Go.Proofs.YtfhghijefjhehaaGreatDoor

/-! Ig -/
namespace Go.Proofs.YtfhghijefjhehaaGreatDoor
open Go.RowKit
set_option linter.unusedVariables false

section
variable {P : Program} {md : Region.Mode} {ops : Array Oper} {Q : Exit → Act → World → Prop}

theorem count_set {l : List Bool} : ∀ {i : Nat}, l[i]? = some false → (l.set i true).count false + 1 = l.count false := by
  induction l with
  | nil => intro i h; simp at h
  | cons b l ih =>
    intro i h
    cases i with
    | zero =>
      simp at h
      subst h
      simp
    | succ i =>
      have := ih (i := i) (by simpa using h)
      simp only [List.set_cons_succ, List.count_cons]
      omega

theorem getD_false {a : Array Bool} {i : Nat} (h : a.getD i true = false) : a.toList[i]? = some false ∧ i < a.size := by
  by_cases hi : i < a.size
  · refine ⟨?_, hi⟩
    simp [Array.getD, hi] at h
    simp [hi, h]
  · simp [Array.getD, hi] at h

/-- Whatever the order: an assertion on what has come up so far, kept by each operation. -/
theorem wpAny_inv (I : Array Bool → Act → World → Prop)
    (hs : ∀ listed a w (i : Nat) (o : Oper), I listed a w → ops[i]? = some o → listed.getD i true = false → (∀ e ∈ o.after, Region.binds md e = true → listed.getD e.on false = true) → wpOp P ops Q i (I (listed.setIfInBounds i true)) a w)
    (he : ∀ listed a w, I listed a w → (∀ (i : Nat) (o : Oper), ops[i]? = some o → listed.getD i true = false → ¬ (∀ e ∈ o.after, Region.binds md e = true → listed.getD e.on false = true)) → Q .normal a w) :
    ∀ fuel listed a w, listed.toList.count false ≤ fuel → I listed a w → wpAny P md ops Q fuel listed a w := by
  have hend : ∀ listed a w, I listed a w → Region.ready md ops listed = [] → Q .normal a w := fun listed a w hI hr => he listed a w hI fun i o ho hu hall => by
    have : i ∈ Region.ready md ops listed := mem_ready.2 ⟨hu, o, ho, hall⟩
    rw [hr] at this
    cases this
  intro fuel
  induction fuel with
  | zero =>
    intro listed a w hc hI
    have hr : Region.ready md ops listed = [] := by
      cases h : Region.ready md ops listed with
      | nil => rfl
      | cons i l =>
        have hi : i ∈ Region.ready md ops listed := by rw [h]; simp
        have h1 := (getD_false (mem_ready.1 hi).1).1
        have h2 := count_set h1
        omega
    exact ⟨hr, hend _ _ _ hI hr⟩
  | succ fuel ih =>
    intro listed a w hc hI
    refine ⟨hend _ _ _ hI, fun i hi => ?_⟩
    obtain ⟨hu, o, ho, hall⟩ := mem_ready.1 hi
    refine wpOp_mono (fun a' w' h' => ih _ a' w' ?_ h') (hs listed a w i o hI ho hu hall)
    have h1 := count_set (getD_false hu).1
    rw [Array.toList_setIfInBounds]
    omega

/-- The region's operations in their order: each waits for earlier ones alone. -/
def Earlier (ops : Array Oper) : Prop := ∀ (i : Nat) (o : Oper), ops[i]? = some o → ∀ e ∈ o.after, Region.binds .any e = true → e.on < i

theorem all_listed (hT : Earlier ops) {listed : Array Bool} (hz : listed.size = ops.size)
    (h : ∀ (i : Nat) (o : Oper), ops[i]? = some o → listed.getD i true = false → ¬ (∀ e ∈ o.after, Region.binds .any e = true → listed.getD e.on false = true)) :
    ∀ i, i < ops.size → listed.getD i false = true := by
  intro i
  induction i using Nat.strongRecOn with
  | _ i ih =>
    intro hi
    have hl : i < listed.size := by omega
    cases hb : listed[i] with
    | true => simp [Array.getD, hl, hb]
    | false =>
      exfalso
      refine h i ops[i] (by simp [hi]) (by simp [Array.getD, hl, hb]) fun e he hb => ?_
      have h1 := hT i ops[i] (by simp [hi]) e he hb
      exact ih e.on h1 (by omega)

theorem wp_region_inv {id : Nat} {a : Act} {w : World} (hm : P.follows .mixedOrders = true) (hT : Earlier ops) (I : (Nat → Prop) → Act → World → Prop)
    (hs : ∀ (L L' : Nat → Prop) a w (i : Nat) (o : Oper), I L a w → ops[i]? = some o → ¬ L i → (∀ e ∈ o.after, Region.binds .any e = true → L e.on) → (∀ j, L' j ↔ (j = i ∨ L j)) → wpOp P ops Q i (I L') a w)
    (he : ∀ (L : Nat → Prop) a w, I L a w → (∀ i, i < ops.size → L i) → Q .normal a w)
    (h0 : ∀ L : Nat → Prop, (∀ i, ¬ L i) → I L a w.drew) : (Code.region id ops true).wp P Q a w := by
  refine wp_region_any hm (wpAny_inv (fun listed a w => listed.size = ops.size ∧ I (fun i => listed.getD i false = true) a w) ?_ ?_ ops.size _ a _ ?_ ⟨by simp, h0 _ ?_⟩)
  · rintro listed a w i o ⟨hz, hI⟩ ho hu hall
    have hi := (getD_false hu).2
    refine wpOp_mono (fun a' w' h' => ⟨by simpa using hz, h'⟩) (hs _ _ a w i o hI ho ?_ hall ?_)
    · simp [Array.getD, hi] at hu ⊢
      exact hu
    · intro j
      by_cases hj : j = i
      · subst hj
        simp [Array.getD, hi]
      · simp only [hj, false_or]
        have : (listed.setIfInBounds i true).getD j false = listed.getD j false := by
          rw [Array.getD_eq_getD_getElem?, Array.getD_eq_getD_getElem?, Array.getElem?_setIfInBounds_ne (Ne.symm hj)]
        rw [this]
  · rintro listed a w ⟨hz, hI⟩ h
    exact he _ a w hI (all_listed hT hz h)
  · simp
  · intro i
    by_cases hi : i < ops.size <;> simp [Array.getD, hi]
end

/-! ### The frame -/
theorem ev_ne (a : Act) {d t : Nat} (v : Value) (h : t ≠ d) : (a.put (some d) v).eval (.tmp t) = a.eval (.tmp t) :=
  Act.eval_put (fun d' hd' => by injection hd' with e; subst e; intro he; injection he with he; exact h he)
theorem ev_eq (a : Act) {d : Nat} (v : Value) (h : d < a.tmps.size) : (a.put (some d) v).eval (.tmp d) = v := by simp [Act.eval, Act.put, h]

/-- All but the slots of D is as it was. -/
structure Fe (a a' : Act) (D : List Nat) : Prop where
  df : a'.defers = a.defers
  sz : a'.tmps.size = a.tmps.size
  eq : ∀ j, j ∉ D → a'.tmps[j]? = a.tmps[j]?
theorem Fe.refl (a : Act) (D : List Nat) : Fe a a D := ⟨rfl, rfl, fun _ _ => rfl⟩
theorem Fe.put {a a' : Act} {D : List Nat} (h : Fe a a' D) {d : Nat} (hd : d ∈ D) (v : Value) : Fe a (a'.put (some d) v) D :=
  ⟨h.df, by simp [Act.put, h.sz], fun j hj => by
    have hn : d ≠ j := fun e => hj (e ▸ hd)
    simp only [Act.put]
    rw [Array.getElem?_setIfInBounds_ne hn]
    exact h.eq j hj⟩
theorem Fe.ev {a a' : Act} {D : List Nat} (h : Fe a a' D) {j : Nat} (hj : j ∉ D) : a'.eval (.tmp j) = a.eval (.tmp j) := by
  simp only [Act.eval, Array.getD_eq_getD_getElem?, h.eq j hj]

def puts (a : Act) (l : List (Nat × Value)) : Act := l.foldl (fun a p => a.put (some p.1) p.2) a
theorem Fe.puts : ∀ (l : List (Nat × Value)) (a a' : Act), Fe a a' (l.map (·.1)) → (∀ p ∈ l, p.1 < a.tmps.size ∧ a'.eval (.tmp p.1) = p.2) → a' = puts a l
  | [], a, a', h, _ => by
    obtain ⟨t', d'⟩ := a'
    obtain ⟨t, d⟩ := a
    have h1 : d' = d := h.df
    have h2 : t' = t := Array.ext_getElem? (fun i => h.eq i (by simp))
    subst h1 h2
    rfl
  | p :: l, a, a', h, hp => by
    refine Fe.puts l (a.put (some p.1) p.2) a' ⟨h.df, by simp [Act.put, h.sz], fun j hj => ?_⟩ (fun x hx => ⟨by simpa [Act.put] using (hp x (by simp [hx])).1, (hp x (by simp [hx])).2⟩)
    by_cases e : j = p.1
    · subst e
      obtain ⟨h1, h2⟩ := hp p (by simp)
      have h3 : p.1 < a'.tmps.size := by rw [h.sz]; exact h1
      simp [Act.eval, h3] at h2
      simp [Act.put, h1, h3, h2]
    · simp only [Act.put]
      rw [Array.getElem?_setIfInBounds_ne (Ne.symm e)]
      exact h.eq j (by simp [e, hj])

def opsAt (n : Nat) : Code → Option (Array Oper)
  | .region k ops _ => if k = n then some ops else none
  | .seq a b => (opsAt n a).orElse fun _ => opsAt n b
  | .block _ c => opsAt n c
  | .scope c => opsAt n c
  | .cond _ a b => (opsAt n a).orElse fun _ => opsAt n b
  | .loop c => opsAt n c
  | _ => none
section
variable {P : Program} {ops : Array Oper} {o : Oper} {a : Act} {w : World} {K : Act → World → Prop} {Q : Exit → Act → World → Prop} {i : Nat}

theorem fields {d : Option Tmp} {p : Op} (ho : ops[i]? = some o) (h : (ops[i]?).map (fun o => (o.dst, o.op, o.guard)) = some (d, p, none)) : o.dst = d ∧ o.op = p ∧ o.guard = none := by
  rw [ho] at h
  simpa using h
theorem dep {L : Nat → Prop} (ho : ops[i]? = some o) (hall : ∀ e ∈ o.after, Region.binds .any e = true → L e.on) (k : Nat) (h : (ops[i]?).map (fun o => o.after.any (fun e => Region.binds .any e && e.on == k)) = some true) : L k := by
  rw [ho] at h
  simp only [Option.map_some, Option.some.injEq, Array.any_eq_true'] at h
  obtain ⟨e, he, hb⟩ := h
  simp only [Bool.and_eq_true, beq_iff_eq] at hb
  exact hb.2 ▸ hall e he hb.1

theorem op_plain (ho : ops[i]? = some o) (hg : o.guard = none) (h : Oper.wp P o a w K Q) : wpOp P ops Q i K a w := by
  refine wpOp_step ho fun K' hK => ?_
  have hw : Region.wanted o (yielded ops a.tmps) = true := by simp [Region.wanted, hg]
  rw [if_pos hw]
  exact Oper.wp_mono hK h

theorem op_call (ho : ops[i]? = some o) (f : FuncId) (x : Operand) (t : TypeId) {d : Option Tmp} (h : (ops[i]?).map (fun o => (o.dst, o.op, o.guard)) = some (d, Op.call { callee := .value (.func f), args := #[x], argTypes := #[t] }, none)) {fn : Func} {c : Code} (hf : P.funcs[f]? = some fn) (hb : fn.body = some c) (hnm : (fn.name == "runtime.NumGoroutine") = false) {R : Ending → World → Prop} (hC : Calls P f #[a.eval x] w R) (hK : ∀ e w', R e w' → ∃ v, e = .returned v ∧ K (a.put d v) w') : wpOp P ops Q i K a w := by
  obtain ⟨h1, h2, h3⟩ := fields ho h
  refine op_plain ho h3 ?_
  unfold Oper.wp
  have e1 : (execOp a.eval o).run P w = .ok (.enter f #[a.eval x]) w := by
    simp [execOp, h2, resolve, invoke, Deferred.ofValue, show a.eval (.func f) = .func (.func f) #[] #[] from rfl, callFunc, hf, hb]
    simpa using hnm
  rw [e1]
  show Calls P f #[a.eval x] w _
  refine hC.mono fun e w' h => ?_
  obtain ⟨v, rfl, hk⟩ := hK e w' h
  rw [h1]
  exact hk
end




section
variable {ops : Array Oper} {o : Oper} {a : Act} {w : World} {K : Act → World → Prop} {Q : Exit → Act → World → Prop} {i : Nat}

def gOk (ops : Array Oper) (a : Act) : Option (Nat × Bool) → Prop
  | none => True
  | some (k, b) => ∃ d, (ops[k]?).bind (·.dst) = some d ∧ a.eval (.tmp d) = .bool b
theorem wanted_of {g : Option (Nat × Bool)} (hg : o.guard = g) (h : gOk ops a g) : Region.wanted o (yielded ops a.tmps) = true := by
  subst hg
  unfold Region.wanted
  cases hgd : o.guard with
  | none => rfl
  | some p =>
    obtain ⟨k, b⟩ := p
    rw [hgd] at h
    obtain ⟨d, hd', he⟩ := h
    simp only [yielded, hd', Option.bind_some]
    have : a.tmps[d]? = some (.bool b) := by
      simp only [Act.eval, Array.getD_eq_getD_getElem?] at he
      cases ht : a.tmps[d]? with
      | none => rw [ht] at he; simp [undef] at he
      | some v => rw [ht] at he; simp at he; rw [he]
    rw [this]
    simp
theorem flds {d : Option Tmp} {p : Op} {g : Option (Nat × Bool)} (ho : ops[i]? = some o) (h : (ops[i]?).map (fun o => (o.dst, o.op, o.guard)) = some (d, p, g)) : o.dst = d ∧ o.op = p ∧ o.guard = g := by
  rw [ho] at h
  simpa using h
theorem og_plain {g : Option (Nat × Bool)} (ho : ops[i]? = some o) (hg : o.guard = g) (hw : gOk ops a g) (h : Oper.wp Tryz.prog o a w K Q) : wpOp Tryz.prog ops Q i K a w := by
  refine wpOp_step ho fun K' hK => ?_
  rw [if_pos (wanted_of hg hw)]
  exact Oper.wp_mono hK h

theorem og_move {g : Option (Nat × Bool)} (ho : ops[i]? = some o) (x : Operand) {d : Option Tmp} (h : (ops[i]?).map (fun o => (o.dst, o.op, o.guard)) = some (d, Op.move x, g)) (hw : gOk ops a g) {v : Value} (hx : a.eval x = v) (hK : K (a.put d v) w) : wpOp Tryz.prog ops Q i K a w := by
  obtain ⟨h1, h2, h3⟩ := flds ho h
  refine og_plain ho h3 hw ?_
  unfold Oper.wp
  simp [execOp, h2, Oper.upon]
  rw [h1, hx]
  exact hK
theorem og_nil {g : Option (Nat × Bool)} (ho : ops[i]? = some o) (x : Operand) {d : Option Tmp} (h : (ops[i]?).map (fun o => (o.dst, o.op, o.guard)) = some (d, Op.nilCheck x, g)) (hw : gOk ops a g) {p : Addr} (hx : a.eval x = .pointer (some p)) (hK : K (a.put d (.pointer (some p))) w) : wpOp Tryz.prog ops Q i K a w := by
  obtain ⟨h1, h2, h3⟩ := flds ho h
  refine og_plain ho h3 hw ?_
  unfold Oper.wp
  simp only [execOp, h2, hx]
  go_simp
  exact hK
theorem og_app {g : Option (Nat × Bool)} (ho : ops[i]? = some o) (x y : Operand) (t : TypeId) {d : Option Tmp} (h : (ops[i]?).map (fun o => (o.dst, o.op, o.guard)) = some (d, Op.call { callee := .builtin .append, args := #[x, y], argTypes := #[t, t] }, g)) (hw : gOk ops a g) {v u v' : Value} {w' : World} (hx : a.eval x = v) (hy : a.eval y = u) (hr : ∀ ty, (Builtin.append_ #[t, t] ty #[v, u]).run Tryz.prog w = .ok v' w') (hK : K (a.put d v') w') : wpOp Tryz.prog ops Q i K a w := by
  obtain ⟨h1, h2, h3⟩ := flds ho h
  refine og_plain ho h3 hw ?_
  unfold Oper.wp
  simp [execOp, h2, resolve, invoke, builtin, hx, hy, hr, Result.andThen]
  show K (a.put o.dst v') w'
  rw [h1]
  exact hK
end

/-- Does operation k wait for operation j, over others too? -/
def anc (ops : Array Oper) : Nat → Nat → Nat → Bool
  | 0, k, j => k == j
  | f + 1, k, j => k == j || (match ops[k]? with
    | some o => o.after.any (fun e => Region.binds .any e && anc ops f e.on j)
    | none => false)
def Dc (ops : Array Oper) (L : Nat → Prop) : Prop := ∀ (j : Nat) (o : Oper), ops[j]? = some o → L j → ∀ e ∈ o.after, Region.binds .any e = true → L e.on
theorem anc_spec {ops : Array Oper} {L : Nat → Prop} (h : Dc ops L) : ∀ f k j, anc ops f k j = true → L k → L j
  | 0, k, j, ha, hk => by
    simp only [anc, beq_iff_eq] at ha
    exact ha ▸ hk
  | f + 1, k, j, ha, hk => by
    simp only [anc, Bool.or_eq_true, beq_iff_eq] at ha
    rcases ha with rfl | ha
    · exact hk
    · cases ho : ops[k]? with
      | none => rw [ho] at ha; cases ha
      | some o =>
        rw [ho] at ha
        simp only [Array.any_eq_true', Bool.and_eq_true] at ha
        obtain ⟨e, he, hb, hr⟩ := ha
        exact anc_spec h f e.on j hr (h k o ho hk e he hb)
theorem Dc.next {ops : Array Oper} {L L' : Nat → Prop} {i : Nat} {o : Oper} (h : Dc ops L) (ho : ops[i]? = some o) (hall : ∀ e ∈ o.after, Region.binds .any e = true → L e.on) (hu : ∀ j, L' j ↔ (j = i ∨ L j)) : Dc ops L' := by
  intro j oj hj hl e he hb
  rcases (hu j).1 hl with rfl | hl
  · rw [ho] at hj
    injection hj with hj
    subst hj
    exact (hu _).2 (.inr (hall e he hb))
  · exact (hu _).2 (.inr (h j oj hj hl e he hb))

/-- What has come up: quiet operations have put V j into their slots; kb builds a list of one, kp appends it, N stores. -/
structure JP (ops : Array Oper) (σ : Nat → Nat) (N kb kp : Nat) (V : Nat → Value) (a0 : Act) (w : World) (NB : Nat → World → Prop) (P : Value → World → Prop) (x off : Nat) (L : Nat → Prop) (a : Act) (u : World) : Prop where
  fe : Fe a0 a ((List.range N).map σ)
  e : ∀ j, j < N → j ≠ kb → j ≠ kp → L j → a.eval (.tmp (σ j)) = V j
  dc : Dc ops L
  n : ¬ L kp → Below w.heap.size w u
  b : L kb → ¬ L kp → ∃ g, a.eval (.tmp (σ kb)) = .slice (some ⟨g, 0, none⟩) 1 1 ∧ NB g u
  p : L kp → ¬ L N → P (a.eval (.tmp (σ kp))) u
  s : L N → ∃ v' u1, P v' u1 ∧ u = u1.setCell ⟨x, off, none⟩ v'

section
variable {ops : Array Oper} {σ : Nat → Nat} {N kb kp : Nat} {V : Nat → Value} {a0 : Act} {w : World} {NB : Nat → World → Prop} {P : Value → World → Prop} {x off : Nat} {L L' : Nat → Prop} {a : Act} {u : World} {i : Nat} {o : Oper}
theorem JP.next (h : JP ops σ N kb kp V a0 w NB P x off L a u) (ho : ops[i]? = some o) (hall : ∀ e ∈ o.after, Region.binds .any e = true → L e.on) (hi : i < N) (ib : i ≠ kb) (ip : i ≠ kp) (hb : kb < N) (hp : kp < N) (hinj : ∀ i j, i < N → j < N → σ i = σ j → i = j) (hz : ∀ j, j < N → σ j < a0.tmps.size) (hu : ∀ j, L' j ↔ (j = i ∨ L j)) :
    JP ops σ N kb kp V a0 w NB P x off L' (a.put (some (σ i)) (V i)) u := by
  have lp : L' kp ↔ L kp := by rw [hu]; exact ⟨fun h => h.resolve_left (Ne.symm ip), .inr⟩
  have lb : L' kb ↔ L kb := by rw [hu]; exact ⟨fun h => h.resolve_left (Ne.symm ib), .inr⟩
  have lN : L' N ↔ L N := by rw [hu]; exact ⟨fun h => h.resolve_left (by omega), .inr⟩
  have k1 : (a.put (some (σ i)) (V i)).eval (.tmp (σ kb)) = a.eval (.tmp (σ kb)) := ev_ne _ _ (fun he => ib (hinj _ _ hb hi he).symm)
  have k2 : (a.put (some (σ i)) (V i)).eval (.tmp (σ kp)) = a.eval (.tmp (σ kp)) := ev_ne _ _ (fun he => ip (hinj _ _ hp hi he).symm)
  refine ⟨h.fe.put (List.mem_map.2 ⟨i, List.mem_range.2 hi, rfl⟩) _, fun j hj j1 j2 hl => ?_, h.dc.next ho hall hu, ?_, ?_, ?_, ?_⟩
  · by_cases e : j = i
    · subst e
      exact ev_eq _ _ (by rw [h.fe.sz]; exact hz j hj)
    · exact (ev_ne _ _ (fun he => e (hinj j i hj hi he))).trans (h.e j hj j1 j2 (((hu j).1 hl).resolve_left e))
  · rw [lp]; exact h.n
  · rw [lb, lp, k1]; exact h.b
  · rw [lp, lN, k2]; exact h.p
  · rw [lN]; exact h.s
theorem JP.build (h : JP ops σ N kb kp V a0 w NB P x off L a u) (ho : ops[kb]? = some o) (hall : ∀ e ∈ o.after, Region.binds .any e = true → L e.on) (hno : ¬ L kb) (hb : kb < N) (hp : kp < N) (hbp : kb ≠ kp) (hinj : ∀ i j, i < N → j < N → σ i = σ j → i = j) (hz : ∀ j, j < N → σ j < a0.tmps.size) (hu : ∀ j, L' j ↔ (j = kb ∨ L j))
    (a1 : anc ops 40 kp kb = true) (a2 : anc ops 40 N kp = true) (ob : Obj) (hN : Below w.heap.size w u → NB u.heap.size (u.alloc ob)) :
    JP ops σ N kb kp V a0 w NB P x off L' (a.put (some (σ kb)) (.slice (some ⟨u.heap.size, 0, none⟩) 1 1)) (u.alloc ob) := by
  have np : ¬ L kp := fun hl => hno (anc_spec h.dc _ _ _ a1 hl)
  have nN : ¬ L N := fun hl => np (anc_spec h.dc _ _ _ a2 hl)
  have lp : L' kp ↔ L kp := by rw [hu]; exact ⟨fun h => h.resolve_left (Ne.symm hbp), .inr⟩
  have lN : L' N ↔ L N := by rw [hu]; exact ⟨fun h => h.resolve_left (by omega), .inr⟩
  have hB := h.n np
  refine ⟨h.fe.put (List.mem_map.2 ⟨kb, List.mem_range.2 hb, rfl⟩) _, fun j hj j1 j2 hl => ?_, h.dc.next ho hall hu, fun _ => hB.alloc hB.size _, fun _ _ => ⟨_, ev_eq _ _ (by rw [h.fe.sz]; exact hz kb hb), hN hB⟩, fun hl => absurd (lp.1 hl) np, fun hl => absurd (lN.1 hl) nN⟩
  exact (ev_ne _ _ (fun he => j1 (hinj j kb hj hb he))).trans (h.e j hj j1 j2 (((hu j).1 hl).resolve_left j1))
theorem JP.app (h : JP ops σ N kb kp V a0 w NB P x off L a u) (ho : ops[kp]? = some o) (hall : ∀ e ∈ o.after, Region.binds .any e = true → L e.on) (hno : ¬ L kp) (hb : kb < N) (hp : kp < N) (hbp : kb ≠ kp) (hinj : ∀ i j, i < N → j < N → σ i = σ j → i = j) (hz : ∀ j, j < N → σ j < a0.tmps.size) (hu : ∀ j, L' j ↔ (j = kp ∨ L j))
    (a2 : anc ops 40 N kp = true) {v' : Value} {u' : World} (hP : P v' u') :
    JP ops σ N kb kp V a0 w NB P x off L' (a.put (some (σ kp)) v') u' := by
  have nN : ¬ L N := fun hl => hno (anc_spec h.dc _ _ _ a2 hl)
  have lp : L' kp := (hu kp).2 (.inl rfl)
  have lN : L' N ↔ L N := by rw [hu]; exact ⟨fun h => h.resolve_left (by omega), .inr⟩
  refine ⟨h.fe.put (List.mem_map.2 ⟨kp, List.mem_range.2 hp, rfl⟩) _, fun j hj j1 j2 hl => ?_, h.dc.next ho hall hu, fun hn => absurd lp hn, fun _ hn => absurd lp hn, fun _ _ => ?_, fun hl => absurd (lN.1 hl) nN⟩
  · exact (ev_ne _ _ (fun he => j2 (hinj j kp hj hp he))).trans (h.e j hj j1 j2 (((hu j).1 hl).resolve_left j2))
  · rw [ev_eq _ _ (by rw [h.fe.sz]; exact hz kp hp)]
    exact hP
theorem JP.store (h : JP ops σ N kb kp V a0 w NB P x off L a u) (ho : ops[N]? = some o) (hall : ∀ e ∈ o.after, Region.binds .any e = true → L e.on) (hno : ¬ L N) (hb : kb < N) (hp : kp < N) (hu : ∀ j, L' j ↔ (j = N ∨ L j)) (lp : L kp) :
    JP ops σ N kb kp V a0 w NB P x off L' a (u.setCell ⟨x, off, none⟩ (a.eval (.tmp (σ kp)))) := by
  have lN : L' N := (hu N).2 (.inl rfl)
  have lp' : L' kp := (hu kp).2 (.inr lp)
  refine ⟨h.fe, fun j hj j1 j2 hl => h.e j hj j1 j2 (((hu j).1 hl).resolve_left (by omega)), h.dc.next ho hall hu, fun hn => absurd lp' hn, fun _ hn => absurd lp' hn, fun _ hn => absurd lN hn, fun _ => ⟨_, _, h.p lp hno, rfl⟩⟩

/-- Cells that the operations read: they stay until the store. -/
theorem JP.g {G : World → Prop} (h : JP ops σ N kb kp V a0 w NB P x off L a u) (h0 : ∀ u, Below w.heap.size w u → G u) (hP : ∀ v u, P v u → G u) (hno : ¬ L N) : G u := by
  by_cases hp : L kp
  · exact hP _ _ (h.p hp hno)
  · exact h0 _ (h.n hp)

/-- The end. -/
theorem JP.done (h : JP ops σ N kb kp V a0 w NB P x off L a u) (hz : ∀ j, j < N → σ j < a0.tmps.size) (hN : L N) : ∃ (V' : Nat → Value) (v' : Value) (u1 : World), P v' u1 ∧ a = puts a0 ((List.range N).map fun j => (σ j, V' j)) ∧ u = u1.setCell ⟨x, off, none⟩ v' := by
  obtain ⟨v', u1, hp, e⟩ := h.s hN
  refine ⟨fun j => a.eval (.tmp (σ j)), v', u1, hp, ?_, e⟩
  refine Fe.puts _ a0 a (by rw [List.map_map]; exact h.fe) (fun p hp => ?_)
  obtain ⟨j, hj, rfl⟩ := List.mem_map.1 hp
  exact ⟨hz j (List.mem_range.1 hj), rfl⟩
theorem JP.start (hdr : Below w.heap.size w w.drew) (hL : ∀ i, ¬ L i) : JP ops σ N kb kp V a0 w NB P x off L a0 w.drew :=
  ⟨Fe.refl _ _, fun j _ _ _ h => absurd h (hL _), fun j o _ hl => absurd hl (hL _), fun _ => hdr, fun h => absurd h (hL _), fun h => absurd h (hL _), fun h => absurd h (hL _)⟩
end

end Go.Proofs.YtfhghijefjhehaaGreatDoor
