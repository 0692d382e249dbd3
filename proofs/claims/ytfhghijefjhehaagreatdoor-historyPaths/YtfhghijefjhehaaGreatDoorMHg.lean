/-
  Texts put together: Hg Hh Ia Ib.
-/
import Derived.Test.YtfhghijefjhehaaGreatDoorMHga
import Derived.Test.YtfhghijefjhehaaGreatDoorMHza
/-! Hg -/
namespace Go.Proofs.YtfhghijefjhehaaGreatDoor
open Go.RowKit
set_option linter.unusedVariables false

theorem below_drewN {B : Nat} {w w' : World} (h : Below B w w') (m : Nat) : Below B w (w'.drewN m) := ⟨h.os, h.tape, h.output, h.size, h.block⟩

/-- Does an event make this operation? -/
def mkE (e : Ev) (o : OpE) : Prop := e.o ≠ zo ∧ e.o = o

set_option maxRecDepth 100000 in
set_option maxHeartbeats 4000000 in
theorem rmakes_any (C : Int) (aL aE : Option Addr) (nL cL nE cE k : Nat) (log : List Ed) (evs : List Ev) (A : Nat → Option Addr) (K : Nat → Nat) (w : World) (hL : IsL w aL nL log) (hV : IsV w aE nE evs A K) (hk : k < nL) (hkl : k < log.length) (hn : nE ≤ 9223372036854775800) (hm : nL ≤ 4096) :
    Calls Tryz.prog 54 #[.agg #[.int .i64 C, .slice aL nL cL, .slice aE nE cE], .int .i64 k] w fun e w' => ∃ r : Bool, e = .returned (.bool r) ∧ (r = true ↔ ∃ j, ∃ h : j < evs.length, mkE evs[j] log[k].o) ∧ Below w.heap.size w w' := by
  have g := box_hist w #[.int .i64 C, .slice aL nL cL, .slice aE nE cE] 25
  have gb : Below w.heap.size w (w.alloc (.cells #[.int .i64 C, .slice aL nL cL, .slice aE nE cE] 25)) := (Below.refl _ _).alloc (Nat.le_refl _) _
  have H1 := hd (hL.below gb (Nat.le_refl _))
  have H2 := hd (hV.below gb (Nat.le_refl _))
  have HG := hd g
  have HB := hd gb
  clear hL hV g gb
  obtain ⟨bl, fl, rfl, sl, ql⟩ := H1.out.2 (by omega)
  have QL := hd (ql k hkl)
  clear ql sl
  generalize log[k] = y at *
  obtain ⟨yt, yk, yp, yc, yl, ys⟩ := y
  simp only at QL
  go_enter Tryz.func54, Tryz.ntmps54
  go_upto_region 1 with fail
  generalize w.alloc (.cells #[.int .i64 C, .slice (some ⟨bl, fl, none⟩) nL cL, .slice aE nE cE] 25) = w0 at *
  go_wp2_with fail
  have i0 : (k : Int) < (nL : Int) := by omega
  have HN := hd hn
  have HM := hd hm
  clear hn hm
  go_loopw [5] (fun b wr => ∃ i m : Nat, i ≤ nE ∧ b = .int .i64 i ∧ wr = w0.drewN m ∧ Hid (∀ j (h : j < evs.length), j < i → ¬ mkE evs[j] ⟨yk, yp, yc, yl, ys⟩)) (fun b _ => nE - (intOf b).toNat)
  case atStart => exact ⟨0, 0, Nat.zero_le _, rfl, rfl, fun j _ h => by omega⟩
  case round =>
    obtain ⟨i, m, hi, rfl, rfl, HR⟩ := hrel
    have x1 := cell_row HG.out 1
    have x2 := cell_row HG.out 2
    simp at x1 x2
    by_cases hlt : i < nE
    · have l1 : i < evs.length := by have := H2.out.1; omega
      obtain ⟨b, off, rfl, s1, q⟩ := H2.out.2 (by omega)
      obtain ⟨q0, q1, q2, q3, q4, q5, q6, q7, q8, q9⟩ := q i l1
      clear q q0 q1 q2 q3 q9 s1
      obtain ⟨y0, y1, y2, y3, y4, y5⟩ := QL.out
      clear y0
      have i1 : (i : Int) < (nE : Int) := by omega
      have HS := hd (show ∀ P : Prop, (¬ mkE evs[i] ⟨yk, yp, yc, yl, ys⟩) → ∀ j (h : j < evs.length), j < i + 1 → ¬ mkE evs[j] ⟨yk, yp, yc, yl, ys⟩ from fun _ h j hj hji => by
        by_cases e : j = i
        · subst e; exact h
        · exact HR.out j hj (by omega))
      have HE := hd (show mkE evs[i] ⟨yk, yp, yc, yl, ys⟩ → ∃ j, ∃ h : j < evs.length, mkE evs[j] ⟨yk, yp, yc, yl, ys⟩ from fun h => ⟨i, l1, h⟩)
      clear HR
      generalize evs[i] = x at *
      obtain ⟨x0, x1', x2', x3, ⟨ok, op, oc, oL, os⟩, xn⟩ := x
      simp only at q4 q5 q6 q7 q8
      by_cases hz : (⟨ok, op, oc, oL, os⟩ : OpE) = zo
      · obtain ⟨rfl, rfl, rfl, rfl, rfl⟩ := OpE.mk.inj hz
        go_wp2_with fail
        go_quiet (fail)
        go_wp2
        have Z := hd (HS.out True (fun h => h.1 rfl))
        have e3 : wrap64 ((i : Int) + 1) = ((i + 1 : Nat) : Int) := by have := HN.out; rw [wrap64]; omega
        first
          | exact ⟨⟨i + 1, _, by omega, rfl, rfl, Z⟩, by simp [intOf]; omega⟩
          | (rw [e3]; exact ⟨⟨i + 1, _, by omega, rfl, rfl, Z⟩, by simp [intOf]; omega⟩)
      · by_cases he : (⟨ok, op, oc, oL, os⟩ : OpE) = ⟨yk, yp, yc, yl, ys⟩
        · obtain ⟨rfl, rfl, rfl, rfl, rfl⟩ := OpE.mk.inj he
          have E1 := fun W => opNe hz W
          have E2 := fun W => opSame ok op oc oL os W
          have Z := hd (HE.out ⟨hz, rfl⟩)
          clear hz he HS HE
          go_wp2_with fail
          go_quiet (fail)
          clear E1 E2
          go_wp2
          go_ret
          exact ⟨true, rfl, ⟨fun _ => Z.out, fun _ => rfl⟩, below_drewN (below_drewN HB.out _) _⟩
        · have E1 := fun W => opNe hz W
          have E2 := fun W => opNe he W
          have Z := hd (HS.out True (fun h => he h.2))
          clear hz he HS HE
          go_wp2_with fail
          go_quiet (fail)
          clear E1 E2
          go_wp2
          have e3 : wrap64 ((i : Int) + 1) = ((i + 1 : Nat) : Int) := by have := HN.out; rw [wrap64]; omega
          first
            | exact ⟨⟨i + 1, _, by omega, rfl, rfl, Z⟩, by simp [intOf]; omega⟩
            | (rw [e3]; exact ⟨⟨i + 1, _, by omega, rfl, rfl, Z⟩, by simp [intOf]; omega⟩)
    · have i1 : ¬ (i : Int) < (nE : Int) := by omega
      have Z : Hid (∀ j (h : j < evs.length), ¬ mkE evs[j] ⟨yk, yp, yc, yl, ys⟩) := fun j hj => HR.out j hj (by have := H2.out.1; omega)
      clear HR
      go_wp2
      go_ret
      exact .inl ⟨rfl, Z.out, below_drewN HB.out _⟩

end Go.Proofs.YtfhghijefjhehaaGreatDoor

/-! Hh -/
namespace Go.Proofs.YtfhghijefjhehaaGreatDoor
open Go.RowKit
set_option linter.unusedVariables false

theorem pv_step (evs : List Ev) (n : Nat) (c : Int) (h : n < evs.length) : pv evs (n + 1) c = if evs[n].site = c then evs[n] else pv evs n c := by
  simp only [pv, List.getElem?_eq_getElem h]

/-- The place of the event before, as the loop counts it down. -/
def jv : Nat → Int
  | 0 => -1
  | n + 1 => n

def IsP (p : Ev) (v : Value) : Prop := ∃ (st si ok op oc ol os : Int) (a : Option Addr) (c : Nat), v = .agg #[.int .i64 st, .int .i64 si, .int .i64 p.hav, .int .i64 p.made, .int .i64 ok, .int .i64 op, .int .u8 oc, .int .i64 ol, .int .i64 os, .slice a p.len c]

set_option maxRecDepth 100000 in
set_option maxHeartbeats 4000000 in
theorem before_any (C : Int) (aL aE : Option Addr) (nL cL nE cE i : Nat) (evs : List Ev) (A : Nat → Option Addr) (K : Nat → Nat) (w : World) (hV : IsV w aE nE evs A K) (hi : i < nE) (hil : i < evs.length) (hn : nE ≤ 9223372036854775800) :
    Calls Tryz.prog 34 #[.agg #[.int .i64 C, .slice aL nL cL, .slice aE nE cE], .int .i64 i] w fun e w' => ∃ v j, e = .returned (.tuple #[v, .int .i64 j]) ∧ IsP (pv evs i evs[i].site) v ∧ Below w.heap.size w w' := by
  have g := box_hist w #[.int .i64 C, .slice aL nL cL, .slice aE nE cE] 25
  have g0 : ((w.alloc (.cells #[.int .i64 C, .slice aL nL cL, .slice aE nE cE] 25)).alloc (.cells #[.int .i64 0, .int .i64 0, .int .i64 0, .int .i64 0, .int .i64 0, .int .i64 0, .int .u8 0, .int .i64 0, .int .i64 0, .slice none 0 0] 76)).heap[w.heap.size]? = some (.cells #[.int .i64 C, .slice aL nL cL, .slice aE nE cE] 25 (0, 0)) := (heap_alloc_old _ _ (by simp)).trans g
  have g1 : ((w.alloc (.cells #[.int .i64 C, .slice aL nL cL, .slice aE nE cE] 25)).alloc (.cells #[.int .i64 0, .int .i64 0, .int .i64 0, .int .i64 0, .int .i64 0, .int .i64 0, .int .u8 0, .int .i64 0, .int .i64 0, .slice none 0 0] 76)).heap[w.heap.size + 1]? = some (.cells #[.int .i64 0, .int .i64 0, .int .i64 0, .int .i64 0, .int .i64 0, .int .i64 0, .int .u8 0, .int .i64 0, .int .i64 0, .slice none 0 0] 76 (0, 0)) := by
    have := heap_alloc_new (w.alloc (.cells #[.int .i64 C, .slice aL nL cL, .slice aE nE cE] 25)) (.cells #[.int .i64 0, .int .i64 0, .int .i64 0, .int .i64 0, .int .i64 0, .int .i64 0, .int .u8 0, .int .i64 0, .int .i64 0, .slice none 0 0] 76)
    rwa [World.size_alloc] at this
  have gb : Below w.heap.size w ((w.alloc (.cells #[.int .i64 C, .slice aL nL cL, .slice aE nE cE] 25)).alloc (.cells #[.int .i64 0, .int .i64 0, .int .i64 0, .int .i64 0, .int .i64 0, .int .i64 0, .int .u8 0, .int .i64 0, .int .i64 0, .slice none 0 0] 76)) := ((Below.refl _ _).alloc (Nat.le_refl _) _).alloc (by simp) _
  have H2 := hd (hV.below gb (Nat.le_refl _))
  have HG := hd g0
  have HC := hd g1
  have HB := hd gb
  clear hV g g0 g1 gb
  obtain ⟨b, off, rfl, s1, q⟩ := H2.out.2 (by omega)
  have Q := hd q
  clear q s1
  generalize hc : evs[i].site = c
  have QI := hd (hc ▸ (Q.out i hil).2.1)
  clear hc
  have HN := hd hn
  have HI := hd hi
  have i9 : (i : Int) < (nE : Int) := by omega
  have eI : wrap64 ((i : Int) - 1) = jv i := by
    rw [wrap64_id (by omega) (by omega)]
    cases i with
    | zero => rfl
    | succ n => simp only [jv]; omega
  go_enter Tryz.func34, Tryz.ntmps34
  go_upto_region 1 with fail
  generalize (w.alloc (.cells #[.int .i64 C, .slice aL nL cL, .slice (some ⟨b, off, none⟩) nE cE] 25)).alloc (.cells #[.int .i64 0, .int .i64 0, .int .i64 0, .int .i64 0, .int .i64 0, .int .i64 0, .int .u8 0, .int .i64 0, .int .i64 0, .slice none 0 0] 76) = w0 at *
  clear hn hi
  go_wp2_with fail
  have x2 := cell_row HG.out 2
  simp at x2
  go_loopw [6] (fun v wr => ∃ n m : Nat, n ≤ i ∧ v = .int .i64 (jv n) ∧ wr = w0.drewN m ∧ Hid (pv evs i c = pv evs n c)) (fun v _ => (intOf v + 1).toNat)
  case atStart => exact ⟨i, 0, Nat.le_refl _, by rw [← eI], rfl, rfl⟩
  case round =>
    obtain ⟨n, m, hi', rfl, rfl, HR⟩ := hrel
    clear eI
    have y1 := QI.out
    have r0 := cell_row HC.out 0; have r1 := cell_row HC.out 1; have r2 := cell_row HC.out 2; have r3 := cell_row HC.out 3; have r4 := cell_row HC.out 4
    have r5 := cell_row HC.out 5; have r6 := cell_row HC.out 6; have r7 := cell_row HC.out 7; have r8 := cell_row HC.out 8; have r9 := cell_row HC.out 9
    have t0 := frozen_row HC.out 0; have t1 := frozen_row HC.out 1; have t2 := frozen_row HC.out 2; have t3 := frozen_row HC.out 3; have t4 := frozen_row HC.out 4
    have t5 := frozen_row HC.out 5; have t6 := frozen_row HC.out 6; have t7 := frozen_row HC.out 7; have t8 := frozen_row HC.out 8; have t9 := frozen_row HC.out 9
    simp at r0 r1 r2 r3 r4 r5 r6 r7 r8 r9
    cases n with
    | zero =>
      simp only [jv]
      go_wp2
      refine bodyPost_ret (v := .tuple #[.agg #[.int .i64 0, .int .i64 c, .int .i64 0, .int .i64 0, .int .i64 0, .int .i64 0, .int .u8 0, .int .i64 0, .int .i64 0, .slice none 0 0], .int .i64 (-1)]) (by simp [results, Tryz.results34, go_sem, r0, r1, r2, r3, r4, r5, r6, r7, r8, r9]) rfl ?_
      refine ⟨_, _, rfl, ?_, ?_⟩
      · rw [HR.out]
        exact ⟨_, _, _, _, _, _, _, _, _, rfl⟩
      · have hb := below_drewN HB.out m
        iterate 10 refine Below.setCell ?_ (by simp) _
        exact hb
    | succ n =>
      simp only [jv]
      have l1 : n < evs.length := by omega
      obtain ⟨q0, q1, q2, q3, q4, q5, q6, q7, q8, q9⟩ := Q.out n l1
      have i1 : (n : Int) < (nE : Int) := by omega
      have HS := hd (pv_step evs n c l1)
      generalize evs[n] = x at *
      obtain ⟨x0, x1, x2', x3, ⟨ok, op, oc, oL, os⟩, xn⟩ := x
      simp only at q0 q1 q2 q3 q4 q5 q6 q7 q8 q9 HS
      by_cases hc : x1 = c
      · subst hc
        have Z : Hid (pv evs i x1 = ⟨x0, x1, x2', x3, ⟨ok, op, oc, oL, os⟩, xn⟩) := by rw [Hid, HR.out, HS.out, if_pos rfl]
        clear HR HS
        go_wp2_with fail
        go_quiet (fail)
        go_wp2
        refine bodyPost_ret (v := .tuple #[.agg #[.int .i64 x0, .int .i64 x1, .int .i64 x2', .int .i64 x3, .int .i64 ok, .int .i64 op, .int .u8 oc, .int .i64 oL, .int .i64 os, .slice (A n) xn (K n)], .int .i64 n]) (by simp [results, Tryz.results34, go_sem, r0, r1, r2, r3, r4, r5, r6, r7, r8, r9]) rfl ?_
        refine ⟨_, _, rfl, ?_, ?_⟩
        · rw [Z.out]
          exact ⟨_, _, _, _, _, _, _, _, _, rfl⟩
        · have hb := below_drewN HB.out (m + nq)
          iterate 10 refine Below.setCell ?_ (by simp) _
          exact hb
      · have hb : (x1 == c) = false := by simpa using hc
        have Z : Hid (pv evs i c = pv evs n c) := by rw [Hid, HR.out, HS.out, if_neg hc]
        have e3 : wrap64 ((n : Int) - 1) = jv n := by
          have := HN.out
          have := HI.out
          rw [wrap64_id (by omega) (by omega)]
          cases n with
          | zero => rfl
          | succ n => simp only [jv]; omega
        have E3 := hd e3
        clear HR HS e3
        go_wp2_with fail
        go_quiet (fail)
        go_wp2
        have hj : jv n + 1 = (n : Int) := by
          cases n with
          | zero => rfl
          | succ n => simp only [jv]; omega
        first
          | exact ⟨⟨n, _, by omega, by rw [E3.out]; rfl, rfl, Z⟩, by simp only [intOf, E3.out, hj]; omega⟩
          | (rw [E3.out]; exact ⟨⟨n, _, by omega, rfl, rfl, Z⟩, by simp only [intOf, hj]; omega⟩)

end Go.Proofs.YtfhghijefjhehaaGreatDoor

/-! Ia -/
namespace Go.Proofs.YtfhghijefjhehaaGreatDoor
open Go.RowKit
set_option linter.unusedVariables false

/-- A deed: the edit, the element. -/
structure Dd where
  e : Ed
  c : Int
  l : Int
  s : Int
def nic (n : Nat) : List Value := [.int .i64 (n : Int)]
def ddc (d : Dd) : List Value := [.int .i64 d.e.tag, .int .i64 d.e.o.kind, .int .i64 d.e.o.pos, .int .u8 d.e.o.ch, .int .i64 d.e.o.cl, .int .i64 d.e.o.sq, .int .u8 d.c, .int .i64 d.l, .int .i64 d.s]
theorem szN : Sz nic 1 := fun n => ⟨rfl, fun v hv => by simp [nic] at hv; subst hv; rfl⟩
theorem szD : Sz ddc 9 := fun d => ⟨rfl, fun v hv => by
  simp only [ddc, List.mem_cons, List.not_mem_nil, or_false] at hv
  rcases hv with rfl | rfl | rfl | rfl | rfl | rfl | rfl | rfl | rfl <;> rfl⟩

inductive Ls where
  | ns (l : List Nat)
  | ds (l : List Dd)
def Ls.len : Ls → Nat
  | .ns l => l.length
  | .ds l => l.length
def Ls.is (w : World) (β : Option Nat) (v : Value) : Ls → Prop
  | .ns l => SF nic 1 w 3 β v l
  | .ds l => SF ddc 9 w 143 β v l
theorem Ls.fr {w w' : World} {β : Option Nat} {v : Value} {S : Nat → Prop} {s : Ls} (h : s.is w β v) (hF : Fr S w w') (hS : ∀ g, β = some g → ¬ S g) : s.is w' β v := by
  cases s with
  | ns l => exact SF.fr h hF hS
  | ds l => exact SF.fr h hF hS
theorem Ls.form {w : World} {β : Option Nat} {v : Value} {s : Ls} (h : s.is w β v) : ∃ a c, v = .slice a s.len c ∧ s.len ≤ c ∧ c ≤ 9223372036854775807 := by
  cases s with
  | ns l => exact SF.form h
  | ds l => exact SF.form h
theorem Ls.lt {w : World} {β : Option Nat} {v : Value} {s : Ls} (h : s.is w β v) : ∀ g, β = some g → g < w.heap.size := by
  cases s with
  | ns l => exact SF.lt h
  | ds l => exact SF.lt h

def upd {α : Type} (S : Nat → α) (i : Nat) (s : α) : Nat → α := fun j => if j = i then s else S j
theorem upd_same {α : Type} (S : Nat → α) (i : Nat) (s : α) : upd S i s i = s := by simp [upd]
theorem upd_ne {α : Type} (S : Nat → α) {i j : Nat} (s : α) (h : j ≠ i) : upd S i s j = S j := by simp [upd, h]

/-- The tale at block x: its lists S, at the rows L. -/
structure TL (w : World) (x : Nat) (C : Int) (vL vE : Value) (S : Nat → Ls) (L : Nat → Option Nat) : Prop where
  blk : ∃ cur : Array Value, w.heap[x]? = some (.cells cur 117 (0, 0)) ∧ cur.size = 198 ∧ cur[0]? = some (.int .i64 C) ∧ cur[1]? = some vL ∧ cur[2]? = some vE ∧ ∀ i, i < 195 → ∃ v, cur[3 + i]? = some v ∧ (S i).is w (L i) v
  inj : ∀ i j g, i < 195 → j < 195 → L i = some g → L j = some g → i = j
  far : ∀ i g, i < 195 → L i = some g → x < g

section
variable {w w' : World} {x : Nat} {C : Int} {vL vE : Value} {S : Nat → Ls} {L : Nat → Option Nat}
theorem TL.lt (h : TL w x C vL vE S L) : x < w.heap.size := by
  obtain ⟨cur, hh, -⟩ := h.blk
  exact block_lt hh
theorem TL.old (h : TL w x C vL vE S L) {i g : Nat} (hi : i < 195) (hg : L i = some g) : g < w.heap.size := by
  obtain ⟨cur, -, -, -, -, -, hs⟩ := h.blk
  obtain ⟨v, -, hv⟩ := hs i hi
  exact Ls.lt hv g hg
theorem TL.fr {T : Nat → Prop} (h : TL w x C vL vE S L) (hF : Fr T w w') (hx : ¬ T x) (hT : ∀ i g, i < 195 → L i = some g → ¬ T g) : TL w' x C vL vE S L := by
  obtain ⟨cur, hh, h1, h2, h3, h4, hs⟩ := h.blk
  refine ⟨⟨cur, hF.keeps hh hx, h1, h2, h3, h4, fun i hi => ?_⟩, h.inj, h.far⟩
  obtain ⟨v, hv, hi'⟩ := hs i hi
  exact ⟨v, hv, Ls.fr hi' hF (fun g hg => hT i g hi hg)⟩
theorem TL.below (h : TL w x C vL vE S L) (hb : Below w.heap.size w w') : TL w' x C vL vE S L := h.fr (T := fun _ => False) (Fr.of_below hb) (fun h => h) (fun _ _ _ _ h => h)
theorem TL.heads (h : TL w x C vL vE S L) : w.cell? ⟨x, 0, none⟩ = some (.int .i64 C) ∧ w.cell? ⟨x, 1, none⟩ = some vL ∧ w.cell? ⟨x, 2, none⟩ = some vE := by
  obtain ⟨cur, hh, h1, h2, h3, h4, hs⟩ := h.blk
  exact ⟨(cell_row hh 0).trans h2, (cell_row hh 1).trans h3, (cell_row hh 2).trans h4⟩
theorem TL.slot (h : TL w x C vL vE S L) (i : Nat) (hi : i < 195) : ∃ v, w.cell? ⟨x, 3 + i, none⟩ = some v ∧ (S i).is w (L i) v := by
  obtain ⟨cur, hh, h1, h2, h3, h4, hs⟩ := h.blk
  obtain ⟨v, hv, hi'⟩ := hs i hi
  exact ⟨v, (cell_row hh _).trans hv, hi'⟩
theorem TL.frozen (h : TL w x C vL vE S L) (i : Nat) : w.frozen? ⟨x, i, none⟩ = false := by
  obtain ⟨cur, hh, -⟩ := h.blk
  exact frozen_row hh i

/-- One list gets longer: the append's row, then the slot. -/
theorem TL.put {w1 w2 : World} (h : TL w x C vL vE S L) (hb : Below w.heap.size w w1) {i g' : Nat} (hi : i < 195) {s' : Ls} {v' : Value} (hs : s'.is w2 (some g') v') (hN : (L i = some g' ∧ Fr (· = g') w1 w2) ∨ (g' = w1.heap.size ∧ Fr (fun _ => False) w1 w2)) :
    TL (w2.setCell ⟨x, 3 + i, none⟩ v') x C vL vE (upd S i s') (upd L i (some g')) ∧ Fr (fun k => k = x ∨ L i = some k) w (w2.setCell ⟨x, 3 + i, none⟩ v') ∧ (L i = some g' ∨ w.heap.size ≤ g') := by
  have h1 := h.below hb
  have hx1 : x < w1.heap.size := h1.lt
  have xg : x < g' := by
    rcases hN with ⟨a, -⟩ | ⟨a, -⟩
    · exact h1.far i g' hi a
    · omega
  have hF : Fr (fun k => L i = some k) w1 w2 := by
    rcases hN with ⟨a, b⟩ | ⟨a, b⟩
    · exact b.mono (fun k _ hk => by rw [hk]; exact a)
    · exact b.mono (fun k _ hk => hk.elim)
  have hFs : Fr (fun k => k = x) w2 (w2.setCell ⟨x, 3 + i, none⟩ v') := Fr.setCell _ _ _ rfl
  have nx : ∀ g, L i = some g → g ≠ x := fun g hg e => by have := h.far i g hi hg; omega
  have x1 : ¬ (L i = some x) := fun e => nx x e rfl
  obtain ⟨cur, hh, c1, c2, c3, c4, hsl⟩ := h1.blk
  have hh2 := hF.keeps hh x1
  have g'lt : g' < w2.heap.size := Ls.lt hs g' rfl
  refine ⟨⟨⟨cur.setIfInBounds (3 + i) v', set_row hh2 (3 + i) v', by simp [c1], ?_, ?_, ?_, ?_⟩, ?_, ?_⟩, ?_, ?_⟩
  · rw [Array.getElem?_setIfInBounds_ne (by omega)]; exact c2
  · rw [Array.getElem?_setIfInBounds_ne (by omega)]; exact c3
  · rw [Array.getElem?_setIfInBounds_ne (by omega)]; exact c4
  · intro j hj
    by_cases e : j = i
    · subst e
      refine ⟨v', by rw [Array.getElem?_setIfInBounds_self_of_lt (by omega)], ?_⟩
      rw [upd_same, upd_same]
      exact Ls.fr hs hFs (fun g hg => by injection hg with hg; subst hg; omega)
    · obtain ⟨v, hv, hj'⟩ := hsl j hj
      refine ⟨v, by rw [Array.getElem?_setIfInBounds_ne (by omega)]; exact hv, ?_⟩
      rw [upd_ne _ _ e, upd_ne _ _ e]
      refine Ls.fr (Ls.fr hj' hF (fun g hg hgi => e (h1.inj j i g hj hi hg hgi))) hFs (fun g hg => ?_)
      have := h1.far j g hj hg
      omega
  · intro j k g hj hk hg1 hg2
    by_cases e1 : j = i
    · by_cases e2 : k = i
      · omega
      · subst e1
        rw [upd_same] at hg1
        rw [upd_ne _ _ e2] at hg2
        injection hg1 with hg1
        subst hg1
        rcases hN with ⟨a, -⟩ | ⟨a, -⟩
        · exact h1.inj _ _ _ hj hk a hg2
        · have := h1.old hk hg2
          omega
    · by_cases e2 : k = i
      · subst e2
        rw [upd_same] at hg2
        rw [upd_ne _ _ e1] at hg1
        injection hg2 with hg2
        subst hg2
        rcases hN with ⟨a, -⟩ | ⟨a, -⟩
        · exact h1.inj _ _ _ hj hk hg1 a
        · have := h1.old hj hg1
          omega
      · rw [upd_ne _ _ e1] at hg1
        rw [upd_ne _ _ e2] at hg2
        exact h1.inj _ _ _ hj hk hg1 hg2
  · intro j g hj hg
    by_cases e : j = i
    · subst e
      rw [upd_same] at hg
      injection hg with hg
      omega
    · rw [upd_ne _ _ e] at hg
      exact h1.far j g hj hg
  · have f1 : Fr (fun k => k = x ∨ L i = some k) w w1 := Fr.of_below hb
    exact (f1.trans (hF.mono (fun k _ hk => .inr hk))).trans (hFs.mono (fun k _ hk => .inl hk))
  · rcases hN with ⟨a, -⟩ | ⟨a, -⟩
    · exact .inl a
    · exact .inr (by rw [a]; exact hb.size)
end

end Go.Proofs.YtfhghijefjhehaaGreatDoor

/-! Ib -/
namespace Go.Proofs.YtfhghijefjhehaaGreatDoor
open Go.RowKit
set_option linter.unusedVariables false

def lastP (l : List Nat) : Int := match l.getLast? with
  | some j => (j : Int)
  | none => -1
def evV (e : Ev) (a : Option Addr) (c : Nat) : Value := .agg #[.int .i64 e.step, .int .i64 e.site, .int .i64 e.hav, .int .i64 e.made, .int .i64 e.o.kind, .int .i64 e.o.pos, .int .u8 e.o.ch, .int .i64 e.o.cl, .int .i64 e.o.sq, .slice a e.len c]
def evO (evs : List Ev) (A : Nat → Option Addr) (K : Nat → Nat) : Option Nat → Value
  | some j => evV (evs.getD j zev) (A j) (K j)
  | none => evV zev none 0
def oI : Option Nat → Int
  | some j => (j : Int)
  | none => -1
theorem lastP_eq (l : List Nat) : lastP l = oI l.getLast? := by
  unfold lastP oI
  cases l.getLast? <;> rfl

section
variable {w : World} {x : Nat} {C : Int} {vL vE : Value} {S : Nat → Ls} {L : Nat → Option Nat}

/-- The list i of places, to be read. -/
theorem TL.ints (h : TL w x C vL vE S L) {i : Nat} (hi : i < 195) {l : List Nat} (hS : S i = .ns l) : ∃ a c, w.cell? ⟨x, 3 + i, none⟩ = some (.slice a l.length c) ∧ (0 < l.length → ∃ g, a = some ⟨g, 0, none⟩ ∧ ∀ k (hk : k < l.length), w.cell? ⟨g, k, none⟩ = some (.int .i64 (l[k] : Int))) ∧ l.length ≤ 9223372036854775807 := by
  obtain ⟨v, hv, hs⟩ := h.slot i hi
  rw [hS] at hs
  cases hb : L i with
  | none =>
    rw [hb] at hs
    obtain ⟨rfl, rfl⟩ := hs
    exact ⟨none, 0, hv, fun h => by simp at h, by simp⟩
  | some g =>
    rw [hb] at hs
    obtain ⟨cap, rfl, hR⟩ := hs
    refine ⟨_, _, hv, fun _ => ⟨g, rfl, fun k hk => ?_⟩, ?_⟩
    · have := RowF.cell hR szN k 0 hk (by omega)
      rw [Nat.mul_one, Nat.add_zero] at this
      rw [this]
      rfl
    · obtain ⟨cur, -, -, -, h1, h2, -⟩ := hR
      omega

set_option maxRecDepth 100000 in
set_option maxHeartbeats 4000000 in
theorem last_any (h : TL w x C vL vE S L) (c : Nat) (hc : c < 65) (l : List Nat) (hS : S (65 + c) = .ns l) :
    Calls Tryz.prog 80 #[.pointer (some ⟨x, 0, none⟩), .int .i64 c] w fun e w' => e = .returned (.int .i64 (lastP l)) ∧ Below w.heap.size w w' := by
  obtain ⟨a, cp, hv, hg, hl⟩ := h.ints (i := 65 + c) (by omega) hS
  rw [show 3 + (65 + c) = 68 + c from by omega] at hv
  have c65 : (c : Int) < 65 := by omega
  have HH := hd h
  clear h
  cases l with
  | nil =>
    simp only [List.length_nil] at hv
    clear hg hl
    go_enter Tryz.func80, Tryz.ntmps80
    go_wp2
    go_ret
    exact ⟨rfl, Below.refl _ _⟩
  | cons y l =>
    obtain ⟨g, rfl, hcell⟩ := hg (by simp)
    have h1 := hcell l.length (by simp)
    have HG : Hid (lastP (y :: l) = (((y :: l)[l.length]'(by simp) : Nat) : Int)) := by
      unfold Hid lastP
      rw [List.getLast?_eq_getElem?]
      simp
    generalize (y :: l)[l.length]'(by simp) = z at h1 HG
    simp only [List.length_cons] at hv hl
    clear hcell hg
    rw [HG.out]
    have k1 : (((l.length + 1 : Nat) : Int) == 0) = false := by simp; omega
    have h1' : w.cell? ⟨g, l.length + 1 - 1, none⟩ = some (.int .i64 (z : Int)) := h1
    clear h1
    have hn1 : 1 ≤ l.length + 1 := by omega
    generalize l.length + 1 = n at *
    go_enter Tryz.func80, Tryz.ntmps80
    go_wp2
    go_ret
    exact ⟨rfl, Below.refl _ _⟩

set_option maxRecDepth 100000 in
set_option maxHeartbeats 4000000 in
theorem event_any {evs : List Ev} {A : Nat → Option Addr} {K : Nat → Nat} {aE : Option Addr} {nE cE : Nat} (h : TL w x C vL (.slice aE nE cE) S L) (hV : IsV w aE nE evs A K) (j : Option Nat) (hj : ∀ k, j = some k → k < evs.length) :
    Calls Tryz.prog 79 #[.pointer (some ⟨x, 0, none⟩), .int .i64 (oI j)] w fun e w' => e = .returned (evO evs A K j) ∧ Below w.heap.size w w' := by
  obtain ⟨-, -, h2⟩ := h.heads
  have lx := h.lt
  clear h
  cases j with
  | none =>
    simp only [oI, evO]
    clear hV hj
    go_enter Tryz.func79, Tryz.ntmps79
    go_wp2
    refine bodyPost_ret (v := evV zev none 0) (by simp [results, Tryz.results79, go_sem, evV, zev, zo]) rfl ?_
    exact ⟨rfl, by repeat (first | exact Below.refl _ _ | refine Below.alloc ?_ (by simp) _ | refine Below.setCell ?_ (by simp) _)⟩
  | some k =>
    have hk := hj k rfl
    clear hj
    obtain ⟨b, off, rfl, s1, q⟩ := hV.2 (by have := hV.1; omega)
    obtain ⟨q0, q1, q2, q3, q4, q5, q6, q7, q8, q9⟩ := q k hk
    have i1 : (k : Int) < (nE : Int) := by have := hV.1; omega
    have hd1 : evs.getD k zev = evs[k] := by simp [List.getD, List.getElem?_eq_getElem hk]
    simp only [oI, evO, hd1]
    clear q hV hd1
    generalize evs[k] = y at *
    obtain ⟨x0, x1, x2, x3, ⟨ok, op, oc, oL, os⟩, xn⟩ := y
    simp only at q0 q1 q2 q3 q4 q5 q6 q7 q8 q9
    have k1 : ((k : Int) == -1) = false := by first | (simp; done) | (simp; omega)
    have ne : ¬ b = w.heap.size := by omega
    go_enter Tryz.func79, Tryz.ntmps79
    go_wp2
    refine bodyPost_ret (v := .agg #[.int .i64 x0, .int .i64 x1, .int .i64 x2, .int .i64 x3, .int .i64 ok, .int .i64 op, .int .u8 oc, .int .i64 oL, .int .i64 os, .slice (A k) xn (K k)]) (by simp [results, Tryz.results79, go_sem]) rfl ?_
    exact ⟨rfl, by repeat (first | exact Below.refl _ _ | refine Below.alloc ?_ (by simp) _ | refine Below.setCell ?_ (by simp) _)⟩
end

end Go.Proofs.YtfhghijefjhehaaGreatDoor
