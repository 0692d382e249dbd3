/-
  Texts put together: Pk Pl Pn.
-/
import Derived.Test.YtfhghijefjhehaaGreatDoorMPi
import Derived.Test.YtfhghijefjhehaaGreatDoorPh
import Derived.Test.YtfhghijefjhehaaGreatDoorMNb
/-! Pk -/
namespace Go.Proofs.YtfhghijefjhehaaGreatDoor
open Go.RowKit
set_option linter.unusedVariables false

theorem infoEdt : (Tryz.prog.info? 74).map (fun i => (i.zero, i.size, i.bytes)) = some (some (.agg #[.int .i64 0, .int .i64 0, .int .i64 0, .int .u8 0, .int .i64 0, .int .i64 0]), 6, 48) := by kernel_rfl
theorem infoWk : (Tryz.prog.info? 84).map (fun i => (i.zero, i.size, i.bytes)) = some (some (.agg #[.slice none 0 0, .slice none 0 0, .slice none 0 0, .slice none 0 0, .int .i64 0, .int .i64 0]), 6, 112) := by kernel_rfl

/-- append of one edit. -/
theorem push_edt (w : World) (β : Option Nat) (v : Value) (xs : List Ed) (hv : SF edc 6 w 74 β v xs) (b : Nat) (x : Ed) (hb : w.heap[b]? = some (.cells (edc x).toArray 74 (0, 0))) (hn : xs.length ≤ 1000000) :
    ∃ v' w', (∀ ty, (Builtin.append_ #[22, 22] ty #[v, .slice (some ⟨b, 0, none⟩) 1 1]).run Tryz.prog w = .ok v' w') ∧ NowF edc 6 w w' 74 β v' (xs ++ [x]) := by
  obtain ⟨i0, hi0, hz0, hz1, hz2⟩ := info_parts infoEdt
  obtain ⟨v', w', hr, hN⟩ := run_pushF szEd (P := Tryz.prog) w 22 0 74 i0 _ 48 Tryz.underlying22 hi0 hz0 hz1 rfl hz2 β v xs hv ⟨b, 0, none⟩ 1 1 [x] rfl (fun j u hj => by
    rw [cl_one] at hj
    rw [add_lit, cell_row hb, Nat.zero_add, List.getElem?_toArray]
    exact hj) (by omega) (by omega) (by omega)
  exact ⟨v', w', fun ty => hr, hN⟩

def zW : Array Value := #[.slice none 0 0, .slice none 0 0, .slice none 0 0, .slice none 0 0, .int .i64 0, .int .i64 0]
theorem madeW {n c j : Nat} (hc : c < n) (hj : j < 6) : ((madeCells zW (n * 6)).toList)[c * 6 + j]? = zW[j]? := by
  have h1 : (c * 6 + j) % 6 = j := by omega
  have h2 : c * 6 + j < n * 6 := by omega
  have hz : zW.size = 6 := rfl
  simp [madeCells, hz, h1, h2, hj]

section
variable {w0 w u : World} {g n : Nat}
/-- All walkers, as they are made. -/
theorem WM.begin {cur : List Value} (hr : u.heap[g]? = some (.cells cur.toArray 84 (0, 0))) (hc : cur = (madeCells zW (n * 6)).toList) (hb : Below w0.heap.size w0 u) (hg : w0.heap.size ≤ g) :
    WM w0 u g n (fun _ => none) (fun _ => none) (fun _ => none) (fun _ => []) (fun _ => ⟨[], [], [], 0, 0⟩) (fun _ => []) := by
  have hl : cur.length = n * 6 := by rw [hc, madeCells_len _ _ (by decide)]
  refine ⟨⟨_, hr, by simpa using hl⟩, fun c hc' => ⟨⟨_, _, _, _, _, hr, by simp; omega, ?_, ?_, ?_, ?_, ?_, ?_, ⟨rfl, rfl⟩, ⟨none, rfl, rfl⟩, ⟨rfl, rfl⟩, ⟨rfl, rfl⟩⟩, fun p hp => (by cases hp), rfl, by simp⟩, fun _ _ _ _ _ h => (by cases h), fun _ _ _ _ _ h => (by cases h), fun _ _ _ _ _ h => (by cases h), hb, hg, fun c j _ h => by rcases h with h | h | h <;> cases h⟩
  all_goals rw [List.getElem?_toArray, hc]
  · exact madeW hc' (show 0 < 6 by omega)
  · exact madeW hc' (show 1 < 6 by omega)
  · exact madeW hc' (show 2 < 6 by omega)
  · exact madeW hc' (show 3 < 6 by omega)
  · exact madeW hc' (show 4 < 6 by omega)
  · exact madeW hc' (show 5 < 6 by omega)

variable {B Φ N : Nat → Option Nat} {E : Nat → List Ed} {K : Nat → Wk} {Y : Nat → List PV}
/-- One edit more: the append, then the field. -/
theorem WM.edit {c : Nat} {v0 : Value} (h : WM w0 u g n B Φ N E K Y) (hc : c < n) (hm : (K c).made = 0) (hv : u.cell? ⟨g, c * 6, none⟩ = some v0) (x : Ed) (b : Nat) (hb : u.heap[b]? = some (.cells (edc x).toArray 74 (0, 0))) (hn : (E c).length ≤ 1000000) :
    ∃ a cc u', (∀ ty, (Builtin.append_ #[22, 22] ty #[v0, .slice (some ⟨b, 0, none⟩) 1 1]).run Tryz.prog u = .ok (.slice a ((E c).length + 1) cc) u') ∧ Fr (fun j => B c = some j) u u' ∧ u'.cell? ⟨g, c * 6, none⟩ = some v0 ∧ u'.frozen? ⟨g, c * 6, none⟩ = false ∧
      ∃ B', WM w0 (u'.setCell ⟨g, c * 6, none⟩ (.slice a ((E c).length + 1) cc)) g n B' Φ N (upd E c (E c ++ [x])) (upd K c ⟨E c ++ [x], (K c).text, (K c).forms, (K c).hav, 0⟩) Y := by
  obtain ⟨a1, a2, a3, a4⟩ := (h.wr c hc).apart
  obtain ⟨vE, vT, vF, vW, hE, hT, hO, hW, c0, -⟩ := (h.wr c hc).cells
  obtain rfl : vE = v0 := by rw [c0] at hv; exact Option.some.inj hv
  obtain ⟨v', u', hr, g', hS', hN⟩ := push_edt _ (B c) vE (E c) hE b x hb hn
  obtain ⟨a, cc, hv', -⟩ := hS'.form
  simp only [List.length_append, List.length_cons, List.length_nil, Nat.zero_add] at hv'
  subst hv'
  have hF : Fr (fun j => B c = some j) u u' := by
    rcases hN with ⟨a, b⟩ | ⟨a, b⟩
    · exact b.mono (fun j _ hj => by rw [hj]; exact a)
    · exact b.mono (fun j _ hj => hj.elim)
  have nBg : B c ≠ some g := fun e => a3 g e rfl
  obtain ⟨cur, uE, uT, uF, uW, k1, k2, d0, d1, d2, d3, d4, d5, jE, ⟨βt, jT⟩, jO, jW⟩ := (h.wr c hc).blk
  have kg : u'.heap[g]? = some (.cells cur 84 (0, 0)) := hF.keeps k1 nBg
  have hFg : Fr (· = g) u' (u'.setCell ⟨g, c * 6, none⟩ (.slice a ((E c).length + 1) cc)) := Fr.setCell _ _ _ rfl
  have hF2 : Fr (fun j => j = g ∨ B c = some j) u (u'.setCell ⟨g, c * 6, none⟩ (.slice a ((E c).length + 1) cc)) := (hF.mono (fun j _ hj => .inr hj)).trans (hFg.mono (fun j _ hj => .inl hj))
  have hO2 : Oth g (c * 6) u (u'.setCell ⟨g, c * 6, none⟩ (.slice a ((E c).length + 1) cc)) := (Oth.fr hF nBg).trans (Oth.set _ ⟨by omega, by omega⟩)
  have gg : g' ≠ g := fun e => by
    obtain ⟨cs, hcs⟩ := SF.blk hS'
    rw [e, kg] at hcs
    simp at hcs
  have tySE : ∀ j cs t, (j = g ∨ B c = some j) → u.heap[j]? = some (.cells cs t (0, 0)) → t ≠ 42 := fun j cs t hs hcs => by
    rcases hs with rfl | hs
    · have := ty_ne h.tyG ⟨cs, hcs⟩; subst this; decide
    · have := ty_ne (h.tyB hc hs) ⟨cs, hcs⟩; subst this; decide
  have tell : ∀ {β : Option Nat} {v : Value} {t : List El}, SE u β v t → SE (u'.setCell ⟨g, c * 6, none⟩ (.slice a ((E c).length + 1) cc)) β v t := fun {β v t} hs => hs.fr hF2 (fun g hg hs' => by
    subst hg
    obtain ⟨cs, hcs⟩ := hs.blk
    exact tySE _ _ _ hs' hcs rfl)
  have nF : ∀ d j, d < n → Φ d = some j → ¬ (j = g ∨ B c = some j) := fun d j hd' hj hs => by
    rcases hs with rfl | hs
    · have := ty_ne (h.tyF hd' hj) h.tyG; cases this
    · have := ty_ne (h.tyF hd' hj) (h.tyB hc hs); cases this
  have nN : ∀ d j, d < n → N d = some j → ¬ (j = g ∨ B c = some j) := fun d j hd' hj hs => by
    rcases hs with rfl | hs
    · have := ty_ne (h.tyN hd' hj) h.tyG; cases this
    · have := ty_ne (h.tyN hd' hj) (h.tyB hc hs); cases this
  obtain ⟨cur0, q1, q2⟩ := h.blk
  obtain ⟨cur1, p1, p2, p3⟩ := hO2 cur0 q1
  have hnew : ∀ j, some g' = some j → B c = some j ∨ u.heap.size ≤ j := fun j hj => by
    injection hj with hj
    subst hj
    rcases hN with ⟨e, -⟩ | ⟨e, -⟩
    · exact .inl e
    · exact .inr (by omega)
  refine ⟨a, cc, u', hr, hF, (hF.cell (p := ⟨g, c * 6, none⟩) (block_lt k1) nBg).trans c0, frozen_row kg _, upd B c (some g'), ⟨⟨cur1, p1, by omega⟩, fun d hd' => ?_, h.fi, h.ni, fun d e j hd' he h3 h4 => ?_, h.bel.trans (hF2.below h.bel.size (fun j hj => ?_)), h.lg, fun d j hd' h3 => ?_⟩⟩
  · by_cases e : d = c
    · subst e
      rw [upd_same, upd_same, upd_same]
      refine ⟨⟨_, _, uT, uF, uW, set_row kg _ _, by simpa using k2, ?_, ?_, ?_, ?_, ?_, ?_, hS'.fr hFg (fun j hj e => by injection hj with hj; exact gg (hj.trans e)), ⟨βt, tell jT⟩, jO.fr hF2 (fun j hj => nF _ j hd' hj), jW.fr hF2 (fun j hj => nN _ j hd' hj)⟩, fun p hp => ?_, rfl, (h.wr d hd').le⟩
      · rw [Array.getElem?_setIfInBounds_self_of_lt (by omega)]
      · rw [Array.getElem?_setIfInBounds_ne (by omega)]; exact d1
      · rw [Array.getElem?_setIfInBounds_ne (by omega)]; exact d2
      · rw [Array.getElem?_setIfInBounds_ne (by omega)]; exact d3
      · rw [Array.getElem?_setIfInBounds_ne (by omega)]; exact d4
      · rw [Array.getElem?_setIfInBounds_ne (by omega), d5, hm]
      · obtain ⟨β', hs⟩ := (h.wr d hd').docs p hp
        exact ⟨β', tell hs⟩
    · rw [upd_ne _ _ e, upd_ne _ _ e, upd_ne _ _ e]
      refine (h.wr d hd').move hO2 (by omega) hF2 tySE (fun j hj hs => ?_) (fun j hj => nF d j hd' hj) (fun j hj => nN d j hd' hj)
      rcases hs with rfl | hs
      · have := ty_ne (h.tyB hd' hj) h.tyG; cases this
      · exact e (h.bi d c j hd' hc hj hs)
  · have ltB : ∀ {c j : Nat}, c < n → B c = some j → j < u.heap.size := fun {c j} hc hj => by
      obtain ⟨cs, hcs⟩ := h.tyB hc hj
      exact block_lt hcs
    by_cases e1 : d = c
    · by_cases e2 : e = c
      · omega
      · subst e1
        rw [upd_same] at h3
        rw [upd_ne _ _ e2] at h4
        rcases hnew j h3 with h5 | h5
        · exact h.bi _ _ j hd' he h5 h4
        · have := ltB he h4; omega
    · by_cases e2 : e = c
      · subst e2
        rw [upd_same] at h4
        rw [upd_ne _ _ e1] at h3
        rcases hnew j h4 with h5 | h5
        · exact h.bi _ _ j hd' he h3 h5
        · have := ltB hd' h3; omega
      · rw [upd_ne _ _ e1] at h3
        rw [upd_ne _ _ e2] at h4
        exact h.bi d e j hd' he h3 h4
  · rcases hj with rfl | hj
    · exact h.lg
    · exact h.lo c j hc (.inr (.inr hj))
  · have hs := h.bel.size
    by_cases e1 : d = c
    · subst e1
      rw [upd_same] at h3
      rcases h3 with h3 | h3 | h3
      · exact h.lo _ j hd' (.inl h3)
      · exact h.lo _ j hd' (.inr (.inl h3))
      · rcases hnew j h3 with h5 | h5
        · exact h.lo _ j hd' (.inr (.inr h5))
        · omega
    · rw [upd_ne _ _ e1] at h3
      exact h.lo d j hd' h3
end

end Go.Proofs.YtfhghijefjhehaaGreatDoor

/-! Pl -/
namespace Go.Proofs.YtfhghijefjhehaaGreatDoor
open Go.RowKit
set_option linter.unusedVariables false

/-- The walkers (from 1 on) are G, they have told F; the done forms lie in vd. -/
def WS (w1 wr : World) (g n : Nat) (E : Nat → List Ed) (G : Nat → Wk) (F : Nat → List Vw) (vd : Value) (ds : List OpE) : Prop :=
  ∃ B Φ N K Y φd, WM w1 wr g n B Φ N E K Y ∧ (∀ d, 1 ≤ d → d < n → K d = G d ∧ (Y d).map PV.view = F d) ∧ FO wr φd vd ds ∧ ∀ j, φd = some j → w1.heap.size ≤ j ∧ ∀ c, c < n → Φ c ≠ some j
/-- And an operation at block bo. -/
def WO (w1 wr : World) (g n : Nat) (E : Nat → List Ed) (G : Nat → Wk) (F : Nat → List Vw) (vd : Value) (ds : List OpE) (bo : Nat) (op : OpE) : Prop :=
  ∃ B Φ N K Y φd, WM w1 wr g n B Φ N E K Y ∧ (∀ d, 1 ≤ d → d < n → K d = G d ∧ (Y d).map PV.view = F d) ∧ FO wr φd vd ds ∧ (∀ j, φd = some j → w1.heap.size ≤ j ∧ j ≠ bo ∧ ∀ c, c < n → Φ c ≠ some j) ∧ wr.heap[bo]? = some (.cells (opc op).toArray 69 (0, 0)) ∧ (∀ c, c < n → Φ c ≠ some bo) ∧ w1.heap.size ≤ bo

section
variable {w1 wr w' : World} {g n : Nat} {E : Nat → List Ed} {G G' : Nat → Wk} {F F' : Nat → List Vw} {vd : Value} {ds : List OpE} {c bo : Nat} {op : OpE}
theorem WS.congr (h : WS w1 wr g n E G F vd ds) (hG : ∀ d, 1 ≤ d → d < n → G d = G' d ∧ F d = F' d) : WS w1 wr g n E G' F' vd ds := by
  obtain ⟨B, Φ, N, K, Y, φd, h1, h2, h3, h4⟩ := h
  exact ⟨B, Φ, N, K, Y, φd, h1, fun d hd1 hd2 => by rw [← (hG d hd1 hd2).1, ← (hG d hd1 hd2).2]; exact h2 d hd1 hd2, h3, h4⟩
theorem WS.below (h : WS w1 wr g n E G F vd ds) (hb : Below wr.heap.size wr w') : WS w1 w' g n E G F vd ds := by
  obtain ⟨B, Φ, N, K, Y, φd, h1, h2, h3, h4⟩ := h
  exact ⟨B, Φ, N, K, Y, φd, h1.below hb, h2, h3.fr (Fr.of_below (S := fun _ => False) hb) (fun _ _ h => h), h4⟩
theorem WS.bel (h : WS w1 wr g n E G F vd ds) : Below w1.heap.size w1 wr := by
  obtain ⟨B, Φ, N, K, Y, φd, h1, h2, h3, h4⟩ := h
  exact h1.bel
theorem WO.congr (h : WO w1 wr g n E G F vd ds bo op) (hG : ∀ d, 1 ≤ d → d < n → G d = G' d ∧ F d = F' d) : WO w1 wr g n E G' F' vd ds bo op := by
  obtain ⟨B, Φ, N, K, Y, φd, h1, h2, h3⟩ := h
  exact ⟨B, Φ, N, K, Y, φd, h1, fun d hd1 hd2 => by rw [← (hG d hd1 hd2).1, ← (hG d hd1 hd2).2]; exact h2 d hd1 hd2, h3⟩
theorem WO.bel (h : WO w1 wr g n E G F vd ds bo op) : Below w1.heap.size w1 wr := by
  obtain ⟨B, Φ, N, K, Y, φd, h1, h2, h3⟩ := h
  exact h1.bel
theorem WO.below (h : WO w1 wr g n E G F vd ds bo op) (hb : Below wr.heap.size wr w') : WO w1 w' g n E G F vd ds bo op := by
  obtain ⟨B, Φ, N, K, Y, φd, h1, h2, h3, h4, h5, h6, h7⟩ := h
  exact ⟨B, Φ, N, K, Y, φd, h1.below hb, h2, h3.fr (Fr.of_below (S := fun _ => False) hb) (fun _ _ h => h), h4, (hb.block _ (block_lt h5)).trans h5, h6, h7⟩
/-- An operation is laid in a block. -/
theorem WS.lay (h : WS w1 wr g n E G F vd ds) (op : OpE) (hb : Below wr.heap.size wr w') (ho : w'.heap[wr.heap.size]? = some (.cells (opc op).toArray 69 (0, 0))) : WO w1 w' g n E G F vd ds wr.heap.size op := by
  obtain ⟨B, Φ, N, K, Y, φd, h1, h2, h3, h4⟩ := h
  exact ⟨B, Φ, N, K, Y, φd, h1.below hb, h2, h3.fr (Fr.of_below (S := fun _ => False) hb) (fun _ _ h => h), fun j hj => ⟨(h4 j hj).1, by have := h3.lt j hj; omega, (h4 j hj).2⟩, ho, fun c hc e => by have := h1.ltF hc e; omega, h1.bel.size⟩
theorem WO.drop (h : WO w1 wr g n E G F vd ds bo op) : WS w1 wr g n E G F vd ds := by
  obtain ⟨B, Φ, N, K, Y, φd, h1, h2, h3, h4, h5, h6, h7⟩ := h
  exact ⟨B, Φ, N, K, Y, φd, h1, h2, h3, fun j hj => ⟨(h4 j hj).1, (h4 j hj).2.2⟩⟩
/-- One done form more. -/
theorem WO.done (h : WO w1 wr g n E G F vd ds bo op) (x : OpE) (b : Nat) (hb : wr.heap[b]? = some (.cells (opc x).toArray 69 (0, 0))) (hn : ds.length ≤ 1000000) :
    ∃ a cc u', (∀ ty, (Builtin.append_ #[63, 63] ty #[vd, .slice (some ⟨b, 0, none⟩) 1 1]).run Tryz.prog wr = .ok (.slice a (ds.length + 1) cc) u') ∧ WO w1 u' g n E G F (.slice a (ds.length + 1) cc) (ds ++ [x]) bo op := by
  obtain ⟨B, Φ, N, K, Y, φd, h1, h2, h3, h4, h5, h6, h7⟩ := h
  obtain ⟨v', u', g', hr, hF', hN⟩ := h3.push x b hb hn
  obtain ⟨a, cc, hv', -⟩ := hF'.is
  simp only [List.length_append, List.length_cons, List.length_nil, Nat.zero_add] at hv'
  subst hv'
  have hF : Fr (fun j => φd = some j) wr u' := by
    rcases hN with ⟨a, b⟩ | ⟨a, b⟩
    · exact b.mono (fun j _ hj => by rw [hj]; exact a)
    · exact b.mono (fun j _ hj => hj.elim)
  refine ⟨a, cc, u', hr, B, Φ, N, K, Y, some g', h1.fr hF (fun j cs t hs hc => ?_) (fun c j hc hj hs => (h4 j hs).2.2 c hc hj) (fun j hs => (h4 j hs).1), h2, hF', fun j hj => ?_, hF.keeps h5 (fun hs => (h4 bo hs).2.1 rfl), h6, h7⟩
  · rw [hs] at h3
    obtain ⟨cs', hc'⟩ := h3.blk
    rw [hc] at hc'
    simp at hc'
    exact hc'.2
  · injection hj with hj
    subst hj
    rcases hN with ⟨e, -⟩ | ⟨e, -⟩
    · exact h4 _ e
    · subst e
      have := h1.bel.size
      have := block_lt h5
      exact ⟨by omega, by omega, fun c hc e => by have := h1.ltF hc e; omega⟩

/-- A walker has gone on. -/
theorem WS.went {B Φ N : Nat → Option Nat} {K : Nat → Wk} {Y : Nat → List PV} {φd : Option Nat} (h1 : WM w1 wr g n B Φ N E K Y) (h2 : ∀ d, 1 ≤ d → d < n → K d = G d ∧ (Y d).map PV.view = F d) (h3 : FO wr φd vd ds) (h4 : ∀ j, φd = some j → w1.heap.size ≤ j ∧ ∀ c, c < n → Φ c ≠ some j) (hc : c < n)
    {φ' ν' : Option Nat} {k' : Wk} {ps : List PV} {f : List Vw} (hW : WR w' g (c * 6) (B c) φ' ν' (E c) k' (Y c ++ ps)) (hF : Fr (fun j => j = g ∨ Φ c = some j ∨ N c = some j) wr w') (hO : Oth g (c * 6) wr w') (nf : ∀ j, φ' = some j → Φ c = some j ∨ wr.heap.size ≤ j) (nn : ∀ j, ν' = some j → N c = some j ∨ wr.heap.size ≤ j) (hf : ps.map PV.view = f) :
    WM w1 w' g n B (upd Φ c φ') (upd N c ν') E (upd K c k') (upd Y c (Y c ++ ps)) ∧ (∀ d, 1 ≤ d → d < n → upd K c k' d = upd G c k' d ∧ (upd Y c (Y c ++ ps) d).map PV.view = upd F c (F c ++ f) d) ∧ FO w' φd vd ds ∧ (∀ j, φd = some j → w1.heap.size ≤ j ∧ ∀ d, d < n → upd Φ c φ' d ≠ some j) := by
  refine ⟨h1.step hc hW hF hO nf nn, fun d hd1 hd2 => ?_, h3.fr hF (fun j hj hs => ?_), fun j hj => ⟨(h4 j hj).1, fun d hd' e => ?_⟩⟩
  · by_cases e : d = c
    · subst e
      rw [upd_same, upd_same, upd_same, upd_same, List.map_append, (h2 d hd1 hd2).2, hf]
      exact ⟨rfl, rfl⟩
    · rw [upd_ne _ _ e, upd_ne _ _ e, upd_ne _ _ e, upd_ne _ _ e]
      exact h2 d hd1 hd2
  · rcases hs with hs | hs | hs
    · rw [hj] at h3
      have := ty_ne h3.blk (hs ▸ h1.tyG)
      cases this
    · exact (h4 j hj).2 c hc hs
    · rw [hj] at h3
      have := ty_ne h3.blk (h1.tyN hc hs)
      cases this
  · by_cases e1 : d = c
    · subst e1
      rw [upd_same] at e
      rcases nf j e with h5 | h5
      · exact (h4 j hj).2 _ hc h5
      · have := h3.lt j hj
        omega
    · rw [upd_ne _ _ e1] at e
      exact (h4 j hj).2 d hd' e

theorem ws_told (h : WS w1 wr g n E G F vd ds) (h1c : 1 ≤ c) (hc : c < n) (hl : (F c).length ≤ 100000) : Calls Tryz.prog 55 #[.pointer (some ⟨g, c * 6, none⟩)] wr fun e w' => (∃ v, e = .returned v) ∧ WS w1 w' g n E (upd G c (G c)) (upd F c (F c ++ [(G c).view])) vd ds := by
  obtain ⟨B, Φ, N, K, Y, φd, h1, h2, h3, h4⟩ := h
  obtain ⟨e1, e2⟩ := h2 c h1c hc
  have hW := h1.wr c hc
  refine (told_any hW (by rw [← e2, List.length_map] at hl; omega)).mono ?_
  rintro e w' ⟨hv, ⟨ν', p, hp, hW', hν⟩, hF, hO⟩
  obtain ⟨z1, z2, z3, z4⟩ := WS.went h1 h2 h3 h4 hc (φ' := Φ c) (k' := K c) (ps := [p]) (f := [(G c).view]) hW' (hF.mono (fun j _ hj => hj.imp (fun h => h) (fun h => .inr h))) hO (fun j hj => .inl hj) hν (by simp [hp, e1])
  refine ⟨hv, _, _, _, _, _, φd, z1, ?_, z3, z4⟩
  rw [← e1]
  rw [← e1] at z2
  exact z2

theorem ws_make (h : WS w1 wr g n E G F vd ds) (h1c : 1 ≤ c) (hc : c < n) (hl : (F c).length ≤ 10000) (hg : GW (G c)) (kN : Nat) (hk : (G c).hav = kN) : Calls Tryz.prog 56 #[.pointer (some ⟨g, c * 6, none⟩), .int .i64 (kN : Int)] wr fun e w' => (∃ v, e = .returned v) ∧ WS w1 w' g n E (upd G c ((G c).all apE)) (upd F c (F c ++ mkV apE (kN : Int) (G c).still (G c))) vd ds := by
  obtain ⟨B, Φ, N, K, Y, φd, h1, h2, h3, h4⟩ := h
  obtain ⟨e1, e2⟩ := h2 c h1c hc
  have hW := h1.wr c hc
  rw [e1] at hW
  refine (make1_any hW hg (by rw [← e2, List.length_map] at hl; omega) kN hk).mono ?_
  rintro e w' ⟨hv, φ', ν', ps, hW', hv', hF, hO, nf, nn⟩
  obtain ⟨z1, z2, z3, z4⟩ := WS.went h1 h2 h3 h4 hc hW' hF hO nf nn hv'
  rw [hk] at z2
  exact ⟨hv, _, _, _, _, _, φd, z1, z2, z3, z4⟩

theorem wo_take (h : WO w1 wr g n E G F vd ds bo op) (h1c : 1 ≤ c) (hc : c < n) (hl : (F c).length ≤ 10000) (hg : GW (G c)) (hk : (G c).hav ≤ 4096) (own : Bool) (hne : own = true → (G c).forms ≠ []) : Calls Tryz.prog 57 #[.pointer (some ⟨g, c * 6, none⟩), op.val, .bool own] wr fun e w' => (∃ v, e = .returned v) ∧ WO w1 w' g n E (upd G c ((G c).take apE op own)) (upd F c (F c ++ [((G c).take apE op own).view])) vd ds bo op := by
  obtain ⟨B, Φ, N, K, Y, φd, h1, h2, h3, h4, h5, h6, h7⟩ := h
  obtain ⟨e1, e2⟩ := h2 c h1c hc
  have hW := h1.wr c hc
  rw [e1] at hW
  have hl' : (Y c).length ≤ 100000 := by rw [← e2, List.length_map] at hl; omega
  have fin : ∀ e w', ((∃ v, e = Ending.returned v) ∧ TkP wr g (c * 6) (B c) (Φ c) (N c) (E c) (G c) (Y c) op own w') → ((∃ v, e = Ending.returned v) ∧ WO w1 w' g n E (upd G c ((G c).take apE op own)) (upd F c (F c ++ [((G c).take apE op own).view])) vd ds bo op) := by
    rintro e w' ⟨hv, φ', ν', p, hp, hW', hF, hO, nf, nn⟩
    obtain ⟨z1, z2, z3, z4⟩ := WS.went h1 h2 h3 (fun j hj => ⟨(h4 j hj).1, (h4 j hj).2.2⟩) hc hW' hF hO nf nn (show [p].map PV.view = [((G c).take apE op own).view] by simp [hp])
    refine ⟨hv, _, _, _, _, _, φd, z1, z2, z3, fun j hj => ⟨(z4 j hj).1, (h4 j hj).2.1, (z4 j hj).2⟩, hF.keeps h5 (fun hs => ?_), fun d hd' e => ?_, h7⟩
    · rcases hs with hs | hs | hs
      · have := ty_ne ⟨_, h5⟩ (hs ▸ h1.tyG)
        cases this
      · exact h6 c hc hs
      · have := ty_ne ⟨_, h5⟩ (h1.tyN hc hs)
        cases this
    · by_cases e1 : d = c
      · subst e1
        rw [upd_same] at e
        rcases nf bo e with h8 | h8
        · exact h6 _ hc h8
        · have := block_lt h5
          omega
      · rw [upd_ne _ _ e1] at e
        exact h6 d hd' e
  cases own with
  | true =>
    cases hf : (G c).forms with
    | nil => exact absurd hf (hne rfl)
    | cons y fs => exact (take_own hW op hf hl' hk).mono fin
  | false => exact (take_other hW op hg hl' hk).mono fin

/-- The first form of the maker, to be read. -/
theorem WS.head (h : WS w1 wr g n E G F vd ds) (h1c : 1 ≤ c) (hc : c < n) {x : OpE} {l : List OpE} (hf : (G c).forms = x :: l) : ∃ gf off m cp, wr.cell? ⟨g, c * 6 + 2, none⟩ = some (.slice (some ⟨gf, off, none⟩) m cp) ∧ 0 < m ∧ m ≤ cp ∧ cp ≤ 9223372036854775807 ∧ gf < wr.heap.size ∧ g < wr.heap.size ∧
    wr.cell? ⟨gf, off, none⟩ = some (.int .i64 x.kind) ∧ wr.cell? ⟨gf, off + 1, none⟩ = some (.int .i64 x.pos) ∧ wr.cell? ⟨gf, off + 2, none⟩ = some (.int .u8 x.ch) ∧ wr.cell? ⟨gf, off + 3, none⟩ = some (.int .i64 x.cl) ∧ wr.cell? ⟨gf, off + 4, none⟩ = some (.int .i64 x.sq) := by
  obtain ⟨B, Φ, N, K, Y, φd, h1, h2, h3, h4⟩ := h
  obtain ⟨e1, e2⟩ := h2 c h1c hc
  have hW := h1.wr c hc
  rw [e1] at hW
  obtain ⟨vE, vT, vF, vW, -, -, hO, -, -, -, d2, -⟩ := hW.cells
  obtain ⟨aF, cp, rfl, -⟩ := hO.is
  rw [hf] at hO d2
  obtain ⟨gf, off, rfl, m1, m2, m3, m4, q⟩ := hO.head
  exact ⟨gf, off, _, cp, d2, by simp, by simpa using m2, m3, m4, h1.lt, q⟩
end

end Go.Proofs.YtfhghijefjhehaaGreatDoor

/-! Pn -/
namespace Go.Proofs.YtfhghijefjhehaaGreatDoor
open Go.RowKit
set_option linter.unusedVariables false

theorem dd_skip {evs : List Ev} {D : Nat → List El} {q : Nat} {e : Ev} (he : evs[q]? = some e) (hz : zoB e.o = true) (c : Int) : ddAt evs D (q + 1) c = ddAt evs D q c := by
  simp [ddAt, he, hz]
theorem dd_same {evs : List Ev} {D : Nat → List El} {q : Nat} {e : Ev} (he : evs[q]? = some e) (hz : zoB e.o = false) : ddAt evs D (q + 1) e.site = ddAt evs D q e.site ++ [mkD (pvD evs D q e.site) e] := by
  simp [ddAt, he, hz]
theorem dd_other {evs : List Ev} {D : Nat → List El} {q : Nat} {e : Ev} (he : evs[q]? = some e) {c : Int} (hc : e.site ≠ c) : ddAt evs D (q + 1) c = ddAt evs D q c := by
  simp [ddAt, he, hc]
theorem dd_mono (evs : List Ev) (D : Nat → List El) (c : Int) : ∀ {q m : Nat}, q ≤ m → (ddAt evs D q c).length ≤ (ddAt evs D m c).length
  | q, 0, h => by
    obtain rfl : q = 0 := by omega
    exact Nat.le_refl _
  | q, m + 1, h => by
    by_cases e : q = m + 1
    · subst e; exact Nat.le_refl _
    · have := dd_mono evs D c (q := q) (m := m) (by omega)
      simp only [ddAt, List.length_append]
      omega

/-- Ahead of event q: the edits so far. -/
def W1 (w1 wr : World) (g n : Nat) (evs : List Ev) (D : Nat → List El) (q : Nat) : Prop := ∃ B, WM w1 wr g n B (fun _ => none) (fun _ => none) (fun c => (ddAt evs D q (c : Int)).map (·.e)) (fun c => wk0 (ddAt evs D q (c : Int))) (fun _ => [])
theorem W1.begin {w1 u : World} {g n : Nat} {evs : List Ev} {D : Nat → List El} {cur : List Value} (hr : u.heap[g]? = some (.cells cur.toArray 84 (0, 0))) (hc : cur = (madeCells zW (n * 6)).toList) (hb : Below w1.heap.size w1 u) (hg : w1.heap.size ≤ g) : W1 w1 u g n evs D 0 := ⟨_, WM.begin hr hc hb hg⟩
theorem W1.below {w1 wr w' : World} {g n q : Nat} {evs : List Ev} {D : Nat → List El} (h : W1 w1 wr g n evs D q) (hb : Below wr.heap.size wr w') : W1 w1 w' g n evs D q := by
  obtain ⟨B, h⟩ := h
  exact ⟨B, h.below hb⟩
theorem W1.bel {w1 wr : World} {g n q : Nat} {evs : List Ev} {D : Nat → List El} (h : W1 w1 wr g n evs D q) : Below w1.heap.size w1 wr := by
  obtain ⟨B, h⟩ := h
  exact h.bel
theorem W1.skip {w1 wr : World} {g n q : Nat} {evs : List Ev} {D : Nat → List El} {e : Ev} (h : W1 w1 wr g n evs D q) (he : evs[q]? = some e) (hz : zoB e.o = true) : W1 w1 wr g n evs D (q + 1) := by
  obtain ⟨B, h⟩ := h
  refine ⟨B, ?_⟩
  simp only [dd_skip he hz]
  exact h
/-- What is known behind the append. -/
def PW (w1 : World) (g n c be : Nat) (evs : List Ev) (D : Nat → List El) (q : Nat) (oa : Option Addr) (on oc : Nat) (eh ek ep ec el es : Int) (v : Value) (u : World) : Prop :=
  (∃ A m c, v = Value.slice A m c) ∧ u.frozen? ⟨g, c * 6, none⟩ = false ∧ (u.cell? ⟨be, 1, none⟩ = some (.int .i64 (c : Int)) ∧ u.cell? ⟨g, c * 6, none⟩ = some (.slice oa on oc) ∧ u.cell? ⟨be, 2, none⟩ = some (.int .i64 eh) ∧ u.cell? ⟨be, 4, none⟩ = some (.int .i64 ek) ∧ u.cell? ⟨be, 5, none⟩ = some (.int .i64 ep) ∧ u.cell? ⟨be, 6, none⟩ = some (.int .u8 ec) ∧ u.cell? ⟨be, 7, none⟩ = some (.int .i64 el) ∧ u.cell? ⟨be, 8, none⟩ = some (.int .i64 es)) ∧ W1 w1 (u.setCell ⟨g, c * 6, none⟩ v) g n evs D (q + 1)
theorem W1.edit {w1 u : World} {g n q c be b : Nat} {evs : List Ev} {D : Nat → List El} {e : Ev} {oa : Option Addr} {on oc : Nat} {cs : Array Value} (h : W1 w1 u g n evs D q) (he : evs[q]? = some e) (hz : zoB e.o = false) (hs : e.site = (c : Int)) (hc : c < n) (hn : (ddAt evs D q (c : Int)).length ≤ 1000000)
    (hbe : u.heap[be]? = some (.cells cs 76 (0, 0))) (hcs : cs[1]? = some (.int .i64 (c : Int)) ∧ cs[2]? = some (.int .i64 e.hav) ∧ cs[4]? = some (.int .i64 e.o.kind) ∧ cs[5]? = some (.int .i64 e.o.pos) ∧ cs[6]? = some (.int .u8 e.o.ch) ∧ cs[7]? = some (.int .i64 e.o.cl) ∧ cs[8]? = some (.int .i64 e.o.sq))
    (hv : u.cell? ⟨g, c * 6, none⟩ = some (.slice oa on oc)) (hb : u.heap[b]? = some (.cells (edc ⟨e.hav, e.o⟩).toArray 74 (0, 0))) :
    ∃ v' u', (∀ ty, (Builtin.append_ #[22, 22] ty #[.slice oa on oc, .slice (some ⟨b, 0, none⟩) 1 1]).run Tryz.prog u = .ok v' u') ∧ PW w1 g n c be evs D q oa on oc e.hav e.o.kind e.o.pos e.o.ch e.o.cl e.o.sq v' u' := by
  obtain ⟨B, h⟩ := h
  obtain ⟨a, cc, u', hr, hF, h1, h2, B', h3⟩ := h.edit hc rfl hv ⟨e.hav, e.o⟩ b hb (by simpa using hn)
  have hbe' := hF.keeps hbe (fun hs => by have := ty_ne ⟨_, hbe⟩ (h.tyB hc hs); cases this)
  refine ⟨_, u', hr, ⟨_, _, _, rfl⟩, h2, ⟨(cell_row hbe' _).trans hcs.1, h1, (cell_row hbe' _).trans hcs.2.1, (cell_row hbe' _).trans hcs.2.2.1, (cell_row hbe' _).trans hcs.2.2.2.1, (cell_row hbe' _).trans hcs.2.2.2.2.1, (cell_row hbe' _).trans hcs.2.2.2.2.2.1, (cell_row hbe' _).trans hcs.2.2.2.2.2.2⟩, B', ?_⟩
  have e1 : ddAt evs D (q + 1) (c : Int) = ddAt evs D q (c : Int) ++ [mkD (pvD evs D q (c : Int)) e] := by rw [← hs]; exact dd_same he hz
  have eE : upd (fun c : Nat => (ddAt evs D q (c : Int)).map (·.e)) c ((ddAt evs D q (c : Int)).map (·.e) ++ [⟨e.hav, e.o⟩]) = fun c : Nat => (ddAt evs D (q + 1) (c : Int)).map (·.e) := by
    funext d
    by_cases ed : d = c
    · subst ed
      rw [upd_same, e1]
      simp [mkD]
    · rw [upd_ne _ _ ed, dd_other he (by rw [hs]; omega)]
  have eK : upd (fun c : Nat => wk0 (ddAt evs D q (c : Int))) c ⟨(ddAt evs D q (c : Int)).map (·.e) ++ [⟨e.hav, e.o⟩], [], [], 0, 0⟩ = fun c : Nat => wk0 (ddAt evs D (q + 1) (c : Int)) := by
    funext d
    by_cases ed : d = c
    · subst ed
      rw [upd_same, e1]
      simp [mkD, wk0]
    · rw [upd_ne _ _ ed, dd_other he (by rw [hs]; omega)]
  rw [← eE, ← eK]
  exact h3
theorem W1.cell {w1 u : World} {g n q c : Nat} {evs : List Ev} {D : Nat → List El} (h : W1 w1 u g n evs D q) (hc : c < n) : (∃ oa oc, u.cell? ⟨g, c * 6, none⟩ = some (.slice oa (ddAt evs D q (c : Int)).length oc)) ∧ g < u.heap.size := by
  obtain ⟨B, h⟩ := h
  obtain ⟨vE, vT, vF, vW, hE, hT, hO, hW, c0, -⟩ := (h.wr c hc).cells
  obtain ⟨a, cc, rfl, -⟩ := hE.form
  simp only [List.length_map] at c0
  exact ⟨⟨a, cc, c0⟩, h.lt⟩
/-- All edits are there: nothing told yet. -/
theorem W1.all {w1 u : World} {g n : Nat} {evs : List Ev} {D : Nat → List El} {log : List Ed} (h : W1 w1 u g n evs D evs.length) : WS w1 u g n (edW evs D) (fun d => (stW apE log (edW evs D) 0).1 d) (fun _ => []) (.slice none 0 0) [] := by
  obtain ⟨B, h⟩ := h
  exact ⟨B, _, _, _, _, none, h, fun d _ _ => ⟨rfl, rfl⟩, ⟨rfl, rfl⟩, fun j hj => (by cases hj)⟩

/-- Ahead of record k. -/
def WL (w1 wr : World) (g C nL : Nat) (log : List Ed) (E : Nat → List Ed) (k : Nat) (vd : Value) : Prop :=
  (k ≤ nL → WS w1 wr g (C + 1) E (fun d => (stW apE log E k).1 d) (fun d => wayD apE log E d k) vd (stW apE log E k).2) ∧
  (k = nL + 1 → WS w1 wr g (C + 1) E (fun d => ((stW apE log E nL).1 d).all apE) (fun d => wayD apE log E d nL ++ mkV apE (nL : Int) ((stW apE log E nL).1 d).still ((stW apE log E nL).1 d)) vd (stW apE log E nL).2)
theorem WL.bel {w1 wr : World} {g C nL k : Nat} {log : List Ed} {E : Nat → List Ed} {vd : Value} (h : WL w1 wr g C nL log E k vd) (hk : k ≤ nL + 1) : Below w1.heap.size w1 wr := by
  by_cases e : k ≤ nL
  · exact (h.1 e).bel
  · exact (h.2 (by omega)).bel
theorem WS.slice {w1 wr : World} {g n : Nat} {E : Nat → List Ed} {G : Nat → Wk} {F : Nat → List Vw} {vd : Value} {ds : List OpE} (h : WS w1 wr g n E G F vd ds) : ∃ a c, vd = .slice a ds.length c := by
  obtain ⟨B, Φ, N, K, Y, φd, h1, h2, h3, h4⟩ := h
  obtain ⟨a, c, e, -⟩ := h3.is
  exact ⟨a, c, e⟩
theorem WL.form {w1 wr : World} {g C nL k : Nat} {log : List Ed} {E : Nat → List Ed} {vd : Value} (h : WL w1 wr g C nL log E k vd) (hk : k ≤ nL + 1) : ∃ a c m, vd = .slice a m c := by
  by_cases e : k ≤ nL
  · obtain ⟨a, c, e⟩ := (h.1 e).slice
    exact ⟨a, c, _, e⟩
  · obtain ⟨a, c, e⟩ := (h.2 (by omega)).slice
    exact ⟨a, c, _, e⟩

def GA (log : List Ed) (E : Nat → List Ed) (k m : Nat) : Nat → Wk := fun d => if d < m then ((stW apE log E k).1 d).all apE else (stW apE log E k).1 d
def FA (log : List Ed) (E : Nat → List Ed) (k m : Nat) : Nat → List Vw := fun d => if d < m then wayD apE log E d k ++ mkV apE (k : Int) ((stW apE log E k).1 d).still ((stW apE log E k).1 d) else wayD apE log E d k
def GT (log : List Ed) (E : Nat → List Ed) (k m : Nat) : Nat → Wk := fun d => if d < m then (stW apE log E (k + 1)).1 d else ((stW apE log E k).1 d).all apE
def FT (log : List Ed) (E : Nat → List Ed) (k m : Nat) : Nat → List Vw := fun d => if d < m then wayD apE log E d (k + 1) else wayD apE log E d k ++ mkV apE (k : Int) ((stW apE log E k).1 d).still ((stW apE log E k).1 d)
/-- Among the walkers at record k: those below m have made their edits. -/
def WA (w1 wr : World) (g C : Nat) (log : List Ed) (E : Nat → List Ed) (k m : Nat) (vd : Value) : Prop :=
  WS w1 wr g (C + 1) E (GA log E k m) (FA log E k m) vd (stW apE log E k).2
/-- Among the walkers at record k: those below m have taken it in. -/
def WT (w1 wr : World) (g C : Nat) (log : List Ed) (E : Nat → List Ed) (k m : Nat) (vd : Value) (ds : List OpE) (bo : Nat) : Prop :=
  WO w1 wr g (C + 1) E (GT log E k m) (FT log E k m) vd ds bo (opK apE log E k)
theorem mkV_len {ap : List El → OpE → List El} (k : Int) : ∀ (l : List Ed) (w : Wk), (mkV ap k l w).length ≤ l.length
  | [], w => Nat.le_refl _
  | x :: l, w => by
    unfold mkV
    split
    · have := mkV_len (ap := ap) k l (w.mk1 ap)
      simp only [List.length_cons]
      omega
    · simp
section
variable {w1 wr w' : World} {g C nL k m bo nI : Nat} {log : List Ed} {E : Nat → List Ed} {vd : Value} {ds : List OpE}
theorem WA.start (h : WL w1 wr g C nL log E k vd) (hk : k ≤ nL) : WA w1 wr g C log E k 1 vd :=
  (h.1 hk).congr (fun d hd1 hd2 => by unfold GA FA; rw [if_neg (by omega), if_neg (by omega)]; exact ⟨rfl, rfl⟩)
theorem WA.bel (h : WA w1 wr g C log E k m vd) : Below w1.heap.size w1 wr := WS.bel h
theorem WA.make (h : WA w1 wr g C log E k m vd) (hP : PF C log E) (hk : k ≤ log.length) (hm1 : 1 ≤ m) (hm : m ≤ C) (hl : (wayD apE log E m k).length ≤ 5000) : Calls Tryz.prog 56 #[.pointer (some ⟨g, m * 6, none⟩), .int .i64 (k : Int)] wr fun e w' => (∃ v, e = .returned v) ∧ WA w1 w' g C log E k (m + 1) vd := by
  have c1 : (GA log E k m) m = (stW apE log E k).1 m := by unfold GA; exact if_neg (by omega)
  have c2 : (FA log E k m) m = wayD apE log E m k := by unfold FA; exact if_neg (by omega)
  refine (ws_make h hm1 (by omega) (by rw [c2]; omega) (by rw [c1]; exact hP.gw k m) k (by rw [c1]; exact hP.hav k m hk)).mono ?_
  rintro e w' ⟨hv, h2⟩
  refine ⟨hv, h2.congr (fun d hd1 hd2 => ?_)⟩
  rw [c1, c2]
  by_cases e : d = m
  · subst e
    rw [upd_same, upd_same]
    unfold GA FA
    rw [if_pos (by omega), if_pos (by omega)]
    exact ⟨rfl, rfl⟩
  · rw [upd_ne _ _ e, upd_ne _ _ e]
    unfold GA FA
    by_cases h : d < m
    · rw [if_pos h, if_pos (show d < m + 1 by omega), if_pos h, if_pos (show d < m + 1 by omega)]
      exact ⟨rfl, rfl⟩
    · rw [if_neg h, if_neg (show ¬ d < m + 1 by omega), if_neg h, if_neg (show ¬ d < m + 1 by omega)]
      exact ⟨rfl, rfl⟩
theorem WA.out (h : WA w1 wr g C log E k (C + 1) vd) : WS w1 wr g (C + 1) E (fun d => ((stW apE log E k).1 d).all apE) (fun d => wayD apE log E d k ++ mkV apE (k : Int) ((stW apE log E k).1 d).still ((stW apE log E k).1 d)) vd (stW apE log E k).2 :=
  WS.congr h (fun d hd1 hd2 => by unfold GA FA; rw [if_pos hd2, if_pos hd2]; exact ⟨rfl, rfl⟩)
theorem WA.last (h : WA w1 wr g C log E nL (C + 1) vd) : WL w1 wr g C nL log E (nL + 1) vd :=
  ⟨fun e => by omega, fun _ => h.out⟩
/-- The operation of the record is laid in a block. -/
theorem WA.lay (h : WA w1 wr g C log E k (C + 1) vd) (hb : Below wr.heap.size wr w') (ho : w'.heap[wr.heap.size]? = some (.cells (opc (opK apE log E k)).toArray 69 (0, 0))) : WT w1 w' g C log E k 1 vd (stW apE log E k).2 wr.heap.size :=
  (h.out.lay (opK apE log E k) hb ho).congr (fun d hd1 hd2 => by unfold GT FT; rw [if_neg (by omega), if_neg (by omega)]; exact ⟨rfl, rfl⟩)
theorem WA.head (h : WA w1 wr g C log E k (C + 1) vd) (hP : PF C log E) (hk : k < log.length) (hn : log[k].o.cl = (nI : Int)) : ∃ gf off m cp, wr.cell? ⟨g, nI * 6 + 2, none⟩ = some (.slice (some ⟨gf, off, none⟩) m cp) ∧ 0 < m ∧ m ≤ cp ∧ cp ≤ 9223372036854775807 ∧ gf < wr.heap.size ∧ g < wr.heap.size ∧
    wr.cell? ⟨gf, off, none⟩ = some (.int .i64 (opK apE log E k).kind) ∧ wr.cell? ⟨gf, off + 1, none⟩ = some (.int .i64 (opK apE log E k).pos) ∧ wr.cell? ⟨gf, off + 2, none⟩ = some (.int .u8 (opK apE log E k).ch) ∧ wr.cell? ⟨gf, off + 3, none⟩ = some (.int .i64 (opK apE log E k).cl) ∧ wr.cell? ⟨gf, off + 4, none⟩ = some (.int .i64 (opK apE log E k).sq) := by
  obtain ⟨o1, l, o2⟩ := hP.op k hk
  have hc := hP.cl k hk
  have e2 : log[k].o.cl.toNat = nI := by omega
  rw [e2] at o2
  exact h.out.head (by omega) (by omega) o2
theorem WT.bel (h : WT w1 wr g C log E k m vd ds bo) : Below w1.heap.size w1 wr := WO.bel h
theorem WT.blk (h : WT w1 wr g C log E k m vd ds bo) : wr.heap[bo]? = some (.cells (opc (opK apE log E k)).toArray 69 (0, 0)) := by
  obtain ⟨B, Φ, N, K, Y, φd, h1, h2, h3, h4, h5, h6⟩ := h
  exact h5
theorem WT.take (h : WT w1 wr g C log E k m vd ds bo) (hP : PF C log E) (hk : k < log.length) (hk' : k ≤ 4095) (hn : log[k].o.cl = (nI : Int)) (hm1 : 1 ≤ m) (hm : m ≤ C) (hl : (wayD apE log E m k).length ≤ 5000) (own : Bool) (ho : own = (m == nI)) : Calls Tryz.prog 57 #[.pointer (some ⟨g, m * 6, none⟩), (opK apE log E k).val, .bool own] wr fun e w' => (∃ v, e = .returned v) ∧ WT w1 w' g C log E k (m + 1) vd ds bo := by
  have c1 : (GT log E k m) m = ((stW apE log E k).1 m).all apE := by unfold GT; exact if_neg (by omega)
  have c2 : (FT log E k m) m = wayD apE log E m k ++ mkV apE (k : Int) ((stW apE log E k).1 m).still ((stW apE log E k).1 m) := by unfold FT; exact if_neg (by omega)
  have e2 : log[k].o.cl.toNat = nI := by omega
  have es : (stW apE log E (k + 1)).1 m = (((stW apE log E k).1 m).all apE).take apE (opK apE log E k) own := by rw [stW_succ hk, ho, e2]
  have hmk := mkV_len (ap := apE) (k : Int) ((stW apE log E k).1 m).still ((stW apE log E k).1 m)
  have hgw := (hP.gw k m).n
  refine (wo_take h hm1 (by omega) (by rw [c2, List.length_append]; omega) (by rw [c1]; exact (hP.gw k m).all) (by rw [c1, all_hav, hP.hav k m (Nat.le_of_lt hk)]; omega) own (fun e => ?_)).mono ?_
  · rw [c1]
    obtain ⟨o1, l, o2⟩ := hP.op k hk
    rw [e2] at o2
    have e3 : m = nI := by rw [ho] at e; simpa using e
    rw [e3, o2]
    simp
  rintro e w' ⟨hv, h2⟩
  refine ⟨hv, h2.congr (fun d hd1 hd2 => ?_)⟩
  rw [c1, c2, ← es]
  by_cases e : d = m
  · subst e
    rw [upd_same, upd_same]
    unfold GT FT
    rw [if_pos (by omega), if_pos (by omega)]
    exact ⟨rfl, rfl⟩
  · rw [upd_ne _ _ e, upd_ne _ _ e]
    unfold GT FT
    by_cases h : d < m
    · rw [if_pos h, if_pos (show d < m + 1 by omega), if_pos h, if_pos (show d < m + 1 by omega)]
      exact ⟨rfl, rfl⟩
    · rw [if_neg h, if_neg (show ¬ d < m + 1 by omega), if_neg h, if_neg (show ¬ d < m + 1 by omega)]
      exact ⟨rfl, rfl⟩
theorem WT.done (h : WT w1 wr g C log E k 1 vd (stW apE log E k).2 bo) (hP : PF C log E) (hk : k < log.length) (hk' : k ≤ 4095) (hb : Below wr.heap.size wr w') (b : Nat) (hx : w'.heap[b]? = some (.cells (opc (opK apE log E k)).toArray 69 (0, 0))) :
    ∃ a cc u', (∀ ty, (Builtin.append_ #[63, 63] ty #[vd, .slice (some ⟨b, 0, none⟩) 1 1]).run Tryz.prog w' = .ok (.slice a (k + 1) cc) u') ∧ WT w1 u' g C log E k 1 (.slice a (k + 1) cc) (stW apE log E (k + 1)).2 bo := by
  have hl := hP.len k (Nat.le_of_lt hk)
  obtain ⟨a, cc, u', h1, h2⟩ := (WO.below h hb).done (opK apE log E k) b hx (by omega)
  rw [hl] at h1 h2
  refine ⟨a, cc, u', h1, ?_⟩
  rw [stW_succ hk]
  exact h2
theorem WT.fin (h : WT w1 wr g C log E k (C + 1) vd (stW apE log E (k + 1)).2 bo) (hk : k < nL) : WL w1 wr g C nL log E (k + 1) vd :=
  ⟨fun _ => (WO.drop h).congr (fun d hd1 hd2 => by unfold GT FT; rw [if_pos hd2, if_pos hd2]; exact ⟨rfl, rfl⟩), fun e => by omega⟩
/-- Seen from an earlier world. -/
theorem WS.base {w : World} {n : Nat} {G : Nat → Wk} {F : Nat → List Vw} (h : WS w1 wr g n E G F vd ds) (hb : Below w.heap.size w w1) : WS w wr g n E G F vd ds := by
  obtain ⟨B, Φ, N, K, Y, φd, h1, h2, h3, h4⟩ := h
  have := hb.size
  exact ⟨B, Φ, N, K, Y, φd, ⟨h1.blk, h1.wr, h1.fi, h1.ni, h1.bi, hb.trans (h1.bel.mono hb.size), by have := h1.lg; omega, fun c j hc hj => by have := h1.lo c j hc hj; omega⟩, h2, h3, fun j hj => ⟨by have := (h4 j hj).1; omega, (h4 j hj).2⟩⟩
end

end Go.Proofs.YtfhghijefjhehaaGreatDoor
