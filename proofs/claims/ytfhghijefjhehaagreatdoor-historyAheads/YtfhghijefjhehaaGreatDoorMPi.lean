/-
  Texts put together: Pi Pj.
-/
import Derived.Test.YtfhghijefjhehaaGreatDoorPb
import Derived.Test.YtfhghijefjhehaaGreatDoorMHg
/-! Pi -/
namespace Go.Proofs.YtfhghijefjhehaaGreatDoor
open Go.RowKit
set_option linter.unusedVariables false

section
variable {w w' : World} {g o o' : Nat} {β φ ν : Option Nat} {es : List Ed} {k : Wk} {way : List PV}
/-- Another walker of the block goes on. -/
theorem WR.move {S : Nat → Prop} (h : WR w g o β φ ν es k way) (hO : Oth g o' w w') (ho : o + 6 ≤ o' ∨ o' + 6 ≤ o) (hF : Fr S w w') (hS : ∀ j cs t, S j → w.heap[j]? = some (.cells cs t (0, 0)) → t ≠ 42) (hβ : ∀ j, β = some j → ¬ S j) (hφ : ∀ j, φ = some j → ¬ S j) (hν : ∀ j, ν = some j → ¬ S j) : WR w' g o β φ ν es k way := by
  obtain ⟨cur, vE, vT, vF, vW, h1, h2, c0, c1, c2, c3, c4, c5, hE, ⟨βt, hT⟩, hO', hW⟩ := h.blk
  obtain ⟨cur', k1, k2, k3⟩ := hO cur h1
  have tell : ∀ {β : Option Nat} {v : Value} {t : List El}, SE w β v t → SE w' β v t := fun {β v t} hs => hs.fr hF (fun g hg hs' => by
    subst hg
    obtain ⟨cs, hc⟩ := hs.blk
    exact hS _ _ _ hs' hc rfl)
  refine ⟨⟨cur', vE, vT, vF, vW, k1, by omega, (k3 _ (by omega)).trans c0, (k3 _ (by omega)).trans c1, (k3 _ (by omega)).trans c2, (k3 _ (by omega)).trans c3, (k3 _ (by omega)).trans c4, (k3 _ (by omega)).trans c5, hE.fr hF hβ, ⟨βt, tell hT⟩, hO'.fr hF hφ, hW.fr hF hν⟩, fun p hp => ?_, h.st, h.le⟩
  obtain ⟨β', hs⟩ := h.docs p hp
  exact ⟨β', tell hs⟩
end

/-- The walkers of the block g. -/
structure WM (w0 w : World) (g n : Nat) (B Φ N : Nat → Option Nat) (E : Nat → List Ed) (K : Nat → Wk) (Y : Nat → List PV) : Prop where
  blk : ∃ cur : Array Value, w.heap[g]? = some (.cells cur 84 (0, 0)) ∧ cur.size = n * 6
  wr : ∀ c, c < n → WR w g (c * 6) (B c) (Φ c) (N c) (E c) (K c) (Y c)
  fi : ∀ c d j, c < n → d < n → Φ c = some j → Φ d = some j → c = d
  ni : ∀ c d j, c < n → d < n → N c = some j → N d = some j → c = d
  bi : ∀ c d j, c < n → d < n → B c = some j → B d = some j → c = d
  bel : Below w0.heap.size w0 w
  lg : w0.heap.size ≤ g
  lo : ∀ c j, c < n → Φ c = some j ∨ N c = some j ∨ B c = some j → w0.heap.size ≤ j

section
variable {w0 w w' : World} {g n : Nat} {B Φ N : Nat → Option Nat} {E : Nat → List Ed} {K : Nat → Wk} {Y : Nat → List PV}
theorem WM.tyF (h : WM w0 w g n B Φ N E K Y) {c j : Nat} (hc : c < n) (hj : Φ c = some j) : ∃ cs, w.heap[j]? = some (.cells cs 69 (0, 0)) := by
  obtain ⟨vE, vT, vF, vW, hE, hT, hO, hW, -⟩ := (h.wr c hc).cells
  rw [hj] at hO
  exact hO.blk
theorem WM.tyN (h : WM w0 w g n B Φ N E K Y) {c j : Nat} (hc : c < n) (hj : N c = some j) : ∃ cs, w.heap[j]? = some (.cells cs 72 (0, 0)) := by
  obtain ⟨vE, vT, vF, vW, hE, hT, hO, hW, -⟩ := (h.wr c hc).cells
  rw [hj] at hW
  obtain ⟨cs, hc⟩ := SF.blk hW
  exact ⟨_, hc⟩
theorem WM.tyB (h : WM w0 w g n B Φ N E K Y) {c j : Nat} (hc : c < n) (hj : B c = some j) : ∃ cs, w.heap[j]? = some (.cells cs 74 (0, 0)) := by
  obtain ⟨vE, vT, vF, vW, hE, hT, hO, hW, -⟩ := (h.wr c hc).cells
  rw [hj] at hE
  obtain ⟨cs, hc⟩ := SF.blk hE
  exact ⟨_, hc⟩
theorem ty_ne {w : World} {j : Nat} {s t : TypeId} (h : ∃ cs, w.heap[j]? = some (.cells cs s (0, 0))) (h' : ∃ cs, w.heap[j]? = some (.cells cs t (0, 0))) : s = t := by
  obtain ⟨cs, h⟩ := h
  obtain ⟨cs', h'⟩ := h'
  rw [h] at h'
  simp at h'
  exact h'.2
theorem WM.tyG (h : WM w0 w g n B Φ N E K Y) : ∃ cs, w.heap[g]? = some (.cells cs 84 (0, 0)) := by
  obtain ⟨cur, h1, -⟩ := h.blk
  exact ⟨cur, h1⟩
theorem WM.lt (h : WM w0 w g n B Φ N E K Y) : g < w.heap.size := by
  obtain ⟨cur, h1, -⟩ := h.blk
  exact block_lt h1
theorem WM.ltF (h : WM w0 w g n B Φ N E K Y) {c j : Nat} (hc : c < n) (hj : Φ c = some j) : j < w.heap.size := by
  obtain ⟨cs, h1⟩ := h.tyF hc hj
  exact block_lt h1
theorem WM.below (h : WM w0 w g n B Φ N E K Y) (hb : Below w.heap.size w w') : WM w0 w' g n B Φ N E K Y := by
  obtain ⟨cur, h1, h2⟩ := h.blk
  exact ⟨⟨cur, (hb.block _ (block_lt h1)).trans h1, h2⟩, fun c hc => (h.wr c hc).below hb, h.fi, h.ni, h.bi, h.bel.trans (hb.mono h.bel.size), h.lg, h.lo⟩
/-- What touches operations that are no walker's. -/
theorem WM.fr {S : Nat → Prop} (h : WM w0 w g n B Φ N E K Y) (hF : Fr S w w') (hS : ∀ j cs t, S j → w.heap[j]? = some (.cells cs t (0, 0)) → t = 69) (hφ : ∀ c j, c < n → Φ c = some j → ¬ S j) (hlo : ∀ j, S j → w0.heap.size ≤ j) : WM w0 w' g n B Φ N E K Y := by
  obtain ⟨cur, h1, h2⟩ := h.blk
  refine ⟨⟨cur, hF.keeps h1 (fun hs => by have := hS _ _ _ hs h1; cases this), h2⟩, fun c hc => (h.wr c hc).fr hF (fun j cs t hs hc => ?_) (fun j hj => hφ c j hc hj) (fun j hj hs => ?_), h.fi, h.ni, h.bi, h.bel.trans (hF.below h.bel.size hlo), h.lg, h.lo⟩
  · rw [hS j cs t hs hc]
    exact ⟨by decide, by decide, by decide⟩
  · obtain ⟨cs, hcs⟩ := h.tyN hc hj
    have := hS _ _ _ hs hcs
    cases this

/-- One walker goes on. -/
theorem WM.step (h : WM w0 w g n B Φ N E K Y) {c : Nat} (hc : c < n) {φ' ν' : Option Nat} {k' : Wk} {way' : List PV} (hW : WR w' g (c * 6) (B c) φ' ν' (E c) k' way') (hF : Fr (fun j => j = g ∨ Φ c = some j ∨ N c = some j) w w') (hO : Oth g (c * 6) w w') (nf : ∀ j, φ' = some j → Φ c = some j ∨ w.heap.size ≤ j) (nn : ∀ j, ν' = some j → N c = some j ∨ w.heap.size ≤ j) :
    WM w0 w' g n B (upd Φ c φ') (upd N c ν') E (upd K c k') (upd Y c way') := by
  obtain ⟨cur, h1, h2⟩ := h.blk
  obtain ⟨cur', k1, k2, k3⟩ := hO cur h1
  have hSlo : ∀ j, (j = g ∨ Φ c = some j ∨ N c = some j) → w0.heap.size ≤ j := fun j hj => by
    rcases hj with rfl | hj | hj
    · exact h.lg
    · exact h.lo c j hc (.inl hj)
    · exact h.lo c j hc (.inr (.inl hj))
  refine ⟨⟨cur', k1, by omega⟩, fun d hd' => ?_, fun d e j hd' he h3 h4 => ?_, fun d e j hd' he h3 h4 => ?_, h.bi, h.bel.trans (hF.below h.bel.size hSlo), h.lg, fun d j hd' h3 => ?_⟩
  · by_cases e : d = c
    · subst e
      rw [upd_same, upd_same, upd_same, upd_same]
      exact hW
    · rw [upd_ne _ _ e, upd_ne _ _ e, upd_ne _ _ e, upd_ne _ _ e]
      refine (h.wr d hd').move hO (by omega) hF (fun j cs t hs hc' => ?_) (fun j hj hs => ?_) (fun j hj hs => ?_) (fun j hj hs => ?_)
      · rcases hs with rfl | hs | hs
        · have := ty_ne h.tyG ⟨cs, hc'⟩; subst this; decide
        · have := ty_ne (h.tyF hc hs) ⟨cs, hc'⟩; subst this; decide
        · have := ty_ne (h.tyN hc hs) ⟨cs, hc'⟩; subst this; decide
      · have hb := h.tyB hd' hj
        rcases hs with rfl | hs | hs
        · have := ty_ne hb h.tyG; cases this
        · have := ty_ne hb (h.tyF hc hs); cases this
        · have := ty_ne hb (h.tyN hc hs); cases this
      · rcases hs with rfl | hs | hs
        · have := ty_ne (h.tyF hd' hj) h.tyG; cases this
        · exact e (h.fi d c j hd' hc hj hs)
        · have := ty_ne (h.tyF hd' hj) (h.tyN hc hs); cases this
      · rcases hs with rfl | hs | hs
        · have := ty_ne (h.tyN hd' hj) h.tyG; cases this
        · have := ty_ne (h.tyN hd' hj) (h.tyF hc hs); cases this
        · exact e (h.ni d c j hd' hc hj hs)
  · by_cases e1 : d = c
    · by_cases e2 : e = c
      · omega
      · subst e1
        rw [upd_same] at h3
        rw [upd_ne _ _ e2] at h4
        rcases nf j h3 with h5 | h5
        · exact h.fi _ _ j hd' he h5 h4
        · have := h.ltF he h4; omega
    · by_cases e2 : e = c
      · subst e2
        rw [upd_same] at h4
        rw [upd_ne _ _ e1] at h3
        rcases nf j h4 with h5 | h5
        · exact h.fi _ _ j hd' he h3 h5
        · have := h.ltF hd' h3; omega
      · rw [upd_ne _ _ e1] at h3
        rw [upd_ne _ _ e2] at h4
        exact h.fi d e j hd' he h3 h4
  · have ltN : ∀ {c j : Nat}, c < n → N c = some j → j < w.heap.size := fun {c j} hc hj => by
      obtain ⟨cs, hcs⟩ := h.tyN hc hj
      exact block_lt hcs
    by_cases e1 : d = c
    · by_cases e2 : e = c
      · omega
      · subst e1
        rw [upd_same] at h3
        rw [upd_ne _ _ e2] at h4
        rcases nn j h3 with h5 | h5
        · exact h.ni _ _ j hd' he h5 h4
        · have := ltN he h4; omega
    · by_cases e2 : e = c
      · subst e2
        rw [upd_same] at h4
        rw [upd_ne _ _ e1] at h3
        rcases nn j h4 with h5 | h5
        · exact h.ni _ _ j hd' he h3 h5
        · have := ltN hd' h3; omega
      · rw [upd_ne _ _ e1] at h3
        rw [upd_ne _ _ e2] at h4
        exact h.ni d e j hd' he h3 h4
  · have hs := h.bel.size
    by_cases e1 : d = c
    · subst e1
      rw [upd_same, upd_same] at h3
      rcases h3 with h3 | h3 | h3
      · rcases nf j h3 with h5 | h5
        · exact h.lo _ j hd' (.inl h5)
        · omega
      · rcases nn j h3 with h5 | h5
        · exact h.lo _ j hd' (.inr (.inl h5))
        · omega
      · exact h.lo _ j hd' (.inr (.inr h3))
    · rw [upd_ne _ _ e1, upd_ne _ _ e1] at h3
      exact h.lo d j hd' h3
end

end Go.Proofs.YtfhghijefjhehaaGreatDoor

/-! Pj -/
namespace Go.Proofs.YtfhghijefjhehaaGreatDoor
open Go.RowKit
set_option linter.unusedVariables false

noncomputable def opsW7 : Array Oper := (Tryz.f21.body.bind (opsAt 7)).getD #[]
theorem opsW7_size : opsW7.size = 19 := by kernel_rfl
theorem opsW7_earlier : Earlier opsW7 := by
  have h : (List.range 19).all (fun i => ((opsW7[i]?).map (fun o => o.after.all (fun e => !Region.binds .any e || decide (e.on < i)))).getD true) = true := by kernel_rfl
  intro i o ho e he hb
  have hi : i < 19 := by
    have := (Array.getElem?_eq_some_iff.1 ho).1
    rwa [opsW7_size] at this
  have h1 := List.all_eq_true.1 h i (List.mem_range.2 hi)
  rw [ho] at h1
  simp only [Option.map_some, Option.getD_some, Array.all_eq_true'] at h1
  have h2 := h1 e he
  rw [hb] at h2
  simpa using h2
def slpushW (j : Nat) : Nat := ([34, 35, 36, 37, 38, 39, 40, 41, 42, 43, 44, 45, 46, 47, 48, 49, 50, 51] : List Nat).getD j 0
def VpushW (g be c n on oc : Nat) (oa : Option Addr) (eh ek ep ec el es : Int) (j : Nat) : Value := [.slice (some ⟨g, 0, none⟩) n n, .pointer (some ⟨be, 1, none⟩), .int .i64 (c : Int), .slice (some ⟨g, 0, none⟩) n n, .pointer (some ⟨be, 1, none⟩), .int .i64 (c : Int), .pointer (some ⟨g, c * 6, none⟩), .pointer (some ⟨g, c * 6, none⟩), .slice oa on oc, .pointer (some ⟨be, 2, none⟩), .int .i64 eh, .pointer (some ⟨be, 4, none⟩), .agg #[.int .i64 ek, .int .i64 ep, .int .u8 ec, .int .i64 el, .int .i64 es], .agg #[.int .i64 eh, .int .i64 ek, .int .i64 ep, .int .u8 ec, .int .i64 el, .int .i64 es], .bool false, .bool false, .pointer (some ⟨g, c * 6, none⟩), .pointer (some ⟨g, c * 6, none⟩)].getD j (.bool false)

set_option maxRecDepth 100000 in
set_option maxHeartbeats 4000000 in
theorem pushW (a0 : Act) (w : World) {Q : Exit → Act → World → Prop} (g be c n on oc : Nat) (oa : Option Addr) (eh ek ep ec el es : Int) (h4 : a0.eval (.tmp 4) = .slice (some ⟨g, 0, none⟩) n n) (h6 : a0.eval (.tmp 6) = .pointer (some ⟨be, 0, none⟩)) (hzz : 51 < a0.tmps.size) (hcn : (c : Int) < (n : Int)) (hn63 : n ≤ 65) (P : Value → World → Prop)
    (hG0 : ∀ u, Below w.heap.size w u → u.cell? ⟨be, 1, none⟩ = some (.int .i64 (c : Int)) ∧ u.cell? ⟨g, c * 6, none⟩ = some (.slice oa on oc) ∧ u.cell? ⟨be, 2, none⟩ = some (.int .i64 eh) ∧ u.cell? ⟨be, 4, none⟩ = some (.int .i64 ek) ∧ u.cell? ⟨be, 5, none⟩ = some (.int .i64 ep) ∧ u.cell? ⟨be, 6, none⟩ = some (.int .u8 ec) ∧ u.cell? ⟨be, 7, none⟩ = some (.int .i64 el) ∧ u.cell? ⟨be, 8, none⟩ = some (.int .i64 es)) (hGP : ∀ v u, P v u → u.cell? ⟨be, 1, none⟩ = some (.int .i64 (c : Int)) ∧ u.cell? ⟨g, c * 6, none⟩ = some (.slice oa on oc) ∧ u.cell? ⟨be, 2, none⟩ = some (.int .i64 eh) ∧ u.cell? ⟨be, 4, none⟩ = some (.int .i64 ek) ∧ u.cell? ⟨be, 5, none⟩ = some (.int .i64 ep) ∧ u.cell? ⟨be, 6, none⟩ = some (.int .u8 ec) ∧ u.cell? ⟨be, 7, none⟩ = some (.int .i64 el) ∧ u.cell? ⟨be, 8, none⟩ = some (.int .i64 es))
    (hA : ∀ u b, Below w.heap.size w u → u.heap[b]? = some (.cells #[.int .i64 eh, .int .i64 ek, .int .i64 ep, .int .u8 ec, .int .i64 el, .int .i64 es] 74 (0, 0)) → ∃ v' u', (∀ ty, (Builtin.append_ #[22, 22] ty #[.slice oa on oc, .slice (some ⟨b, 0, none⟩) 1 1]).run Tryz.prog u = .ok v' u') ∧ P v' u')
    (hSt : ∀ v u, P v u → (∃ A n c, v = .slice A n c) ∧ u.frozen? ⟨g, c * 6, none⟩ = false)
    (hK : ∀ (V' : Nat → Value) v' u1, P v' u1 → Q .normal (puts a0 ((List.range 18).map fun j => (slpushW j, V' j))) (u1.setCell ⟨g, c * 6, none⟩ v')) :
    (Code.region 7 opsW7 true).wp Tryz.prog Q a0 w := by
  have inj : ∀ i j, i < 18 → j < 18 → slpushW i = slpushW j → i = j := by
    have h : (List.range 18).all (fun i => (List.range 18).all (fun j => decide (slpushW i = slpushW j → i = j))) = true := by kernel_rfl
    intro i j hi hj he
    have h1 := List.all_eq_true.1 h i (List.mem_range.2 hi)
    have h2 := List.all_eq_true.1 h1 j (List.mem_range.2 hj)
    exact (of_decide_eq_true h2) he
  have hz : ∀ j, j < 18 → slpushW j < a0.tmps.size := by
    have h : (List.range 18).all (fun i => decide (slpushW i ≤ 51)) = true := by kernel_rfl
    intro j hj
    have := of_decide_eq_true (List.all_eq_true.1 h j (List.mem_range.2 hj))
    omega
  refine wp_region_inv (by kernel_rfl) opsW7_earlier (fun L a u => JP opsW7 slpushW 18 14 15 (VpushW g be c n on oc oa eh ek ep ec el es) a0 w (fun b u => u.heap[b]? = some (.cells #[.int .i64 eh, .int .i64 ek, .int .i64 ep, .int .u8 ec, .int .i64 el, .int .i64 es] 74 (0, 0))) P g (c * 6) L a u) ?_ ?_ ?_
  · rintro L L' a' u i o h ho hno hall hu
    clear hK
    have q4 := (h.fe.ev (j := 4) (by decide)).trans h4
    have q6 := (h.fe.ev (j := 6) (by decide)).trans h6
    have E := h.e
    have hi : i < 19 := by
      have := (Array.getElem?_eq_some_iff.1 ho).1
      rwa [opsW7_size] at this
    match i, hi with
    | 0, _ =>
      refine og_move (g := none) ho (.tmp 4) (d := some 34) (by kernel_rfl) trivial q4 ?_
      exact h.next (i := 0) ho hall (by decide) (by decide) (by decide) (by decide) (by decide) inj hz hu
    | 1, _ =>
      obtain ⟨h1, h2, h3⟩ := flds (d := some 35) (p := Op.fieldAddr 76 (.tmp 6) 1) (g := none) ho (by kernel_rfl)
      have g0 := q6
      refine og_plain ho h3 trivial ?_
      unfold Oper.wp
      simp only [execOp, h2, g0]
      go_simp
      exact h.next (i := 1) ho hall (by decide) (by decide) (by decide) (by decide) (by decide) inj hz hu
    | 2, _ =>
      obtain ⟨h1, h2, h3⟩ := flds (d := some 36) (p := Op.load 3 (.tmp 35)) (g := none) ho (by kernel_rfl)
      have g0 := (show a'.eval (.tmp 35) = .pointer (some ⟨be, 1, none⟩) from E 1 (by decide) (by decide) (by decide) (dep ho hall 1 (by kernel_rfl)))
      obtain ⟨c0, c1, c2, c3, c4, c5, c6, c7⟩ := h.g hG0 hGP (fun hl => hno (anc_spec h.dc 40 18 2 (by kernel_rfl) hl))
      refine og_plain ho h3 trivial ?_
      unfold Oper.wp
      simp only [execOp, h2, g0]
      go_simp
      exact h.next (i := 2) ho hall (by decide) (by decide) (by decide) (by decide) (by decide) inj hz hu
    | 3, _ =>
      refine og_move (g := none) ho (.tmp 4) (d := some 37) (by kernel_rfl) trivial q4 ?_
      exact h.next (i := 3) ho hall (by decide) (by decide) (by decide) (by decide) (by decide) inj hz hu
    | 4, _ =>
      obtain ⟨h1, h2, h3⟩ := flds (d := some 38) (p := Op.fieldAddr 76 (.tmp 6) 1) (g := none) ho (by kernel_rfl)
      have g0 := q6
      refine og_plain ho h3 trivial ?_
      unfold Oper.wp
      simp only [execOp, h2, g0]
      go_simp
      exact h.next (i := 4) ho hall (by decide) (by decide) (by decide) (by decide) (by decide) inj hz hu
    | 5, _ =>
      obtain ⟨h1, h2, h3⟩ := flds (d := some 39) (p := Op.load 3 (.tmp 38)) (g := none) ho (by kernel_rfl)
      have g0 := (show a'.eval (.tmp 38) = .pointer (some ⟨be, 1, none⟩) from E 4 (by decide) (by decide) (by decide) (dep ho hall 4 (by kernel_rfl)))
      obtain ⟨c0, c1, c2, c3, c4, c5, c6, c7⟩ := h.g hG0 hGP (fun hl => hno (anc_spec h.dc 40 18 5 (by kernel_rfl) hl))
      refine og_plain ho h3 trivial ?_
      unfold Oper.wp
      simp only [execOp, h2, g0]
      go_simp
      exact h.next (i := 5) ho hall (by decide) (by decide) (by decide) (by decide) (by decide) inj hz hu
    | 6, _ =>
      obtain ⟨h1, h2, h3⟩ := flds (d := some 40) (p := Op.indexAddr 80 (.tmp 37) (.tmp 39)) (g := none) ho (by kernel_rfl)
      have g0 := (show a'.eval (.tmp 37) = .slice (some ⟨g, 0, none⟩) n n from E 3 (by decide) (by decide) (by decide) (dep ho hall 3 (by kernel_rfl)))
      have g1 := (show a'.eval (.tmp 39) = .int .i64 (c : Int) from E 5 (by decide) (by decide) (by decide) (dep ho hall 5 (by kernel_rfl)))
      refine og_plain ho h3 trivial ?_
      unfold Oper.wp
      simp only [execOp, h2, g0, g1]
      go_simp
      exact h.next (i := 6) ho hall (by decide) (by decide) (by decide) (by decide) (by decide) inj hz hu
    | 7, _ =>
      obtain ⟨h1, h2, h3⟩ := flds (d := some 41) (p := Op.fieldAddr 84 (.tmp 40) 0) (g := none) ho (by kernel_rfl)
      have g0 := (show a'.eval (.tmp 40) = .pointer (some ⟨g, c * 6, none⟩) from E 6 (by decide) (by decide) (by decide) (dep ho hall 6 (by kernel_rfl)))
      refine og_plain ho h3 trivial ?_
      unfold Oper.wp
      simp only [execOp, h2, g0]
      go_simp
      exact h.next (i := 7) ho hall (by decide) (by decide) (by decide) (by decide) (by decide) inj hz hu
    | 8, _ =>
      obtain ⟨h1, h2, h3⟩ := flds (d := some 42) (p := Op.load 22 (.tmp 41)) (g := none) ho (by kernel_rfl)
      have g0 := (show a'.eval (.tmp 41) = .pointer (some ⟨g, c * 6, none⟩) from E 7 (by decide) (by decide) (by decide) (dep ho hall 7 (by kernel_rfl)))
      obtain ⟨c0, c1, c2, c3, c4, c5, c6, c7⟩ := h.g hG0 hGP (fun hl => hno (anc_spec h.dc 40 18 8 (by kernel_rfl) hl))
      refine og_plain ho h3 trivial ?_
      unfold Oper.wp
      simp only [execOp, h2, g0]
      go_simp
      exact h.next (i := 8) ho hall (by decide) (by decide) (by decide) (by decide) (by decide) inj hz hu
    | 9, _ =>
      obtain ⟨h1, h2, h3⟩ := flds (d := some 43) (p := Op.fieldAddr 76 (.tmp 6) 2) (g := none) ho (by kernel_rfl)
      have g0 := q6
      refine og_plain ho h3 trivial ?_
      unfold Oper.wp
      simp only [execOp, h2, g0]
      go_simp
      exact h.next (i := 9) ho hall (by decide) (by decide) (by decide) (by decide) (by decide) inj hz hu
    | 10, _ =>
      obtain ⟨h1, h2, h3⟩ := flds (d := some 44) (p := Op.load 3 (.tmp 43)) (g := none) ho (by kernel_rfl)
      have g0 := (show a'.eval (.tmp 43) = .pointer (some ⟨be, 2, none⟩) from E 9 (by decide) (by decide) (by decide) (dep ho hall 9 (by kernel_rfl)))
      obtain ⟨c0, c1, c2, c3, c4, c5, c6, c7⟩ := h.g hG0 hGP (fun hl => hno (anc_spec h.dc 40 18 10 (by kernel_rfl) hl))
      refine og_plain ho h3 trivial ?_
      unfold Oper.wp
      simp only [execOp, h2, g0]
      go_simp
      exact h.next (i := 10) ho hall (by decide) (by decide) (by decide) (by decide) (by decide) inj hz hu
    | 11, _ =>
      obtain ⟨h1, h2, h3⟩ := flds (d := some 45) (p := Op.fieldAddr 76 (.tmp 6) 4) (g := none) ho (by kernel_rfl)
      have g0 := q6
      refine og_plain ho h3 trivial ?_
      unfold Oper.wp
      simp only [execOp, h2, g0]
      go_simp
      exact h.next (i := 11) ho hall (by decide) (by decide) (by decide) (by decide) (by decide) inj hz hu
    | 12, _ =>
      obtain ⟨h1, h2, h3⟩ := flds (d := some 46) (p := Op.load 69 (.tmp 45)) (g := none) ho (by kernel_rfl)
      have g0 := (show a'.eval (.tmp 45) = .pointer (some ⟨be, 4, none⟩) from E 11 (by decide) (by decide) (by decide) (dep ho hall 11 (by kernel_rfl)))
      obtain ⟨c0, c1, c2, c3, c4, c5, c6, c7⟩ := h.g hG0 hGP (fun hl => hno (anc_spec h.dc 40 18 12 (by kernel_rfl) hl))
      refine og_plain ho h3 trivial ?_
      unfold Oper.wp
      simp only [execOp, h2, g0]
      go_simp
      exact h.next (i := 12) ho hall (by decide) (by decide) (by decide) (by decide) (by decide) inj hz hu
    | 13, _ =>
      obtain ⟨h1, h2, h3⟩ := flds (d := some 47) (p := Op.build 74 #[(0, .tmp 44), (1, .tmp 46)]) (g := none) ho (by kernel_rfl)
      have g0 := (show a'.eval (.tmp 44) = .int .i64 eh from E 10 (by decide) (by decide) (by decide) (dep ho hall 10 (by kernel_rfl)))
      have g1 := (show a'.eval (.tmp 46) = .agg #[.int .i64 ek, .int .i64 ep, .int .u8 ec, .int .i64 el, .int .i64 es] from E 12 (by decide) (by decide) (by decide) (dep ho hall 12 (by kernel_rfl)))
      have t0 : a'.tmps[44]?.getD undef = .int .i64 eh := by simpa [Act.eval] using g0
      have t1 : a'.tmps[46]?.getD undef = .agg #[.int .i64 ek, .int .i64 ep, .int .u8 ec, .int .i64 el, .int .i64 es] := by simpa [Act.eval] using g1
      refine og_plain ho h3 trivial ?_
      unfold Oper.wp
      simp only [execOp, h2]
      go_simp
      exact h.next (i := 13) ho hall (by decide) (by decide) (by decide) (by decide) (by decide) inj hz hu
    | 14, _ =>
      obtain ⟨h1, h2, h3⟩ := flds (d := some 48) (p := Op.buildSlice 22 1 #[(0, .tmp 47)]) (g := none) ho (by kernel_rfl)
      have g0 := (show a'.eval (.tmp 47) = .agg #[.int .i64 eh, .int .i64 ek, .int .i64 ep, .int .u8 ec, .int .i64 el, .int .i64 es] from E 13 (by decide) (by decide) (by decide) (dep ho hall 13 (by kernel_rfl)))
      have t0 : a'.tmps[47]?.getD undef = .agg #[.int .i64 eh, .int .i64 ek, .int .i64 ep, .int .u8 ec, .int .i64 el, .int .i64 es] := by simpa [Act.eval] using g0
      refine og_plain ho h3 trivial ?_
      unfold Oper.wp
      simp only [execOp, h2]
      go_simp
      exact h.build ho hall hno (by decide) (by decide) (by decide) inj hz hu (by kernel_rfl) (by kernel_rfl) (.cells #[.int .i64 eh, .int .i64 ek, .int .i64 ep, .int .u8 ec, .int .i64 el, .int .i64 es] 74) (fun _ => heap_alloc_new _ _)
    | 15, _ =>
      obtain ⟨b, hg1, hg2⟩ := h.b (dep ho hall 14 (by kernel_rfl)) hno
      obtain ⟨v', u', hr, hP⟩ := hA u b (h.n hno) hg2
      refine og_app (g := none) ho (.tmp 42) (.tmp 48) 22 (d := some 49) (by kernel_rfl) trivial (show a'.eval (.tmp 42) = .slice oa on oc from E 8 (by decide) (by decide) (by decide) (dep ho hall 8 (by kernel_rfl))) hg1 hr ?_
      exact h.app ho hall hno (by decide) (by decide) (by decide) inj hz hu (by kernel_rfl) hP
    | 16, _ =>
      obtain ⟨h1, h2, h3⟩ := flds (d := some 50) (p := Op.indexAddr 80 (.tmp 34) (.tmp 36)) (g := none) ho (by kernel_rfl)
      have g0 := (show a'.eval (.tmp 34) = .slice (some ⟨g, 0, none⟩) n n from E 0 (by decide) (by decide) (by decide) (dep ho hall 0 (by kernel_rfl)))
      have g1 := (show a'.eval (.tmp 36) = .int .i64 (c : Int) from E 2 (by decide) (by decide) (by decide) (dep ho hall 2 (by kernel_rfl)))
      refine og_plain ho h3 trivial ?_
      unfold Oper.wp
      simp only [execOp, h2, g0, g1]
      go_simp
      exact h.next (i := 16) ho hall (by decide) (by decide) (by decide) (by decide) (by decide) inj hz hu
    | 17, _ =>
      obtain ⟨h1, h2, h3⟩ := flds (d := some 51) (p := Op.fieldAddr 84 (.tmp 50) 0) (g := none) ho (by kernel_rfl)
      have g0 := (show a'.eval (.tmp 50) = .pointer (some ⟨g, c * 6, none⟩) from E 16 (by decide) (by decide) (by decide) (dep ho hall 16 (by kernel_rfl)))
      refine og_plain ho h3 trivial ?_
      unfold Oper.wp
      simp only [execOp, h2, g0]
      go_simp
      exact h.next (i := 17) ho hall (by decide) (by decide) (by decide) (by decide) (by decide) inj hz hu
    | 18, _ =>
      obtain ⟨h1, h2, h3⟩ := flds (d := none) (p := Op.store 22 (.tmp 51) (.tmp 49)) (g := none) ho (by kernel_rfl)
      have lp : L 15 := dep ho hall 15 (by kernel_rfl)
      have hp := h.p lp hno
      obtain ⟨⟨A, m, cc, hv⟩, hfz⟩ := hSt _ _ hp
      have hcs := hGP _ _ hp
      have hcell := hcs.2.1
      have g0 := (show a'.eval (.tmp 51) = .pointer (some ⟨g, c * 6, none⟩) from E 17 (by decide) (by decide) (by decide) (dep ho hall 17 (by kernel_rfl)))
      have g1 : a'.eval (.tmp 49) = .slice A m cc := hv
      refine og_plain ho h3 trivial ?_
      unfold Oper.wp
      simp only [execOp, h2, g0, g1]
      go_simp
      have hh := h.store ho hall hno (by decide) (by decide) hu lp
      rw [show a'.eval (.tmp (slpushW 15)) = .slice A m cc from hv] at hh
      exact hh
    | i + 19, hi => omega
  · rintro L a' u h hall
    rw [opsW7_size] at hall
    obtain ⟨V', v', u1, hp, rfl, rfl⟩ := h.done hz (hall 18 (by omega))
    exact hK V' v' u1 hp
  · intro L hL
    exact JP.start ((Below.refl _ _).drew) hL

end Go.Proofs.YtfhghijefjhehaaGreatDoor
