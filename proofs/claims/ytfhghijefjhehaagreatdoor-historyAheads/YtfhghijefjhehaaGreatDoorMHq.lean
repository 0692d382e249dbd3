/-
  Texts put together: Hq Hr.
-/
import Derived.Test.YtfhghijefjhehaaGreatDoorHn
import Derived.Test.YtfhghijefjhehaaGreatDoorHo
import Derived.Test.YtfhghijefjhehaaGreatDoorHp
import Derived.Test.YtfhghijefjhehaaGreatDoorMHza
/-! Hq -/
namespace Go.Proofs.YtfhghijefjhehaaGreatDoor
open Go.RowKit
set_option linter.unusedVariables false

/-- The document's made. -/
theorem rmade_any (C : Int) (aL aE : Option Addr) (nL cL nE cE : Nat) (st si ha ma ok op oc ol os : Int) (ad : Option Addr) (nd cd : Nat) (pst psi pha pma pk pp pc pl ps : Int) (pa : Option Addr) (pn pcap : Nat) (log : List Ed) (w : World)
    (hL : IsL w aL nL log) (hn : nL ≤ 4096) (hm : -9223372036854775808 ≤ pma ∧ pma ≤ 9223372036854775800) (G : Prop)
    (hG : G ↔ (chP ⟨ok, op, oc, ol, os⟩ = true ∧ ol = si ∧ os = ma ∧ ma = pma + 1 ∧ ha = pha) ∧ fitsP pn ⟨ok, op, oc, ol, os⟩ = 0 ∧ ∀ k (h : k < log.length), log[k].o.cl = si → log[k].o.sq = ma → log[k] = ⟨ha, ⟨ok, op, oc, ol, os⟩⟩) :
    Calls Tryz.prog 92 #[.agg #[.int .i64 C, .slice aL nL cL, .slice aE nE cE], .agg #[.int .i64 st, .int .i64 si, .int .i64 ha, .int .i64 ma, .int .i64 ok, .int .i64 op, .int .u8 oc, .int .i64 ol, .int .i64 os, .slice ad nd cd], .agg #[.int .i64 pst, .int .i64 psi, .int .i64 pha, .int .i64 pma, .int .i64 pk, .int .i64 pp, .int .u8 pc, .int .i64 pl, .int .i64 ps, .slice pa pn pcap]] w
      fun e w' => ∃ r : Bool, e = .returned (.bool r) ∧ (r = true ↔ G) ∧ Below w.heap.size w w' := by
  by_cases h : chP ⟨ok, op, oc, ol, os⟩ = true ∧ ol = si ∧ os = ma ∧ ma = pma + 1 ∧ ha = pha
  · obtain ⟨h1, rfl, rfl, h4, rfl⟩ := h
    exact made_in C aL aE nL cL nE cE st ol ha ok op oc os ad nd cd pst psi pma pk pp pc pl ps pa pn pcap log w hL hn hm h4 h1 G ⟨fun g => (hG.1 g).2, fun g => hG.2 ⟨⟨h1, rfl, rfl, h4, rfl⟩, g⟩⟩
  · refine (made_no C aL aE nL cL nE cE st si ha ma ok op oc ol os ad nd cd pst psi pha pma pk pp pc pl ps pa pn pcap w hm h).mono ?_
    rintro e w' ⟨rfl, b⟩
    exact ⟨false, rfl, iff_of_false (by decide) (fun g => h (hG.1 g).1), b⟩

abbrev chg : OpE → Prop := fun o => chP o = true
abbrev fit : Nat → OpE → Prop := fun n o => fitsP n o = 0

theorem can_any (C : Int) (aL aE : Option Addr) (nL cL nE cE i : Nat) (evs : List Ev) (A : Nat → Option Addr) (K : Nat → Nat) (w : World) (hV : IsV w aE nE evs A K) (hi : i < nE) (hil : i < evs.length) (hn : nE ≤ 9223372036854775800)
    (log : List Ed) (hL : IsL w aL nL log) (hn4 : nL ≤ 4096) (hp : 0 ≤ (pv evs i evs[i].site).hav) (hm : 0 ≤ (pv evs i evs[i].site).made ∧ (pv evs i evs[i].site).made ≤ 9223372036854775800) :
    Calls Tryz.prog 53 #[.agg #[.int .i64 C, .slice aL nL cL, .slice aE nE cE], .int .i64 i] w fun e w' => ∃ r : Bool, e = .returned (.bool r) ∧ (r = true ↔ canR chg fit C log (stP evs i) (pv evs i evs[i].site) evs[i]) ∧ Below w.heap.size w w' := by
  have hl := hL.1
  by_cases h1 : 0 ≤ evs[i].site ∧ evs[i].site ≤ C ∧ stP evs i ≤ evs[i].step ∧ evs[i].len ≤ 4096 ∧ (pv evs i evs[i].site).hav ≤ evs[i].hav ∧ evs[i].hav ≤ (nL : Int)
  · by_cases h0 : evs[i].site = 0
    · refine can_zero C aL aE nL cL nE cE i evs A K w hV hi hil hn ⟨h0, by have := h1.2.1; omega, h1.2.2⟩ _ ?_
      constructor
      · intro h
        rcases h.2 with h | h | h
        · exact ⟨h.2.1, h.2.2⟩
        · exact absurd h0 h.1
        · exact absurd h0 h.1
      · rintro ⟨a, b⟩
        exact ⟨by rw [hl]; exact h1, .inl ⟨h0, a, b⟩⟩
    · have h1' : 0 < evs[i].site ∧ evs[i].site ≤ C ∧ stP evs i ≤ evs[i].step ∧ evs[i].len ≤ 4096 ∧ (pv evs i evs[i].site).hav ≤ evs[i].hav ∧ evs[i].hav ≤ (nL : Int) := ⟨by omega, h1.2⟩
      by_cases ho : evs[i].o = zo
      · obtain ⟨kh, hk⟩ : ∃ kh : Nat, evs[i].hav = (kh : Int) := ⟨evs[i].hav.toNat, by omega⟩
        refine can_idle C aL aE nL cL nE cE i evs A K w hV hi hil hn log hL hn4 kh hk ⟨h1', ho⟩ _ ?_
        rw [← ownN_eq log _ kh (by omega)]
        have e : kh = evs[i].hav.toNat := by omega
        constructor
        · intro h
          rcases h.2 with h | h | h
          · exact absurd h.1 h0
          · exact ⟨h.2.2.1, by rw [e]; exact h.2.2.2⟩
          · exact absurd ho h.2.1
        · rintro ⟨a, b⟩
          exact ⟨by rw [hl]; exact h1, .inr (.inl ⟨h0, ho, a, by rw [← e]; exact b⟩)⟩
      · refine can_made C aL aE nL cL nE cE i evs A K w hV hi hil hn log hL ⟨h1', ho⟩ _ (fun W pst psi pk pp pc pl ps pa pcap hLW => ?_)
        refine rmade_any C aL aE nL cL nE cE _ _ _ _ _ _ _ _ _ _ _ _ pst psi _ _ pk pp pc pl ps pa _ pcap log W hLW hn4 ⟨by omega, hm.2⟩ _ ?_
        constructor
        · intro h
          rcases h.2 with h | h | h
          · exact absurd h.1 h0
          · exact absurd h.2.1 ho
          · obtain ⟨-, -, a1, a2, a3, a4, a5, a6, a7⟩ := h
            exact ⟨⟨a1, a2, a3, a4, a5⟩, a6, fun k hk => a7 k _ (List.getElem?_eq_getElem hk)⟩
        · rintro ⟨⟨a1, a2, a3, a4, a5⟩, a6, a7⟩
          refine ⟨by rw [hl]; exact h1, .inr (.inr ⟨h0, ho, a1, a2, a3, a4, a5, a6, fun k x hk => ?_⟩)⟩
          obtain ⟨hk1, hk2⟩ := List.getElem?_eq_some_iff.1 hk
          rw [← hk2]
          exact a7 k hk1
  · refine (can_no C aL aE nL cL nE cE i evs A K w hV hi hil hn h1).mono ?_
    rintro e w' ⟨rfl, b⟩
    refine ⟨false, rfl, iff_of_false (by decide) (fun h => h1 ?_), b⟩
    have := h.1
    rw [hl] at this
    exact this

end Go.Proofs.YtfhghijefjhehaaGreatDoor

/-! Hr -/
namespace Go.Proofs.YtfhghijefjhehaaGreatDoor
open Go.RowKit
set_option linter.unusedVariables false

def arr65 (f : Int → Int) : Array Value := (Array.range 65).map (fun i => Value.int .i64 (f (i : Nat)))
theorem arr65_size (f : Int → Int) : (arr65 f).size = 65 := by simp [arr65]
theorem arr65_get (f : Int → Int) (i : Nat) (h : i < 65) : (arr65 f)[i]? = some (.int .i64 (f i)) := by
  simp [arr65, h]
theorem arr65_set (f g : Int → Int) (c : Nat) (hc : c < 65) (h2 : ∀ d : Nat, d ≠ c → g d = f d) : (arr65 f).setIfInBounds c (.int .i64 (g c)) = arr65 g := by
  apply Array.ext_getElem?
  intro i
  rw [Array.getElem?_setIfInBounds]
  by_cases hi : i < 65
  · rw [arr65_get f i hi, arr65_get g i hi]
    by_cases e : c = i
    · subst e
      simp [arr65_size, hc]
    · rw [if_neg e, h2 i (fun h => e h.symm)]
  · rw [if_neg (by omega), Array.getElem?_eq_none (by rw [arr65_size]; omega), Array.getElem?_eq_none (by rw [arr65_size]; omega)]
theorem zero65 : Tryz.zeroCells110 = arr65 (fun _ => 0) := by kernel_rfl

theorem sqAt_step (log : List Ed) (k : Nat) (c : Int) (h : k < log.length) : sqAt log (k + 1) c = if log[k].o.cl = c then log[k].o.sq else sqAt log k c := by
  simp only [sqAt, List.getElem?_eq_getElem h]
theorem tgAt_step (log : List Ed) (k : Nat) (c : Int) (h : k < log.length) : tgAt log (k + 1) c = if log[k].o.cl = c then log[k].tag else tgAt log k c := by
  simp only [tgAt, List.getElem?_eq_getElem h]

theorem chP_range {o : OpE} (h : chP o = true) : 1 ≤ o.cl ∧ o.cl ≤ 64 ∧ 1 ≤ o.sq ∧ o.sq ≤ 64 := by
  have h := ((chP_iff o).1 h).2
  unfold validP at h
  by_cases h1 : o.kind ≠ 0 ∧ o.kind ≠ 1 ∧ o.kind ≠ 2
  · rw [if_pos h1] at h; omega
  · rw [if_neg h1] at h
    cases h2 : (inR o.cl 1 64 && inR o.sq 1 64)
    · rw [h2] at h; simp at h
    · simp [inR] at h2
      omega
theorem sq_bound {C : Int} {log : List Ed} {k : Nat} (h : ∀ j x, j < k → log[j]? = some x → canD chg C log j x) (c : Int) : 0 ≤ sqAt log k c ∧ sqAt log k c ≤ 64 := by
  induction k with
  | zero => simp [sqAt]
  | succ k ih =>
    have ih := ih (fun j x hj => h j x (by omega))
    unfold sqAt
    split
    · rename_i e he
      split
      · have := chP_range (h k e (by omega) he).1
        omega
      · exact ih
    · exact ih

/-- The boxes of logged. -/
def LgI (w wr : World) (bx : Array Value) (log : List Ed) (k : Nat) : Prop :=
  wr.heap[w.heap.size]? = some (.cells bx 25 (0, 0)) ∧ wr.heap[w.heap.size + 1]? = some (.cells (arr65 (sqAt log k)) 110 (0, 0)) ∧ wr.heap[w.heap.size + 1 + 1]? = some (.cells (arr65 (tgAt log k)) 110 (0, 0)) ∧ Below w.heap.size w wr

theorem lgI_below {w wr u : World} {bx : Array Value} {log : List Ed} {k : Nat} (h : LgI w wr bx log k) (hb : Below wr.heap.size wr u) : LgI w u bx log k :=
  ⟨block_keep hb h.1 (block_lt h.1), block_keep hb h.2.1 (block_lt h.2.1), block_keep hb h.2.2.1 (block_lt h.2.2.1), h.2.2.2.trans (hb.mono h.2.2.2.size)⟩

theorem lg_next (C : Int) (nL : Nat) (log : List Ed) {k cN : Nat} {tg os : Int} {w w4 u : World} {bx : Array Value} (hS : ∀ c : Int, (sqAt log (k + 1) c = if (cN : Int) = c then os else sqAt log k c) ∧ tgAt log (k + 1) c = if (cN : Int) = c then tg else tgAt log k c)
    (hc : cN < 65) (h : LgI w w4 bx log k) (hb : Below w4.heap.size w4 u) : LgI w ((u.setCell ⟨w.heap.size + 1, cN, none⟩ (.int .i64 os)).setCell ⟨w.heap.size + 1 + 1, cN, none⟩ (.int .i64 tg)) bx log (k + 1) := by
  have h := lgI_below h hb
  refine ⟨?_, ?_, ?_, ?_⟩
  · rw [Below.heap_setCell _ _ _ _ (by simp; omega), Below.heap_setCell _ _ _ _ (by simp)]
    exact h.1
  · rw [Below.heap_setCell _ _ _ _ (by simp), set_row h.2.1]
    congr 3
    have e : os = sqAt log (k + 1) (cN : Int) := by rw [(hS _).1, if_pos rfl]
    rw [e]
    exact arr65_set _ _ cN hc (fun d hd => by rw [(hS _).1, if_neg (by omega)])
  · have h2 : (u.setCell ⟨w.heap.size + 1, cN, none⟩ (.int .i64 os)).heap[w.heap.size + 1 + 1]? = some (.cells (arr65 (tgAt log k)) 110 (0, 0)) := by
      rw [Below.heap_setCell _ _ _ _ (by simp)]
      exact h.2.2.1
    rw [set_row h2]
    congr 3
    have e : tg = tgAt log (k + 1) (cN : Int) := by rw [(hS _).2, if_pos rfl]
    rw [e]
    exact arr65_set _ _ cN hc (fun d hd => by rw [(hS _).2, if_neg (by omega)])
  · refine Below.setCell (Below.setCell h.2.2.2 (by simp) _) (by simp; omega) _

set_option maxRecDepth 100000 in
set_option maxHeartbeats 8000000 in
theorem logged_any (C : Int) (aL aE : Option Addr) (nL cL nE cE : Nat) (log : List Ed) (w : World) (hL : IsL w aL nL log) (hn : nL ≤ 4096) :
    Calls Tryz.prog 52 #[.agg #[.int .i64 C, .slice aL nL cL, .slice aE nE cE]] w fun e w' => ∃ r : Int, e = .returned (.int .i64 r) ∧ ((∃ k : Nat, r = k ∧ k < nL ∧ (∀ x, log[k]? = some x → ¬ canD chg C log k x) ∧ ∀ j x, j < k → log[j]? = some x → canD chg C log j x) ∨ (r = -1 ∧ ∀ j x, log[j]? = some x → canD chg C log j x)) ∧ Below w.heap.size w w' := by
  have HL := hd hL
  have HN := hd hn
  have CV0 := hd (fun k p c l s W => change_any k p c l s W)
  have I0 : Hid (LgI w (((w.alloc (.cells #[.int .i64 C, .slice aL nL cL, .slice aE nE cE] 25)).alloc (.cells Tryz.zeroCells110 110)).alloc (.cells Tryz.zeroCells110 110)) #[.int .i64 C, .slice aL nL cL, .slice aE nE cE] log 0) := by
    refine ⟨?_, ?_, ?_, (((Below.refl _ _).alloc (Nat.le_refl _) _).alloc (by simp) _).alloc (by simp; omega) _⟩
    · exact (heap_alloc_old _ _ (by simp; omega)).trans ((heap_alloc_old _ _ (by simp)).trans (heap_alloc_new _ _))
    · refine (heap_alloc_old _ _ (by simp)).trans ?_
      have := heap_alloc_new (w.alloc (.cells #[.int .i64 C, .slice aL nL cL, .slice aE nE cE] 25)) (.cells Tryz.zeroCells110 110)
      rw [World.size_alloc, zero65] at this
      rw [zero65]
      exact this
    · have := heap_alloc_new ((w.alloc (.cells #[.int .i64 C, .slice aL nL cL, .slice aE nE cE] 25)).alloc (.cells Tryz.zeroCells110 110)) (.cells Tryz.zeroCells110 110)
      rw [World.size_alloc, World.size_alloc, zero65] at this
      rw [zero65]
      exact this
  clear hL hn
  go_enter Tryz.func52, Tryz.ntmps52
  go_upto_region 2 with fail
  generalize (((w.alloc (.cells #[.int .i64 C, .slice aL nL cL, .slice aE nE cE] 25)).alloc (.cells Tryz.zeroCells110 110)).alloc (.cells Tryz.zeroCells110 110)) = w0 at *
  go_wp2_with fail
  go_loopw [5] (fun v wr => ∃ k : Nat, k ≤ nL ∧ v = .int .i64 k ∧ Hid (LgI w wr #[.int .i64 C, .slice aL nL cL, .slice aE nE cE] log k ∧ ∀ j x, j < k → log[j]? = some x → canD chg C log j x)) (fun v _ => nL - (intOf v).toNat)
  case atStart => exact ⟨0, Nat.zero_le _, rfl, I0.out, fun j x h => by omega⟩
  case round =>
    obtain ⟨k, hk, rfl, HRR⟩ := hrel
    have x1 := cell_row HRR.out.1.1 1
    simp at x1
    clear I0
    by_cases hlt : k < nL
    · have l1 : k < log.length := by have := HL.out.1; omega
      obtain ⟨b, off, rfl, s1, q⟩ := (HL.out.below HRR.out.1.2.2.2 (Nat.le_refl _)).2 (by omega)
      obtain ⟨q0, q1, q2, q3, q4, q5⟩ := q k l1
      have i1 : (k : Int) < (nL : Int) := by omega
      have ST := hd (show ∀ c : Int, (sqAt log (k + 1) c = if log[k].o.cl = c then log[k].o.sq else sqAt log k c) ∧ tgAt log (k + 1) c = if log[k].o.cl = c then log[k].tag else tgAt log k c from fun c => ⟨sqAt_step log k c l1, tgAt_step log k c l1⟩)
      have NO := hd (show ¬ canD chg C log k log[k] → ∀ x, log[k]? = some x → ¬ canD chg C log k x from fun h x hx => by rw [List.getElem?_eq_getElem l1] at hx; injection hx with hx; rw [← hx]; exact h)
      have YE := hd (show canD chg C log k log[k] → ∀ j x, j < k + 1 → log[j]? = some x → canD chg C log j x from fun h j x hj hx => by
        by_cases e : j = k
        · subst e
          rw [List.getElem?_eq_getElem l1] at hx
          injection hx with hx
          rw [← hx]
          exact h
        · exact HRR.out.2 j x (by omega) hx)
      have hsb := sq_bound HRR.out.2 log[k].o.cl
      have HR := hd HRR.out.2
      have HB := hd HRR.out.1
      clear q HRR s1
      generalize log[k] = x at *
      obtain ⟨tg, ⟨ok, op, oc, oL, os⟩⟩ := x
      simp only at q0 q1 q2 q3 q4 q5 hsb ST NO YE
      have CV := hd (fun W => CV0.out ok op oc oL os W)
      clear CV0
      have hM := hd (heap_alloc_new wr (.cells #[.int .i64 tg, .int .i64 ok, .int .i64 op, .int .u8 oc, .int .i64 oL, .int .i64 os] 74))
      have hb : Hid (Below wr.heap.size wr (wr.alloc (.cells #[.int .i64 tg, .int .i64 ok, .int .i64 op, .int .u8 oc, .int .i64 oL, .int .i64 os] 74))) := (Below.refl _ _).alloc (Nat.le_refl _) _
      go_upto_region 6 with fail
      generalize wr.alloc (.cells #[.int .i64 tg, .int .i64 ok, .int .i64 op, .int .u8 oc, .int .i64 oL, .int .i64 os] 74) = w4 at *
      clear q0 q1 q2 q3 q4 q5 x1
      have IW := hd (lgI_below HB.out hb.out)
      have B4 := hd IW.out.2.2.2
      have lM := block_lt hM.out
      have lH := block_lt IW.out.1
      have lS := block_lt IW.out.2.1
      have lT := block_lt IW.out.2.2.1
      have h0 := cell_row IW.out.1 0
      have m0 := cell_row hM.out 0; have m1 := cell_row hM.out 1; have m2 := cell_row hM.out 2; have m3 := cell_row hM.out 3; have m4 := cell_row hM.out 4; have m5 := cell_row hM.out 5
      simp at h0 m0 m1 m2 m3 m4 m5
      have lW := block_lt HB.out.2.2.1
      clear hb HB
      cases hch : chP ⟨ok, op, oc, oL, os⟩ with
      | false =>
        rw [hch] at CV
        go_upto_region 7 with fail
        (have nW : Nonempty (Wd w4) := ⟨⟨w4, Below.refl _ _⟩⟩; have zh0 := fun x : Wd w4 => x.cell h0 lH; have zm0 := fun x : Wd w4 => x.cell m0 lM; have zm1 := fun x : Wd w4 => x.cell m1 lM; have zm2 := fun x : Wd w4 => x.cell m2 lM; have zm3 := fun x : Wd w4 => x.cell m3 lM; have zm4 := fun x : Wd w4 => x.cell m4 lM; have zm5 := fun x : Wd w4 => x.cell m5 lM; refine wp_region_calm (by kernel_rfl) (by kernel_rfl) ?_; (repeat (go_big_quiet_step ((rename_i x; exact calm_call (CV.out x.W))))); refine wpQuiet_nil ?_; intro u hz; obtain ⟨⟨u', bu⟩, hu⟩ := hz; have hu' : u = u' := hu; subst hu'; clear hu; have BU := hd bu; clear bu nW zh0 zm0 zm1 zm2 zm3 zm4 zm5)
        go_wp2
        go_ret
        exact ⟨_, rfl, .inl ⟨k, rfl, by omega, NO.out (fun h => by have h1 := h.1; simp only [chg] at h1; rw [hch] at h1; cases h1), HR.out⟩, B4.out.trans (BU.out.mono B4.out.size)⟩
      | true =>
        rw [hch] at CV
        obtain ⟨r1, r2, r3, r4⟩ := chP_range hch
        simp only at r1 r2 r3 r4
        obtain ⟨cN, rfl⟩ : ∃ cN : Nat, oL = (cN : Int) := ⟨oL.toNat, by omega⟩
        have c65 : (cN : Int) < 65 := by omega
        have s0 := (cell_row IW.out.2.1 cN).trans (arr65_get _ cN (by omega))
        have t0 := (cell_row IW.out.2.2.1 cN).trans (arr65_get _ cN (by omega))
        generalize hsq : sqAt log k (cN : Int) = sq0 at s0 hsb
        generalize htg : tgAt log k (cN : Int) = tg0 at t0
        have HSQ := hd hsq
        have HTG := hd htg
        have ew : wrap64 (sq0 + 1) = sq0 + 1 := wrap64_id (by omega) (by omega)
        have HSB := hd hsb
        clear hsq htg hsb
        by_cases a1 : C < (cN : Int)
        · have q0 := trivial
          go_upto_region 7 with fail
          (have nW : Nonempty (Wd w4) := ⟨⟨w4, Below.refl _ _⟩⟩; have zh0 := fun x : Wd w4 => x.cell h0 lH; have zm0 := fun x : Wd w4 => x.cell m0 lM; have zm1 := fun x : Wd w4 => x.cell m1 lM; have zm2 := fun x : Wd w4 => x.cell m2 lM; have zm3 := fun x : Wd w4 => x.cell m3 lM; have zm4 := fun x : Wd w4 => x.cell m4 lM; have zm5 := fun x : Wd w4 => x.cell m5 lM; have zs0 := fun x : Wd w4 => x.cell s0 lS; have zt0 := fun x : Wd w4 => x.cell t0 lT; refine wp_region_calm (by kernel_rfl) (by kernel_rfl) ?_; (repeat (go_big_quiet_step ((rename_i x; exact calm_call (CV.out x.W))))); refine wpQuiet_nil ?_; intro u hz; obtain ⟨⟨u', bu⟩, hu⟩ := hz; have hu' : u = u' := hu; subst hu'; clear hu; have BU := hd bu; clear bu nW zh0 zm0 zm1 zm2 zm3 zm4 zm5 zs0 zt0)
          go_wp2
          go_ret
          exact ⟨_, rfl, .inl ⟨k, rfl, by omega, NO.out (fun h => by have := h.2.1; simp only at this; omega), HR.out⟩, B4.out.trans (BU.out.mono B4.out.size)⟩
        · have q0 := trivial
          by_cases a2 : ¬ os = sq0 + 1
          · have k2 : (os != sq0 + 1) = true := by simpa using a2
            have A2 := hd a2
            clear a2
            go_upto_region 7 with fail
            (have nW : Nonempty (Wd w4) := ⟨⟨w4, Below.refl _ _⟩⟩; have zh0 := fun x : Wd w4 => x.cell h0 lH; have zm0 := fun x : Wd w4 => x.cell m0 lM; have zm1 := fun x : Wd w4 => x.cell m1 lM; have zm2 := fun x : Wd w4 => x.cell m2 lM; have zm3 := fun x : Wd w4 => x.cell m3 lM; have zm4 := fun x : Wd w4 => x.cell m4 lM; have zm5 := fun x : Wd w4 => x.cell m5 lM; have zs0 := fun x : Wd w4 => x.cell s0 lS; have zt0 := fun x : Wd w4 => x.cell t0 lT; refine wp_region_calm (by kernel_rfl) (by kernel_rfl) ?_; (repeat (go_big_quiet_step ((rename_i x; exact calm_call (CV.out x.W))))); refine wpQuiet_nil ?_; intro u hz; obtain ⟨⟨u', bu⟩, hu⟩ := hz; have hu' : u = u' := hu; subst hu'; clear hu; have BU := hd bu; clear bu nW zh0 zm0 zm1 zm2 zm3 zm4 zm5 zs0 zt0)
            go_wp2
            go_ret
            exact ⟨_, rfl, .inl ⟨k, rfl, by omega, NO.out (fun h => A2.out (by have := h.2.2.1; simp only at this; rw [HSQ.out] at this; exact this)), HR.out⟩, B4.out.trans (BU.out.mono B4.out.size)⟩
          · obtain rfl : os = sq0 + 1 := by omega
            clear a2
            by_cases a3 : tg < tg0
            · have q2 := trivial
              go_upto_region 7 with fail
              (have nW : Nonempty (Wd w4) := ⟨⟨w4, Below.refl _ _⟩⟩; have zh0 := fun x : Wd w4 => x.cell h0 lH; have zm0 := fun x : Wd w4 => x.cell m0 lM; have zm1 := fun x : Wd w4 => x.cell m1 lM; have zm2 := fun x : Wd w4 => x.cell m2 lM; have zm3 := fun x : Wd w4 => x.cell m3 lM; have zm4 := fun x : Wd w4 => x.cell m4 lM; have zm5 := fun x : Wd w4 => x.cell m5 lM; have zs0 := fun x : Wd w4 => x.cell s0 lS; have zt0 := fun x : Wd w4 => x.cell t0 lT; refine wp_region_calm (by kernel_rfl) (by kernel_rfl) ?_; (repeat (go_big_quiet_step ((rename_i x; exact calm_call (CV.out x.W))))); refine wpQuiet_nil ?_; intro u hz; obtain ⟨⟨u', bu⟩, hu⟩ := hz; have hu' : u = u' := hu; subst hu'; clear hu; have BU := hd bu; clear bu nW zh0 zm0 zm1 zm2 zm3 zm4 zm5 zs0 zt0)
              go_wp2
              go_ret
              exact ⟨_, rfl, .inl ⟨k, rfl, by omega, NO.out (fun h => by have := h.2.2.2.1; simp only at this; rw [HTG.out] at this; omega), HR.out⟩, B4.out.trans (BU.out.mono B4.out.size)⟩
            · have q2 := trivial
              by_cases a4 : (k : Int) < tg
              · have q3 := trivial
                go_upto_region 7 with fail
                (have nW : Nonempty (Wd w4) := ⟨⟨w4, Below.refl _ _⟩⟩; have zh0 := fun x : Wd w4 => x.cell h0 lH; have zm0 := fun x : Wd w4 => x.cell m0 lM; have zm1 := fun x : Wd w4 => x.cell m1 lM; have zm2 := fun x : Wd w4 => x.cell m2 lM; have zm3 := fun x : Wd w4 => x.cell m3 lM; have zm4 := fun x : Wd w4 => x.cell m4 lM; have zm5 := fun x : Wd w4 => x.cell m5 lM; have zs0 := fun x : Wd w4 => x.cell s0 lS; have zt0 := fun x : Wd w4 => x.cell t0 lT; refine wp_region_calm (by kernel_rfl) (by kernel_rfl) ?_; (repeat (go_big_quiet_step ((rename_i x; exact calm_call (CV.out x.W))))); refine wpQuiet_nil ?_; intro u hz; obtain ⟨⟨u', bu⟩, hu⟩ := hz; have hu' : u = u' := hu; subst hu'; clear hu; have BU := hd bu; clear bu nW zh0 zm0 zm1 zm2 zm3 zm4 zm5 zs0 zt0)
                go_wp2
                go_ret
                exact ⟨_, rfl, .inl ⟨k, rfl, by omega, NO.out (fun h => by have := h.2.2.2.2; simp only at this; omega), HR.out⟩, B4.out.trans (BU.out.mono B4.out.size)⟩
              · have q3 := trivial
                have YES : Hid (∀ j x, j < k + 1 → log[j]? = some x → canD chg C log j x) := YE.out ⟨hch, by simp only; omega, by simp only; rw [HSQ.out], by simp only; rw [HTG.out]; omega, by simp only; omega⟩
                go_upto_region 7 with fail
                (have nW : Nonempty (Wd w4) := ⟨⟨w4, Below.refl _ _⟩⟩; have zh0 := fun x : Wd w4 => x.cell h0 lH; have zm0 := fun x : Wd w4 => x.cell m0 lM; have zm1 := fun x : Wd w4 => x.cell m1 lM; have zm2 := fun x : Wd w4 => x.cell m2 lM; have zm3 := fun x : Wd w4 => x.cell m3 lM; have zm4 := fun x : Wd w4 => x.cell m4 lM; have zm5 := fun x : Wd w4 => x.cell m5 lM; have zs0 := fun x : Wd w4 => x.cell s0 lS; have zt0 := fun x : Wd w4 => x.cell t0 lT; refine wp_region_calm (by kernel_rfl) (by kernel_rfl) ?_; (repeat (go_big_quiet_step ((rename_i x; exact calm_call (CV.out x.W))))); refine wpQuiet_nil ?_; intro u hz; obtain ⟨⟨u', bu⟩, hu⟩ := hz; have hu' : u = u' := hu; subst hu'; clear hu; have BU := hd bu; clear bu nW zh0 zm0 zm1 zm2 zm3 zm4 zm5 zs0 zt0)
                have jm0 := (BU.out.cell (p := ⟨wr.heap.size, 0, none⟩) lM).trans m0
                have jm5 := (BU.out.cell (p := ⟨wr.heap.size, 5, none⟩) lM).trans m5
                have js0 := (BU.out.cell (p := ⟨w.heap.size + 1, cN, none⟩) lS).trans s0
                have jt0 := (BU.out.cell (p := ⟨w.heap.size + 1 + 1, cN, none⟩) lT).trans t0
                have ne1 : ¬ wr.heap.size = w.heap.size + 1 := by omega
                have ne2 : ¬ w.heap.size + 1 = wr.heap.size := by omega
                have f1 := frozen_row (block_keep BU.out IW.out.2.1 lS) cN
                have f2 := frozen_row (block_keep BU.out IW.out.2.2.1 lT) cN
                have NX := hd (lg_next C nL log (bx := #[.int .i64 C, .slice (some ⟨b, off, none⟩) nL cL, .slice aE nE cE]) ST.out (by omega) IW.out BU.out)
                have E3 : wrap64 ((k : Int) + 1) = ((k + 1 : Nat) : Int) := by have := HN.out; rw [wrap64]; omega
                clear a1 a3 a4
                have jn0 := ((Fr.setCell (S := (· = w.heap.size + 1)) u ⟨w.heap.size + 1, cN, none⟩ (.int .i64 (sq0 + 1)) rfl).cell (p := ⟨wr.heap.size, 0, none⟩) (Nat.lt_of_lt_of_le lM BU.out.size) ne1).trans jm0
                have jnt := ((Fr.setCell (S := (· = w.heap.size + 1)) u ⟨w.heap.size + 1, cN, none⟩ (.int .i64 (sq0 + 1)) rfl).cell (p := ⟨w.heap.size + 1 + 1, cN, none⟩) (Nat.lt_of_lt_of_le lT BU.out.size) (by simp)).trans jt0
                go_upto_region 10 with fail
                go_wp2
                exact ⟨⟨k + 1, by omega, by rw [E3], NX.out, YES.out⟩, by rw [E3]; simp only [intOf, Int.toNat_natCast]; omega⟩
    · have i1 : ¬ (k : Int) < (nL : Int) := by omega
      have Z : Hid (∀ j x, log[j]? = some x → canD chg C log j x) := fun j x hx => HRR.out.2 j x (by have := (List.getElem?_eq_some_iff.1 hx).1; have := HL.out.1; omega) hx
      have Z2 := hd HRR.out.1.2.2.2
      clear HRR
      go_wp2
      go_ret
      exact ⟨_, rfl, .inr ⟨rfl, Z.out⟩, Z2.out⟩

end Go.Proofs.YtfhghijefjhehaaGreatDoor
