/-
  The document's can, as a whole.
-/
import Derived.Test.YtfhghijefjhehaaDoorHn
import Derived.Test.YtfhghijefjhehaaDoorHo
import Derived.Test.YtfhghijefjhehaaDoorHp
namespace Go.Proofs.YtfhghijefjhehaaDoor
open Go.RowKit
set_option linter.unusedVariables false

/-- The document's made. -/
theorem rmade_any (C : Int) (aL aE : Option Addr) (nL cL nE cE : Nat) (st si ha ma ok op oc ol os : Int) (ad : Option Addr) (nd cd : Nat) (pst psi pha pma pk pp pc pl ps : Int) (pa : Option Addr) (pn pcap : Nat) (log : List Ed) (w : World)
    (hL : IsL w aL nL log) (hn : nL ≤ 4096) (hm : -9223372036854775808 ≤ pma ∧ pma ≤ 9223372036854775800) (G : Prop)
    (hG : G ↔ (chP ⟨ok, op, oc, ol, os⟩ = true ∧ ol = si ∧ os = ma ∧ ma = pma + 1 ∧ ha = pha) ∧ fitsP pn ⟨ok, op, oc, ol, os⟩ = 0 ∧ ∀ k (h : k < log.length), log[k].o.cl = si → log[k].o.sq = ma → log[k] = ⟨ha, ⟨ok, op, oc, ol, os⟩⟩) :
    Calls Tryd.prog 31 #[.agg #[.int .i64 C, .slice aL nL cL, .slice aE nE cE], .agg #[.int .i64 st, .int .i64 si, .int .i64 ha, .int .i64 ma, .int .i64 ok, .int .i64 op, .int .u8 oc, .int .i64 ol, .int .i64 os, .slice ad nd cd], .agg #[.int .i64 pst, .int .i64 psi, .int .i64 pha, .int .i64 pma, .int .i64 pk, .int .i64 pp, .int .u8 pc, .int .i64 pl, .int .i64 ps, .slice pa pn pcap]] w
      fun e w' => ∃ r : Bool, e = .returned (.bool r) ∧ (r = true ↔ G) ∧ Below w.heap.size w w' := by
  by_cases h : chP ⟨ok, op, oc, ol, os⟩ = true ∧ ol = si ∧ os = ma ∧ ma = pma + 1 ∧ ha = pha
  · obtain ⟨h1, rfl, rfl, h4, rfl⟩ := h
    exact made_in C aL aE nL cL nE cE st ol ha ok op oc os ad nd cd pst psi pma pk pp pc pl ps pa pn pcap log w hL hn hm h4 h1 G ⟨fun g => (hG.1 g).2, fun g => hG.2 ⟨⟨h1, rfl, rfl, h4, rfl⟩, g⟩⟩
  · refine (made_no C aL aE nL cL nE cE st si ha ma ok op oc ol os ad nd cd pst psi pha pma pk pp pc pl ps pa pn pcap w hm h).mono ?_
    rintro e w' ⟨rfl, b⟩
    exact ⟨false, rfl, iff_of_false (by decide) (fun g => h (hG.1 g).1), b⟩

abbrev chg : OpE → Prop := fun o => chP o = true
abbrev fit : Nat → OpE → Prop := fun n o => fitsP n o = 0

theorem can_any (C : Int) (aL aE : Option Addr) (nL cL nE cE i : Nat) (evs : List Ev) (A : Nat → Option Addr) (K : Nat → Nat) (w : World) (hV : IsV w aE nE evs A K) (hi : i < nE) (hil : i < evs.length) (hn : nE ≤ 9223372036854775800)
    (log : List Ed) (hL : IsL w aL nL log) (hn4 : nL ≤ 4096) (hp : 0 ≤ (pv evs i evs[i].site).hav) (hm : 0 ≤ (pv evs i evs[i].site).made ∧ (pv evs i evs[i].site).made ≤ 9223372036854775800) :
    Calls Tryd.prog 15 #[.agg #[.int .i64 C, .slice aL nL cL, .slice aE nE cE], .int .i64 i] w fun e w' => ∃ r : Bool, e = .returned (.bool r) ∧ (r = true ↔ canR chg fit C log (stP evs i) (pv evs i evs[i].site) evs[i]) ∧ Below w.heap.size w w' := by
  have hl := hL.1
  by_cases h1 : 0 ≤ evs[i].site ∧ evs[i].site ≤ C ∧ stP evs i ≤ evs[i].step ∧ evs[i].len ≤ 4096 ∧ (pv evs i evs[i].site).hav ≤ evs[i].hav ∧ evs[i].hav ≤ (nL : Int)
  · by_cases h0 : evs[i].site = 0
    · refine can_zero C aL aE nL cL nE cE i evs A K w hV hi hil hn ⟨h0, by have := h1.2.1; omega, h1.2.2⟩ _ ?_
      constructor
      · intro h
        rcases h.2 with h | h | h
        · exact ⟨h.2.1, h.2.2⟩
        · exact absurd h0 h.1
        · exact absurd h0 h.1
      · rintro ⟨a, b⟩
        exact ⟨by rw [hl]; exact h1, .inl ⟨h0, a, b⟩⟩
    · have h1' : 0 < evs[i].site ∧ evs[i].site ≤ C ∧ stP evs i ≤ evs[i].step ∧ evs[i].len ≤ 4096 ∧ (pv evs i evs[i].site).hav ≤ evs[i].hav ∧ evs[i].hav ≤ (nL : Int) := ⟨by omega, h1.2⟩
      by_cases ho : evs[i].o = zo
      · obtain ⟨kh, hk⟩ : ∃ kh : Nat, evs[i].hav = (kh : Int) := ⟨evs[i].hav.toNat, by omega⟩
        refine can_idle C aL aE nL cL nE cE i evs A K w hV hi hil hn log hL hn4 kh hk ⟨h1', ho⟩ _ ?_
        rw [← ownN_eq log _ kh (by omega)]
        have e : kh = evs[i].hav.toNat := by omega
        constructor
        · intro h
          rcases h.2 with h | h | h
          · exact absurd h.1 h0
          · exact ⟨h.2.2.1, by rw [e]; exact h.2.2.2⟩
          · exact absurd ho h.2.1
        · rintro ⟨a, b⟩
          exact ⟨by rw [hl]; exact h1, .inr (.inl ⟨h0, ho, a, by rw [← e]; exact b⟩)⟩
      · refine can_made C aL aE nL cL nE cE i evs A K w hV hi hil hn log hL ⟨h1', ho⟩ _ (fun W pst psi pk pp pc pl ps pa pcap hLW => ?_)
        refine rmade_any C aL aE nL cL nE cE _ _ _ _ _ _ _ _ _ _ _ _ pst psi _ _ pk pp pc pl ps pa _ pcap log W hLW hn4 ⟨by omega, hm.2⟩ _ ?_
        constructor
        · intro h
          rcases h.2 with h | h | h
          · exact absurd h.1 h0
          · exact absurd h.2.1 ho
          · obtain ⟨-, -, a1, a2, a3, a4, a5, a6, a7⟩ := h
            exact ⟨⟨a1, a2, a3, a4, a5⟩, a6, fun k hk => a7 k _ (List.getElem?_eq_getElem hk)⟩
        · rintro ⟨⟨a1, a2, a3, a4, a5⟩, a6, a7⟩
          refine ⟨by rw [hl]; exact h1, .inr (.inr ⟨h0, ho, a1, a2, a3, a4, a5, a6, fun k x hk => ?_⟩)⟩
          obtain ⟨hk1, hk2⟩ := List.getElem?_eq_some_iff.1 hk
          rw [← hk2]
          exact a7 k hk1
  · refine (can_no C aL aE nL cL nE cE i evs A K w hV hi hil hn h1).mono ?_
    rintro e w' ⟨rfl, b⟩
    refine ⟨false, rfl, iff_of_false (by decide) (fun h => h1 ?_), b⟩
    have := h.1
    rw [hl] at this
    exact this

end Go.Proofs.YtfhghijefjhehaaDoor
