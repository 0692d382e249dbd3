/-
  read, without memory: what the tale holds behind so many edits and events.
-/
import Derived.Test.YtfhghijefjhehaaDoorIl
import Derived.Test.YtfhghijefjhehaaDoorHq
namespace Go.Proofs.YtfhghijefjhehaaDoor
open Go.RowKit
set_option linter.unusedVariables false

theorem zoB_false (o : OpE) : zoB o = false ↔ o ≠ zo := by
  rw [ne_eq, ← zoB_iff]
  cases zoB o <;> simp

section
variable (C : Int) (log : List Ed) (evs : List Ev) (D : Nat → List El)

def pvD (i : Nat) (c : Int) : List El := match (shAt evs i c).getLast? with
  | some j => D j
  | none => []
def elD (p : List El) (e : Ev) : El := if e.o.kind = 2 then p.getD e.o.pos.toNat (0, 0, 0) else (e.o.ch, e.o.cl, e.o.sq)
def mkD (p : List El) (e : Ev) : Dd := ⟨⟨e.hav, e.o⟩, (elD p e).1, (elD p e).2.1, (elD p e).2.2⟩
def ddAt : Nat → Int → List Dd
  | 0, _ => []
  | k + 1, c => ddAt k c ++ (match evs[k]? with | some e => if e.site = c ∧ zoB e.o = false then [mkD (pvD evs D k c) e] else [] | none => [])
def S1 (k : Nat) (j : Nat) : Ls := if j < 65 then .ns (lgAt log k (j : Nat)) else if j < 130 then .ns [] else .ds []
def S2 (i : Nat) (j : Nat) : Ls := if j < 65 then .ns (lgAt log log.length (j : Nat)) else if j < 130 then .ns (shAt evs i ((j - 65 : Nat) : Int)) else .ds (ddAt evs D i ((j - 130 : Nat) : Int))
def GL (k : Nat) : Prop := ∀ j x, j < k → log[j]? = some x → canP chg C log j x
def GE (i : Nat) : Prop := ∀ j x, j < i → evs[j]? = some x → canS chg fit C log (stP evs j) (pv evs j x.site) x
variable {C log evs D}

theorem ddAt_len (i : Nat) (c : Int) : (ddAt evs D i c).length = dn evs i c := by
  induction i with
  | zero => rfl
  | succ i ih =>
    simp only [ddAt, dn, List.length_append, ih]
    cases evs[i]? with
    | none => simp
    | some e =>
      simp only
      by_cases hs : e.site = c ∧ e.o ≠ zo
      · rw [if_pos hs, if_pos ⟨hs.1, (zoB_false _).2 hs.2⟩]
        rfl
      · rw [if_neg hs, if_neg (fun h => hs ⟨h.1, (zoB_false _).1 h.2⟩)]
        rfl
theorem S12 : S1 log log.length = S2 log evs D 0 := by
  funext j
  simp only [S1, S2, shAt, ddAt]
theorem S1_step (k : Nat) (h : k < log.length) (cN : Nat) (hc : log[k].o.cl = (cN : Int)) (hcN : cN < 65) : S1 log (k + 1) = upd (S1 log k) cN (.ns (lgAt log k cN ++ [k])) := by
  funext j
  by_cases e : j = cN
  · subst e
    rw [upd_same]
    simp only [S1, if_pos hcN, lgAt, List.getElem?_eq_getElem h, hc, if_true]
  · rw [upd_ne _ _ e]
    unfold S1
    split
    · simp only [lgAt, List.getElem?_eq_getElem h, hc]
      rw [if_neg (by omega), List.append_nil]
    · rfl
theorem shAt_step (i : Nat) (h : i < evs.length) (c : Int) : shAt evs (i + 1) c = shAt evs i c ++ if evs[i].site = c then [i] else [] := by
  simp only [shAt, List.getElem?_eq_getElem h]
theorem shAt_le (i : Nat) (c : Int) : (shAt evs i c).length ≤ i := by
  induction i with
  | zero => simp [shAt]
  | succ i ih =>
    simp only [shAt, List.length_append]
    split
    · split <;> simp <;> omega
    · simp; omega
theorem dn_le (i : Nat) (c : Int) : dn evs i c ≤ i := by
  induction i with
  | zero => simp [dn]
  | succ i ih =>
    simp only [dn]
    split
    · split <;> omega
    · omega
theorem S2_idle (i : Nat) (h : i < evs.length) (cN : Nat) (hc : evs[i].site = (cN : Int)) (hcN : cN < 65) (ho : evs[i].o = zo) : S2 log evs D (i + 1) = upd (S2 log evs D i) (65 + cN) (.ns (shAt evs i cN ++ [i])) := by
  funext j
  by_cases e : j = 65 + cN
  · subst e
    rw [upd_same]
    simp only [S2, if_neg (show ¬ 65 + cN < 65 by omega), if_pos (show 65 + cN < 130 by omega)]
    rw [show (65 + cN - 65 : Nat) = cN from by omega, shAt_step i h, hc, if_pos rfl]
  · rw [upd_ne _ _ e]
    unfold S2
    split
    · rfl
    · split
      · rw [shAt_step i h, hc, if_neg (by omega), List.append_nil]
      · simp only [ddAt, List.getElem?_eq_getElem h]
        rw [if_neg (fun hh => (zoB_false _).1 hh.2 ho), List.append_nil]
theorem S2_made (i : Nat) (h : i < evs.length) (cN : Nat) (hc : evs[i].site = (cN : Int)) (hcN : cN < 65) (ho : evs[i].o ≠ zo) : S2 log evs D (i + 1) = upd (upd (S2 log evs D i) (130 + cN) (.ds (ddAt evs D i cN ++ [mkD (pvD evs D i cN) evs[i]]))) (65 + cN) (.ns (shAt evs i cN ++ [i])) := by
  funext j
  by_cases e : j = 65 + cN
  · subst e
    rw [upd_same]
    simp only [S2, if_neg (show ¬ 65 + cN < 65 by omega), if_pos (show 65 + cN < 130 by omega)]
    rw [show (65 + cN - 65 : Nat) = cN from by omega, shAt_step i h, hc, if_pos rfl]
  · rw [upd_ne _ _ e]
    by_cases e2 : j = 130 + cN
    · subst e2
      rw [upd_same]
      simp only [S2, if_neg (show ¬ 130 + cN < 65 by omega), if_neg (show ¬ 130 + cN < 130 by omega)]
      rw [show (130 + cN - 130 : Nat) = cN from by omega]
      simp only [ddAt, List.getElem?_eq_getElem h, hc]
      rw [if_pos ⟨trivial, (zoB_false _).2 ho⟩]
    · rw [upd_ne _ _ e2]
      unfold S2
      split
      · rfl
      · split
        · rw [shAt_step i h, hc, if_neg (by omega), List.append_nil]
        · simp only [ddAt, List.getElem?_eq_getElem h, hc]
          rw [if_neg (by omega), List.append_nil]

theorem pv_bounds {i : Nat} (h : GE C log evs i) (c : Int) : 0 ≤ (pv evs i c).hav ∧ 0 ≤ (pv evs i c).made ∧ (pv evs i c).made ≤ i := by
  induction i generalizing c with
  | zero => simp [pv, zev]
  | succ i ih =>
    have ih' := fun c => ih (fun j x hj => h j x (by omega)) c
    cases he : evs[i]? with
    | none =>
      simp only [pv, he]
      have := ih' c
      omega
    | some e =>
      by_cases hs : e.site = c
      · simp only [pv, he, if_pos hs]
        obtain ⟨-, ⟨a5, -⟩, hh⟩ := h i e (by omega) he
        have hp := ih' e.site
        rcases hh with ⟨-, h2, -⟩ | ⟨-, -, ⟨-, -, h5, -⟩, -⟩ | ⟨-, -, h3, -⟩
        · omega
        · omega
        · omega
      · simp only [pv, he, if_neg hs]
        have := ih' c
        omega

/-- The element of a deletion. -/
theorem el_take {i : Nat} {w : World} {A : Nat → Option Addr} (hX : IsX w evs A D) (hil : i ≤ evs.length) (c : Int) {o : OpE} (hk : o.kind = 2) (hf : fitsP (pv evs i c).len o = 0) :
    ∃ j pN, (shAt evs i c).getLast? = some j ∧ o.pos = ((pN : Nat) : Int) ∧ pvD evs D i c = D j ∧ ∃ hp : pN < (D j).length, (pvD evs D i c).getD o.pos.toNat (0, 0, 0) = (D j)[pN] := by
  obtain ⟨-, -, -, h4, h5⟩ := fitsP_zero hf
  have hlt : o.pos < ((pv evs i c).len : Int) := by rcases h4 with h | h | h <;> omega
  cases hg : (shAt evs i c).getLast? with
  | none =>
    have : pv evs i c = zev := by rw [pv_last, hg]
    rw [this] at hlt
    simp [zev] at hlt
    omega
  | some j =>
    have hj := (shAt_lt (List.mem_of_getLast? hg)).1
    have hjl : j < evs.length := by omega
    have hp : pv evs i c = evs[j] := by rw [pv_last, hg]; simp [List.getElem?_eq_getElem hjl]
    have hl := (hX j hjl).1
    rw [hp, ← hl] at hlt
    refine ⟨j, o.pos.toNat, rfl, by omega, by unfold pvD; rw [hg], by omega, ?_⟩
    unfold pvD
    rw [hg]
    simp only [List.getD]
    rw [List.getElem?_eq_getElem (by omega)]
    rfl
end

end Go.Proofs.YtfhghijefjhehaaDoor
