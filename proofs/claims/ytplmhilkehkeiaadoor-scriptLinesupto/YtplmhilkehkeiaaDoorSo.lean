/-
  Line: a taken one.
-/
import Derived.Test.YtplmhilkehkeiaaDoorSn
namespace Go.Proofs.YtplmhilkehkeiaaDoor
open Go.RowKit
set_option linter.unusedVariables false

theorem vals_at {fs : List Fl} {ws : List Bs} {vs : List Int} (hl : ws.length = fs.length) (h : valsP fs ws = .ok vs) : vs.length = fs.length ∧ ∀ i (h1 : i < fs.length) (h2 : i < ws.length) (h3 : i < vs.length), valP fs[i].place ws[i] = .ok vs[i] := by
  induction fs generalizing ws vs with
  | nil =>
    cases ws with
    | nil => cases h; exact ⟨rfl, fun i h1 => by simp at h1⟩
    | cons w ws => simp at hl
  | cons f fs ih =>
    cases ws with
    | nil => simp at hl
    | cons w ws =>
      rw [vals_step] at h
      rcases val_cases f.place w with ⟨v, hv, -⟩ | ⟨y, hy, hy'⟩
      · rw [hv] at h
        simp only at h
        cases hr : valsP fs ws with
        | error z => rw [hr] at h; simp only at h; cases h
        | ok r =>
          rw [hr] at h
          simp only at h
          cases h
          obtain ⟨h1, h2⟩ := ih (by simpa using hl) hr
          refine ⟨by simp [h1], fun i a b c => ?_⟩
          cases i with
          | zero => simpa using hv
          | succ i => simpa using h2 i (by simpa using a) (by simpa using b) (by simpa using c)
      · rw [hy] at h
        simp only at h
        cases h
theorem meas_ok {fs : List Fl} {ws : List Bs} {vs : List Int} (h : measP fs ws = .ok vs) : ws.length = fs.length ∧ valsP fs ws = .ok vs := by
  unfold measP at h
  split at h
  · cases h
  · rename_i hl
    refine ⟨by omega, ?_⟩
    cases hv : valsP fs ws with
    | error e => rw [hv] at h; simp only at h; cases h
    | ok r =>
      rw [hv] at h
      simp only at h
      split at h
      · cases h; rfl
      · cases h
theorem puts_take (E : En) (fs : List Fl) (ws : List Bs) (vs : List Int) (i : Nat) (h1 : i < fs.length) (h2 : i < ws.length) (h3 : i < vs.length) :
    putsP E (fs.take (i + 1)) (ws.take (i + 1)) (vs.take (i + 1)) = putP (putsP E (fs.take i) (ws.take i) (vs.take i)) fs[i] ws[i] vs[i] := by
  induction i generalizing E fs ws vs with
  | zero =>
    cases fs with
    | nil => simp at h1
    | cons f fs => cases ws with
      | nil => simp at h2
      | cons w ws => cases vs with
        | nil => simp at h3
        | cons v vs => simp [putsP]
  | succ i ih =>
    cases fs with
    | nil => simp at h1
    | cons f fs => cases ws with
      | nil => simp at h2
      | cons w ws => cases vs with
        | nil => simp at h3
        | cons v vs =>
          simp only [List.take_succ_cons, putsP]
          exact ih (putP E f w v) fs ws vs (by simpa using h1) (by simpa using h2) (by simpa using h3)
theorem puts_all (E : En) (fs : List Fl) (ws : List Bs) (vs : List Int) (n : Nat) (h1 : fs.length = n) (h2 : ws.length = n) (h3 : vs.length = n) : putsP E (fs.take n) (ws.take n) (vs.take n) = putsP E fs ws vs := by
  rw [List.take_of_length_le (by omega), List.take_of_length_le (by omega), List.take_of_length_le (by omega)]

/-- What Line's loop holds: the result's block R, the words, the fields and the values as they were; the entry so far at block X. -/
structure LO (w wr : World) (R X : Nat) (vw vf : Value) (ws : List ByteArray) (fs : List Fl) (gv n cv : Nat) (vs : List Int) (E : En) : Prop where
  ez : EZ wr R
  bel : Below R w wr
  words : IsW wr (R + 1) vw ws
  wX : ∀ g o c, vw = .slice (some ⟨g, o, none⟩) ws.length c → g < X
  flds : NL cF 3 59 wr (R + 1) vf fs
  vals : RowF ei 1 wr gv n cv 3 vs
  rx : R < X
  gx : gv < X
  ent : EB wr (R + 1) X E

theorem LO.next {w wr wu : World} {R X : Nat} {vw vf : Value} {ws : List ByteArray} {fs : List Fl} {gv n cv : Nat} {vs : List Int} {E E' : En} (h : LO w wr R X vw vf ws fs gv n cv vs E) (hF : Fr (· = X) wr wu) (hE : EB wu (R + 1) X E') : LO w wu R X vw vf ws fs gv n cv vs E' := by
  refine ⟨hF.keeps h.ez (fun e => by have := h.rx; omega), h.bel.trans (hF.below (Nat.le_of_lt (block_lt h.ez)) (fun k hk => by have := h.rx; omega)), ?_, h.wX, ?_, h.vals.fr hF (fun e => by have := h.gx; omega), h.rx, h.gx, hE⟩
  · obtain ⟨g, o, c, h1, h2, h3, h4, h5, h6⟩ := h.words
    have hg := h.wX g o c h1
    refine ⟨g, o, c, h1, h2, Nat.lt_of_lt_of_le h3 hF.size, h4, h5, fun i hi => ?_⟩
    rw [hF.cell (p := ⟨g, o + i, none⟩) h3 (by simp; omega)]
    exact h6 i hi
  · obtain ⟨β, h1, h2⟩ := h.flds
    refine ⟨β, h1.fr hF (fun g hg e => ?_), h2⟩
    subst hg
    obtain ⟨cur, hc⟩ := h1.blk
    obtain ⟨v, hx, -⟩ := h.ent
    have e' : g = X := e
    rw [e'] at hc
    rw [hc] at hx
    simp at hx

end Go.Proofs.YtplmhilkehkeiaaDoor
