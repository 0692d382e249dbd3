/-
  The document's Line, whole; small things of entries.
-/
import Derived.Test.YtplmhilkehkeiaaDoorRo
import Derived.Test.YtplmhilkehkeiaaDoorRp
namespace Go.Proofs.YtplmhilkehkeiaaDoor
open Go.RowKit
set_option linter.unusedVariables false

theorem rline_any (s : ByteArray) (w : World) (hz : s.size ≤ 2000000) : Calls Tryd.prog 11 #[.string s] w fun e w' => LR w w' (lineP (tl s)) e := by
  by_cases h0 : kindP (verbP (tl s)) = 0
  · exact rline_none s w _ hz rfl h0
  · by_cases hl : (tailP (kindP (verbP (tl s))) (tl s)).length = (fl (kindP (verbP (tl s)))).length
    · by_cases h1 : kindP (verbP (tl s)) = 1
      · exact rline_ins s w _ hz rfl h0 h1 hl
      · exact rline_oth s w _ hz rfl h0 h1 hl
    · exact rline_len s w _ hz rfl h0 hl

theorem hex_le {s t : Bs} (h : hexP s = some t) : t.length ≤ s.length := by
  unfold hexP at h
  split at h
  · cases h; simp
  · split at h
    · cases h
    · have := pairs_len h; omega
theorem puts_le (M : Nat) (E : En) (fs : List Fl) (ws : List Bs) (vs : List Int) (hE : E.bytes.length ≤ M) (hw : ∀ x ∈ ws, x.length ≤ M) : (putsP E fs ws vs).bytes.length ≤ M := by
  induction fs generalizing E ws vs with
  | nil => simpa [putsP] using hE
  | cons f fs ih =>
    cases ws with
    | nil => simpa [putsP] using hE
    | cons x ws =>
      cases vs with
      | nil => simpa [putsP] using hE
      | cons v vs =>
        rw [putsP]
        refine ih _ ws vs ?_ (fun y hy => hw y (by simp [hy]))
        unfold putP
        repeat' split
        all_goals first
          | exact hE
          | (show ((hexP x).getD []).length ≤ M
             cases hh : hexP x with
             | none => simp
             | some t => have h1 := hex_le hh; have h2 := hw x (by simp); simp only [Option.getD_some]; omega)
theorem line_le (s : Bs) : (lineP s).bytes.length ≤ s.length := by
  unfold lineP
  split
  · simp
  · unfold restP
    split
    · simp
    · cases valsP (fl (kindP (verbP s))) (tailP (kindP (verbP s)) s) with
      | error e => simp
      | ok vs =>
        simp only
        split
        · exact puts_le s.length _ _ _ _ (by simp) (fun x hx => tail_mem hx)
        · simp

end Go.Proofs.YtplmhilkehkeiaaDoor
