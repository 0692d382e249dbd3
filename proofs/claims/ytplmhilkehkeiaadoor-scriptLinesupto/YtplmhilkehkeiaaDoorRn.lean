/-
  The document's Line: what its loops hold.
-/
import Derived.Test.YtplmhilkehkeiaaDoorRm
namespace Go.Proofs.YtplmhilkehkeiaaDoor
open Go.RowKit
set_option linter.unusedVariables false

/-- What the loops of the document's Line hold: the result's block, the words (the verb first), the table's row. -/
structure DO (w wr : World) (R : Nat) (vw vf : Value) (ws : List ByteArray) (fs : List Fl) : Prop where
  ez : EZ wr R
  bel : Below R w wr
  words : NL es 1 9 wr (R + 1) vw ws
  flds : NL cW 3 67 wr (R + 1) vf fs

theorem DO.to {w wr wu : World} {R : Nat} {vw vf : Value} {ws : List ByteArray} {fs : List Fl} (h : DO w wr R vw vf ws fs) (hb : Below wr.heap.size wr wu) : DO w wu R vw vf ws fs :=
  ⟨h.ez.below hb (block_lt h.ez), h.bel.trans (hb.mono (Nat.le_of_lt (block_lt h.ez))), h.words.fr (Fr.of_below (S := fun _ => False) hb) (fun _ _ _ h => h), h.flds.fr (Fr.of_below (S := fun _ => False) hb) (fun _ _ _ h => h)⟩
theorem DO.next {w wr wu : World} {R X : Nat} {vw vf : Value} {ws : List ByteArray} {fs : List Fl} {c : Array Value} (h : DO w wr R vw vf ws fs) (hF : Fr (· = X) wr wu) (hX : R < X) (hx : wr.heap[X]? = some (.cells c 25 (0, 0))) : DO w wu R vw vf ws fs :=
  ⟨hF.keeps h.ez (fun e => by have : R = X := e; omega), h.bel.trans (hF.below (Nat.le_of_lt (block_lt h.ez)) (fun k hk => by have : k = X := hk; omega)), h.words.frx hF (fun cur hc => by rw [hx] at hc; simp at hc), h.flds.frx hF (fun cur hc => by rw [hx] at hc; simp at hc)⟩

/-- The cells of word i and of the table's word i. -/
theorem DO.cells {w wr : World} {R g2 n c2 : Nat} {fa : Option Addr} {fc : Nat} {b : ByteArray} {r : List ByteArray} {fs : List Fl} (h : DO w wr R (.slice (some ⟨g2, 0, none⟩) (n + 1) c2) (.slice fa n fc) (b :: r) fs) (i : Nat) (h1 : i < fs.length) (h2 : i < r.length) :
    ∃ gf, fa = some ⟨gf, 0, none⟩ ∧ wr.cell? ⟨gf, i * 3, none⟩ = some (.int .u8 (letP fs[i].place)) ∧ wr.cell? ⟨gf, i * 3 + 1, none⟩ = some (.int .i64 fs[i].lo) ∧ wr.cell? ⟨gf, i * 3 + 2, none⟩ = some (.int .i64 fs[i].hi) ∧ wr.cell? ⟨g2, i + 1, none⟩ = some (.string r[i]) ∧ gf < wr.heap.size ∧ g2 < wr.heap.size := by
  obtain ⟨β, hS, -⟩ := h.flds
  obtain ⟨β', hS', -⟩ := h.words
  cases β with
  | none => obtain ⟨-, e⟩ := hS; rw [e] at h1; simp at h1
  | some gf =>
    cases β' with
    | none => obtain ⟨-, e⟩ := hS'; cases e
    | some g' =>
      obtain ⟨cap, hv, hR⟩ := hS
      obtain ⟨cap', hv', hR'⟩ := hS'
      injection hv with hv1
      injection hv' with hv1'
      injection hv1' with hv1'
      injection hv1' with hv1'
      subst hv1'
      have k0 := hR.cell sz_cW i 0 h1 (by omega)
      have k1 := hR.cell sz_cW i 1 h1 (by omega)
      have k2 := hR.cell sz_cW i 2 h1 (by omega)
      have kw := hR'.cell sz_es (i + 1) 0 (by simp; omega) (by omega)
      simp only [cW, List.getElem?_cons_zero, List.getElem?_cons_succ, Nat.add_zero] at k0 k1 k2
      simp only [es, List.getElem?_cons_zero, Nat.mul_one, Nat.add_zero, List.getElem_cons_succ] at kw
      exact ⟨gf, hv1, k0, k1, k2, kw, hR.lt, hR'.lt⟩

theorem tail_mem {K : Int} {s x : Bs} (h : x ∈ tailP K s) : x.length ≤ s.length := by
  unfold tailP at h
  have h' := List.mem_of_mem_tail h
  split at h'
  · exact spl_mem h'
  · exact spl_mem h'

theorem rest_eq {K : Int} {T : List Bs} (h : T.length = (fl K).length) : restP K T = match valsP (fl K) T with
    | .error e => { kind := K, err := e }
    | .ok vs => if rangeP (fl K) vs then putsP { kind := K } (fl K) T vs else { kind := K, err := 155 } := by
  unfold restP
  rw [if_neg (by omega)]
  rfl

end Go.Proofs.YtplmhilkehkeiaaDoor
