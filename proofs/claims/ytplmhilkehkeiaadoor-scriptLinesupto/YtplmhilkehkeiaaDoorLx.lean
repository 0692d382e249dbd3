/-
  ScriptLines: its entries, and its front.
-/
import Derived.Test.YtplmhilkehkeiaaDoorLv
import Derived.Test.YtplmhilkehkeiaaDoorLw
namespace Go.Proofs.YtplmhilkehkeiaaDoor
open Go.RowKit
set_option linter.unusedVariables false

/-- An entry at block x, its bytes in a row from lo on. -/
structure Ob (w : World) (lo x : Nat) (E : En) (a : Option Addr) (m c : Nat) (t : List Int) : Prop where
  ent : w.heap[x]? = some (.cells (ecell E (.slice a m c)) 25 (0, 0))
  row : ∃ β, SF bc 1 w 5 β (.slice a m c) t ∧ ∀ g, β = some g → lo ≤ g ∧ g < x
  le : lo ≤ x

theorem Ob.fr {w w' : World} {lo x : Nat} {E : En} {a : Option Addr} {m c : Nat} {t : List Int} {S : Nat → Prop} (h : Ob w lo x E a m c t) (hF : Fr S w w') (hS : ∀ k, lo ≤ k → k ≤ x → ¬ S k) : Ob w' lo x E a m c t := by
  refine ⟨hF.keeps h.ent (hS x h.le (Nat.le_refl _)), ?_, h.le⟩
  obtain ⟨β, h1, h2⟩ := h.row
  exact ⟨β, h1.fr hF (fun g hg => hS g (h2 g hg).1 (Nat.le_of_lt (h2 g hg).2)), h2⟩
theorem Ob.to {w w' : World} {lo x B : Nat} {E : En} {a : Option Addr} {m c : Nat} {t : List Int} (h : Ob w lo x E a m c t) (hb : Below B w w') (hB : x < B) : Ob w' lo x E a m c t := by
  have hF : Fr (fun k => B ≤ k) w w' := ⟨hb.os, hb.tape, hb.output, hb.size, fun k _ hn => hb.block k (by omega)⟩
  exact h.fr hF (fun k h1 h2 h3 => by omega)
theorem Ob.len {w : World} {lo x : Nat} {E : En} {a : Option Addr} {m c : Nat} {t : List Int} (h : Ob w lo x E a m c t) : t.length = m := by
  obtain ⟨β, h1, -⟩ := h.row
  obtain ⟨a', c', h2, -⟩ := h1.form
  injection h2 with h2 h3
  exact h3.symm
theorem Ob.rb {w : World} {lo x : Nat} {E : En} {a : Option Addr} {m c : Nat} {t : List Int} (h : Ob w lo x E a m c t) : RB w a m t := by
  have hl := h.len
  obtain ⟨β, h1, -⟩ := h.row
  obtain ⟨a', c', h2, h3⟩ := RB.of (base := 0) ⟨β, h1, fun _ _ => Nat.zero_le _⟩
  injection h2 with h4 h5 h6
  subst h4
  rw [hl] at h3
  exact h3
/-- A new entry, laid behind what Line answered. -/
theorem Ob.new {U U' : World} {E : En} {v : Value} (hN : NL bc 1 5 U' U.heap.size v (bI E.bytes)) (hB : Below U.heap.size U U') : ∃ a c, v = .slice a (bI E.bytes).length c ∧ ∀ o, o = Obj.cells (ecell E v) 25 (0, 0) → Ob (U'.alloc o) U.heap.size U'.heap.size E a (bI E.bytes).length c (bI E.bytes) := by
  obtain ⟨β, h1, h2⟩ := hN
  obtain ⟨a, c, hv, -⟩ := h1.form
  refine ⟨a, c, hv, ?_⟩
  rintro o rfl
  refine ⟨by rw [hv]; exact heap_alloc_new _ _, ⟨β, ?_, fun g hg => ⟨h2 g hg, h1.lt g hg⟩⟩, hB.size⟩
  rw [← hv]
  exact h1.fr (Fr.alloc (fun _ => False) _ _) (fun _ _ h => h)

theorem lit_crash : lineP [99, 114, 97, 115, 104, 32, 51, 32, 48, 32, 50, 53, 53] = { kind := 10, a := 3, c := 255 } := by rfl
theorem lit_forge : lineP [102, 111, 114, 103, 101, 32, 49, 32, 102, 102, 101, 101] = { kind := 13, site := 1, bytes := [255, 238] } := by rfl

theorem line_new (s : ByteArray) (E : En) (m : Nat) (w : World) (hz : s.size ≤ 2000000) (hV : Verbs w) (hE : lineP (tl s) = E) (hm : (bI E.bytes).length = m) :
    Calls Tryd.prog 9 #[.string s] w fun e w' => ∃ a c, e = .returned (.agg (ecell E (.slice a m c))) ∧ Hid (Ob (w'.alloc (.cells (ecell E (.slice a m c)) 25 (0, 0))) w.heap.size w'.heap.size E a m c (bI E.bytes) ∧ Below w.heap.size w w') := by
  subst hE
  subst hm
  refine (line_any s w hz hV).mono ?_
  rintro e w' ⟨v, rfl, hN, hB⟩
  obtain ⟨a, c, hv, ho⟩ := Ob.new hN hB
  subst hv
  exact ⟨a, c, rfl, ho _ rfl, hB⟩
theorem rline_new (s : ByteArray) (E : En) (m : Nat) (w : World) (hz : s.size ≤ 2000000) (hE : lineP (tl s) = E) (hm : (bI E.bytes).length = m) :
    Calls Tryd.prog 11 #[.string s] w fun e w' => ∃ a c, e = .returned (.agg (ecell E (.slice a m c))) ∧ Hid (Ob (w'.alloc (.cells (ecell E (.slice a m c)) 25 (0, 0))) w.heap.size w'.heap.size E a m c (bI E.bytes) ∧ Below w.heap.size w w') := by
  subst hE
  subst hm
  refine (rline_any s w hz).mono ?_
  rintro e w' ⟨v, rfl, hN, hB⟩
  obtain ⟨a, c, hv, ho⟩ := Ob.new hN hB
  subst hv
  exact ⟨a, c, rfl, ho _ rfl, hB⟩

end Go.Proofs.YtplmhilkehkeiaaDoor
