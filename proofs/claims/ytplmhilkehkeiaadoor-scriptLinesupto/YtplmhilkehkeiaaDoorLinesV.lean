/-
  ScriptLines: the table of verbs out of what the row lists, and an input that fits.
-/
import Derived.Test.YtplmhilkehkeiaaDoorRows
import Derived.Test.YtplmhilkehkeiaaDoorSf
import Derived.ProofKit
import Derived.OpenShut
import Derived.LaidMore
import Derived.Lay
import Derived.Stop.Joined
import Derived.Deep.DeepHandedRow
namespace Go.Proofs.YtplmhilkehkeiaaDoor
open Go.ChangeShapes Go.WideShapes Go.ChangeAt Go.RowKit
set_option linter.unusedVariables false

theorem own : ownKnob Tryd.prog.godebug = none := by kernel_rfl
theorem laidOut : laidOutB Tryd.prog = true := by kernel_rfl
theorem cellsStr : Tryd.prog.cellsOf 9 = 1 := by kernel_rfl
theorem cellsVerbs : Tryd.prog.cellsOf 83 = 14 := by kernel_rfl
theorem gVerbs : Tryd.prog.globalNamed "jotter/script.verbs" = some 0 := by kernel_rfl
theorem tVerbs : (Tryd.prog.globals[0]?).map (·.type) = some 83 := by kernel_rfl

/-- The list of the row: three variables. -/
abbrev laid3 : List (String × DataW Unit) := [("unicode/utf8.acceptRanges", Rows.laid_unicode_utf8_acceptRanges), ("jotter/script.verbs", Rows.laid_jotter_script_verbs), ("unicode/utf8.first", Rows.laid_unicode_utf8_first)]

theorem str_of {W : World} {m : Nat} {l : List Value} {x : DataW Unit × List MemPlace} {bs : List UInt8} (h : DataW.trod (fun _ => ()) Tryd.prog W 0 (fun _ => true) false m 9 l = some x) (hx : x.1 = .lit (.string bs)) : l = [.string ⟨bs.toArray⟩] := by
  obtain ⟨s, e, g, _⟩ := DataW.trod_string Tryd.underlying9 h
  subst g
  have : s.data.toList = bs := by simpa using hx
  subst this
  rw [e]

theorem list14 {α : Type} : ∀ (l : List α), l.length = 14 → ∃ v0 v1 v2 v3 v4 v5 v6 v7 v8 v9 v10 v11 v12 v13, l = [v0, v1, v2, v3, v4, v5, v6, v7, v8, v9, v10, v11, v12, v13]
  | [v0, v1, v2, v3, v4, v5, v6, v7, v8, v9, v10, v11, v12, v13], _ => ⟨v0, v1, v2, v3, v4, v5, v6, v7, v8, v9, v10, v11, v12, v13, rfl⟩

theorem verbs_of_laid {W : World} (h : laidMetH Tryd.prog laid3 W) : Verbs W := by
  rw [MakeChecks.laidMetH_plain _ _ _ (by kernel_rfl)] at h
  obtain ⟨ps, ⟨g1, t1, cs1, f1, p1, q1, hg1, ht1, hv1, hd1, ⟨g0, t0, cs0, f0, p0, q0, hg0, ht0, hv0, hd0, _, _⟩, _⟩, _, _⟩ := h
  obtain rfl := Option.some.inj (gVerbs.symm.trans hg0)
  obtain rfl := Option.some.inj (tVerbs.symm.trans ht0)
  obtain ⟨xs, m1, _, hx1, hlen, hn3, hel⟩ := DataW.trod_array Tryd.underlying83 hd0
  rw [cellsVerbs] at hlen
  have hw : ∃ t fr, W.heap[0]? = some (.cells cs0 t fr) := by
    unfold World.var? at hv0
    rw [hg0] at hv0
    simp only [Option.bind_some] at hv0
    split at hv0
    · rename_i cs t fr hh
      obtain rfl := Option.some.inj hv0
      exact ⟨t, fr, hh⟩
    · cases hv0
  obtain ⟨t, fr, hw⟩ := hw
  refine ⟨t, fr, ?_⟩
  rw [hw]
  obtain ⟨l⟩ := cs0
  simp only [Rows.laid_jotter_script_verbs, Prod.mk.injEq, DataW.agg.injEq] at hx1
  have h0 := hel 0 (by decide)
  have h1 := hel 1 (by decide)
  have h2 := hel 2 (by decide)
  have h3 := hel 3 (by decide)
  have h4 := hel 4 (by decide)
  have h5 := hel 5 (by decide)
  have h6 := hel 6 (by decide)
  have h7 := hel 7 (by decide)
  have h8 := hel 8 (by decide)
  have h9 := hel 9 (by decide)
  have h10 := hel 10 (by decide)
  have h11 := hel 11 (by decide)
  have h12 := hel 12 (by decide)
  have h13 := hel 13 (by decide)
  clear hel hd0 hv0 hw
  obtain ⟨v0, v1, v2, v3, v4, v5, v6, v7, v8, v9, v10, v11, v12, v13, rfl⟩ := list14 l hlen
  obtain ⟨x0, x1, x2, x3, x4, x5, x6, x7, x8, x9, x10, x11, x12, x13, rfl⟩ := list14 xs hn3
  simp [cellsStr] at h0 h1 h2 h3 h4 h5 h6 h7 h8 h9 h10 h11 h12 h13
  simp only [List.map_cons, List.map_nil, List.cons.injEq, and_true] at hx1
  obtain ⟨⟨e0, e1, e2, e3, e4, e5, e6, e7, e8, e9, e10, e11, e12, e13⟩, _⟩ := hx1
  have i0 := str_of h0 e0.symm
  have i1 := str_of h1 e1.symm
  have i2 := str_of h2 e2.symm
  have i3 := str_of h3 e3.symm
  have i4 := str_of h4 e4.symm
  have i5 := str_of h5 e5.symm
  have i6 := str_of h6 e6.symm
  have i7 := str_of h7 e7.symm
  have i8 := str_of h8 e8.symm
  have i9 := str_of h9 e9.symm
  have i10 := str_of h10 e10.symm
  have i11 := str_of h11 e11.symm
  have i12 := str_of h12 e12.symm
  have i13 := str_of h13 e13.symm
  rw [(List.cons.inj i0).1, (List.cons.inj i1).1, (List.cons.inj i2).1, (List.cons.inj i3).1, (List.cons.inj i4).1, (List.cons.inj i5).1, (List.cons.inj i6).1, (List.cons.inj i7).1, (List.cons.inj i8).1, (List.cons.inj i9).1, (List.cons.inj i10).1, (List.cons.inj i11).1, (List.cons.inj i12).1, (List.cons.inj i13).1]
  rfl
end Go.Proofs.YtplmhilkehkeiaaDoor
