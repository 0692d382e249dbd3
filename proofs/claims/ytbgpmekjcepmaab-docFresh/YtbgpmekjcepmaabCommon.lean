/-
  What the rows have in common: arguments opened.
-/
import Derived.Test.YtbgpmekjcepmaabParts
import Derived.ProofKit
import Derived.OpenShut
import Derived.ShutString
import Derived.ChangeOld
import Derived.Below
import Derived.Deep.Slices
import Derived.Lib.SmallJoins
import Derived.SizedLaws
import Derived.DataShut
namespace Go.Proofs.Ytbgpmekjcepmaab
open Go.ChangeShapes Go.WideShapes Go.ChangeAt Go.RowKit Go.Deep Go.Joins
set_option linter.unusedVariables false

theorem own : ownKnob Try.prog.godebug = none := by kernel_rfl
theorem laidOut : laidOutB Try.prog = true := by kernel_rfl
theorem bytesE : Try.prog.bytesOf 46 = 24 := by kernel_rfl
theorem cells3 : Try.prog.cellsOf 3 = 1 := by kernel_rfl
theorem cells5 : Try.prog.cellsOf 5 = 1 := by kernel_rfl
theorem cellsE : Try.prog.cellsOf 46 = 3 := by kernel_rfl
theorem cellsO : Try.prog.cellsOf 29 = 5 := by kernel_rfl

theorem cell_lt {w : World} {a : Addr} {v : Value} (h : w.cell? a = some v) : a.block < w.heap.size := by
  by_cases hb : a.block < w.heap.size
  · exact hb
  · unfold World.cell? at h
    rw [Array.getElem?_eq_none (by omega)] at h
    simp at h

theorem wf_u8_range {n : Int} (h : (Lit.int .u8 n).wf = true) : 0 ≤ n ∧ n ≤ 255 := (Lit.wf_int_iff .u8 n).1 h
theorem wf_i64_range {n : Int} (h : (Lit.int .i64 n).wf = true) : -9223372036854775808 ≤ n ∧ n ≤ 9223372036854775807 := (Lit.wf_int_iff .i64 n).1 h

/-- The reach, of all that a datum holds. -/
def Reaches {H : Type} (t : TypeId) (d : DataW H) : Prop := ∀ k ∈ d.weights Try.prog t, k ≤ 140737488351232

theorem reaches_of {H : Type} {ts : List TypeId} {ds : List (DataW H)} (h : (DataW.weightsEach Try.prog ts ds).all (· ≤ reachBytes) = true) {j : Nat} {t : TypeId} {d : DataW H} (ht : ts[j]? = some t) (hd' : ds[j]? = some d) : Reaches t d := by
  intro k hk
  have := List.all_eq_true.1 h k (DataW.weights_mem_each ht hd' k hk)
  exact of_decide_eq_true this

section
variable {H : Type} {enc : TypeId × Value → H} {P : Program} {w : World} {base : Nat} {spare : Nat → Bool} {held : Bool}

theorem array3 {α : Type} {cs : Array α} (h : cs.size = 3) : ∃ c0 c1 c2, cs = #[c0, c1, c2] := by
  obtain ⟨l⟩ := cs
  match l, h with
  | [c0, c1, c2], _ => exact ⟨c0, c1, c2, rfl⟩
theorem array5 {α : Type} {cs : Array α} (h : cs.size = 5) : ∃ c0 c1 c2 c3 c4, cs = #[c0, c1, c2, c3, c4] := by
  obtain ⟨l⟩ := cs
  match l, h with
  | [c0, c1, c2, c3, c4], _ => exact ⟨c0, c1, c2, c3, c4, rfl⟩

theorem trod_struct3 {t : TypeId} {f0 f1 f2 : Field} {fuel : Nat} {cs : List Value} {x : DataW H × List MemPlace} (ht : P.underlying t = some (.struct #[f0, f1, f2])) (h : DataW.trod enc P w base spare held fuel t cs = some x) :
    ∃ y0 y1 y2 n, x = (.agg [y0.1, y1.1, y2.1], y0.2 ++ (y1.2 ++ y2.2)) ∧ cs.length = P.cellsOf t ∧ DataW.trod enc P w base spare held n f0.type ((cs.drop f0.offset).take (P.cellsOf f0.type)) = some y0 ∧
      DataW.trod enc P w base spare held n f1.type ((cs.drop f1.offset).take (P.cellsOf f1.type)) = some y1 ∧ DataW.trod enc P w base spare held n f2.type ((cs.drop f2.offset).take (P.cellsOf f2.type)) = some y2 := by
  obtain ⟨xs, n, _, rfl, hl, hlen, hf⟩ := DataW.trod_struct ht h
  match xs, hlen with
  | [y0, y1, y2], _ => exact ⟨y0, y1, y2, n, by simp, hl, by simpa using hf 0 f0 rfl, by simpa using hf 1 f1 rfl, by simpa using hf 2 f2 rfl⟩

theorem trod_struct5 {t : TypeId} {f0 f1 f2 f3 f4 : Field} {fuel : Nat} {cs : List Value} {x : DataW H × List MemPlace} (ht : P.underlying t = some (.struct #[f0, f1, f2, f3, f4])) (h : DataW.trod enc P w base spare held fuel t cs = some x) :
    ∃ y0 y1 y2 y3 y4 n, x = (.agg [y0.1, y1.1, y2.1, y3.1, y4.1], y0.2 ++ (y1.2 ++ (y2.2 ++ (y3.2 ++ y4.2)))) ∧ cs.length = P.cellsOf t ∧ DataW.trod enc P w base spare held n f0.type ((cs.drop f0.offset).take (P.cellsOf f0.type)) = some y0 ∧
      DataW.trod enc P w base spare held n f1.type ((cs.drop f1.offset).take (P.cellsOf f1.type)) = some y1 ∧ DataW.trod enc P w base spare held n f2.type ((cs.drop f2.offset).take (P.cellsOf f2.type)) = some y2 ∧
      DataW.trod enc P w base spare held n f3.type ((cs.drop f3.offset).take (P.cellsOf f3.type)) = some y3 ∧ DataW.trod enc P w base spare held n f4.type ((cs.drop f4.offset).take (P.cellsOf f4.type)) = some y4 := by
  obtain ⟨xs, n, _, rfl, hl, hlen, hf⟩ := DataW.trod_struct ht h
  match xs, hlen with
  | [y0, y1, y2, y3, y4], _ => exact ⟨y0, y1, y2, y3, y4, n, by simp, hl, by simpa using hf 0 f0 rfl, by simpa using hf 1 f1 rfl, by simpa using hf 2 f2 rfl, by simpa using hf 3 f3 rfl, by simpa using hf 4 f4 rfl⟩
end

section
variable {H : Type} {enc : TypeId × Value → H} {W : World}

/-- An operation that came in. -/
theorem isOp_of {r : Reach} {b0 : Nat} {v : Value} {d : DataW H} {p : List MemPlace} (hv : Value.okWide Try.prog W r b0 29 v) (h : DataW.Trod enc Try.prog W 0 (fun _ => true) true 29 v d p) :
    ∃ k q c l s, v = .agg #[.int .i64 k, .int .i64 q, .int .u8 c, .int .i64 l, .int .i64 s] ∧ 0 ≤ c ∧ c ≤ 255 := by
  obtain ⟨cs, rfl, hsz⟩ := okWide_struct Try.underlying29 hv
  obtain ⟨c0, c1, c2, c3, c4, rfl⟩ := array5 (hsz.trans cellsO)
  obtain ⟨fuel, hf⟩ := h
  obtain ⟨y0, y1, y2, y3, y4, n, hx, _, h0, h1, h2, h3, h4⟩ := trod_struct5 Try.underlying29 hf
  simp [Value.cells, cells3, cells5] at h0 h1 h2 h3 h4
  obtain ⟨z0, e0, _, _⟩ := DataW.trod_int Try.underlying3 h0
  obtain ⟨z1, e1, _, _⟩ := DataW.trod_int Try.underlying3 h1
  obtain ⟨z2, e2, _, g2⟩ := DataW.trod_int Try.underlying5 h2
  obtain ⟨z3, e3, _, _⟩ := DataW.trod_int Try.underlying3 h3
  obtain ⟨z4, e4, _, _⟩ := DataW.trod_int Try.underlying3 h4
  simp at e0 e1 e2 e3 e4
  subst e0 e1 e2 e3 e4
  have := wf_u8_range g2
  exact ⟨z0, z1, z2, z3, z4, rfl, this.1, this.2⟩

/-- An element that came in. -/
theorem isEl_of {r : Reach} {b0 : Nat} {v : Value} {d : DataW H} {p : List MemPlace} (hv : Value.okWide Try.prog W r b0 46 v) (h : DataW.Trod enc Try.prog W 0 (fun _ => true) true 46 v d p) :
    ∃ c l s, v = .agg #[.int .u8 c, .int .i64 l, .int .i64 s] ∧ 0 ≤ c ∧ c ≤ 255 := by
  obtain ⟨cs, rfl, hsz⟩ := okWide_struct Try.underlying46 hv
  obtain ⟨c0, c1, c2, rfl⟩ := array3 (hsz.trans cellsE)
  obtain ⟨fuel, hf⟩ := h
  obtain ⟨y0, y1, y2, n, hx, _, h0, h1, h2⟩ := trod_struct3 Try.underlying46 hf
  simp [Value.cells, cells3, cells5] at h0 h1 h2
  obtain ⟨z0, e0, _, g0⟩ := DataW.trod_int Try.underlying5 h0
  obtain ⟨z1, e1, _, _⟩ := DataW.trod_int Try.underlying3 h1
  obtain ⟨z2, e2, _, _⟩ := DataW.trod_int Try.underlying3 h2
  simp at e0 e1 e2
  subst e0 e1 e2
  have := wf_u8_range g0
  exact ⟨z0, z1, z2, rfl, this.1, this.2⟩

/-- Every character is a byte. -/
def OkE (xs : List El) : Prop := ∀ x ∈ xs, 0 ≤ x.1 ∧ x.1 ≤ 255

theorem cE_of_fn (D : Nat → El) : ∀ (l : Nat) (j : Nat) (v : Value), (cE ((List.range l).map D))[j]? = some v → ∃ i r, i < l ∧ j = i * 3 + r ∧ r < 3 ∧ (elc (D i))[r]? = some v := by
  intro l
  induction l with
  | zero => intro j v h; simp [cE] at h
  | succ l ih =>
    intro j v h
    rw [List.range_succ, List.map_append, cE_app, List.getElem?_append] at h
    have hl : (cE ((List.range l).map D)).length = l * 3 := by rw [cE_len]; simp
    split at h
    · obtain ⟨i, r, h1, h2⟩ := ih j v h
      exact ⟨i, r, by omega, h2⟩
    · rename_i hj
      rw [hl] at h hj
      simp only [List.map_cons, List.map_nil, cE_one] at h
      have h3 : j - l * 3 < 3 := by
        have := (List.getElem?_eq_some_iff.1 h).1
        simpa [elc] using this
      exact ⟨l, j - l * 3, by omega, by omega, h3, h⟩

set_option maxRecDepth 100000 in
theorem isE_of {fuel : Nat} {v : Value} {d : DataW H} {p : List MemPlace}
    (hf : DataW.trod enc Try.prog W 0 (fun _ => true) true fuel 22 [v] = some (d, p)) (hs : Reaches 22 d) : ∃ a n c xs, v = .slice a n c ∧ IsE W a n c xs ∧ OkE xs ∧ n * 24 ≤ 140737488351232 := by
  rcases open_slice Try.underlying22 hf with ⟨hcs, _⟩ | ⟨x, l, cc, m, k, D, Pl, hcs, _, hl, hm, hmm, hd', hx⟩
  · simp at hcs
    exact ⟨none, 0, 0, [], hcs, isE_nil W, fun x hx => (by cases hx), by omega⟩
  · simp at hcs
    have hmc : m = cc := by simpa using hmm
    subst hmc
    have hd2 : d = _ := (Prod.mk.inj hd').1
    have hby : l * 24 ≤ 140737488351232 := by
      subst hd2
      have := hs ((((List.range l).map D).length + ((List.range (m - l)).map fun j => D (l + j)).length) * Try.prog.bytesOf 46) (by simp [DataW.weights, Try.underlying22])
      rw [bytesE] at this
      simp at this
      omega
    have each : ∀ i, ∃ q : El, i < l → (W.cell? (x.add (i * 3)) = some (.int .u8 q.1) ∧ W.cell? (x.add (i * 3 + 1)) = some (.int .i64 q.2.1) ∧ W.cell? (x.add (i * 3 + 2)) = some (.int .i64 q.2.2) ∧ 0 ≤ q.1 ∧ q.1 ≤ 255) := by
      intro i
      by_cases hi : i < l
      · obtain ⟨cs', h1, h2⟩ := hx i (by omega)
        rw [cellsE] at h1
        obtain ⟨_, hlen, hcell⟩ := World.cells?_some h1
        obtain ⟨y0, y1, y2, q, hyx, _, g0, g1, g2⟩ := trod_struct3 Try.underlying46 h2
        match cs', hlen with
        | [v0, v1, v2], _ =>
          simp [cells3, cells5] at g0 g1 g2
          obtain ⟨z0, e0, _, w0⟩ := DataW.trod_int Try.underlying5 g0
          obtain ⟨z1, e1, _, _⟩ := DataW.trod_int Try.underlying3 g1
          obtain ⟨z2, e2, _, _⟩ := DataW.trod_int Try.underlying3 g2
          simp at e0 e1 e2
          subst e0 e1 e2
          have k0 := hcell 0 (by omega)
          have k1 := hcell 1 (by omega)
          have k2 := hcell 2 (by omega)
          rw [add_add] at k0 k1 k2
          have := wf_u8_range w0
          exact ⟨(z0, z1, z2), fun _ => ⟨by simpa using k0, by simpa using k1, by simpa using k2, this.1, this.2⟩⟩
      · exact ⟨(0, 0, 0), fun h => absurd h hi⟩
    obtain ⟨Q, hQ⟩ := Classical.axiomOfChoice each
    by_cases h0 : 0 < l
    · obtain ⟨b, off, spot⟩ := x
      have c0 := (hQ 0 h0).1
      have hspot : spot = none := by simpa [Addr.add] using World.cell?_spot c0
      subst hspot
      have hblk := cell_lt c0
      rw [add_lit] at hblk
      refine ⟨_, l, m, (List.range l).map Q, hcs, ⟨by simp, hl, by simpa [maxLen] using hm, fun _ => ⟨b, off, rfl, hblk, fun j v hj => ?_⟩⟩, ?_, hby⟩
      · obtain ⟨i, r, hi, rfl, hr, hv⟩ := cE_of_fn Q l j v hj
        obtain ⟨k0, k1, k2, _⟩ := hQ i hi
        rw [add_lit] at k0 k1 k2
        match r, hr with
        | 0, _ => simp [elc] at hv; subst hv; exact k0
        | 1, _ => simp [elc] at hv; subst hv; exact k1
        | 2, _ => simp [elc] at hv; subst hv; exact k2
      · intro q hq
        obtain ⟨i, hi, rfl⟩ := List.mem_map.1 hq
        exact (hQ i (List.mem_range.1 hi)).2.2.2
    · obtain rfl : l = 0 := by omega
      exact ⟨_, 0, m, [], hcs, ⟨rfl, hl, by simpa [maxLen] using hm, fun h => absurd h h0⟩, fun x hx => (by cases hx), by omega⟩
end

end Go.Proofs.Ytbgpmekjcepmaab
