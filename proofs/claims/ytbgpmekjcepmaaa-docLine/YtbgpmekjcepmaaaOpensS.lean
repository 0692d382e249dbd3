/-
  Lists of steps that came in, opened.
-/
import Derived.Test.YtbgpmekjcepmaaaCommon
namespace Go.Proofs.Ytbgpmekjcepmaaa
open Go.ChangeShapes Go.WideShapes Go.ChangeAt Go.RowKit Go.Deep Go.Joins
set_option linter.unusedVariables false

/-- The slice value holds steps: out, place, character, by index. -/
def IsS (w : World) (a : Option Addr) (n c : Nat) (S : Nat → Bool × Int × Int) : Prop :=
  n ≤ c ∧ c ≤ 9223372036854775807 ∧
  (0 < n → ∃ b off, a = some ⟨b, off, none⟩ ∧ b < w.heap.size ∧ ∀ i, i < n → w.cell? ⟨b, off + i * 3, none⟩ = some (.bool (S i).1) ∧ w.cell? ⟨b, off + i * 3 + 1, none⟩ = some (.int .i64 (S i).2.1) ∧ w.cell? ⟨b, off + i * 3 + 2, none⟩ = some (.int .u8 (S i).2.2))

/-- Every character is a byte. -/
def OkS (S : Nat → Bool × Int × Int) : Prop := ∀ i, 0 ≤ (S i).2.2 ∧ (S i).2.2 ≤ 255

theorem IsS.below {w w' : World} {a : Option Addr} {n c : Nat} {S : Nat → Bool × Int × Int} (h : IsS w a n c S) (hb : Below w.heap.size w w') : IsS w' a n c S := by
  obtain ⟨h1, h2, h3⟩ := h
  refine ⟨h1, h2, fun hn => ?_⟩
  obtain ⟨b, off, e, hlt, hc⟩ := h3 hn
  refine ⟨b, off, e, Nat.lt_of_lt_of_le hlt hb.size, fun i hi => ?_⟩
  obtain ⟨k0, k1, k2⟩ := hc i hi
  exact ⟨(hb.cell (p := ⟨b, off + i * 3, none⟩) hlt).trans k0, (hb.cell (p := ⟨b, off + i * 3 + 1, none⟩) hlt).trans k1, (hb.cell (p := ⟨b, off + i * 3 + 2, none⟩) hlt).trans k2⟩
theorem IsS.take {w : World} {a : Option Addr} {n c : Nat} {S : Nat → Bool × Int × Int} (h : IsS w a n c S) (m : Nat) (hm : m ≤ n) : IsS w a m c S := by
  obtain ⟨h1, h2, h3⟩ := h
  refine ⟨by omega, h2, fun hn => ?_⟩
  obtain ⟨b, off, e, hlt, hc⟩ := h3 (by omega)
  exact ⟨b, off, e, hlt, fun i hi => hc i (by omega)⟩

theorem cellsS : Try.prog.cellsOf 47 = 3 := by kernel_rfl
theorem cells4 : Try.prog.cellsOf 4 = 1 := by kernel_rfl

set_option maxRecDepth 100000 in
theorem isSteps_of {H : Type} {enc : TypeId × Value → H} {W : World} {fuel : Nat} {v : Value} {d : DataW H} {p : List MemPlace}
    (hf : DataW.trod enc Try.prog W 0 (fun _ => true) true fuel 42 [v] = some (d, p)) (hs : Reaches 42 d) : ∃ a n c S, v = .slice a n c ∧ IsS W a n c S ∧ OkS S ∧ True := by
  rcases open_slice Try.underlying42 hf with ⟨hcs, _⟩ | ⟨x, l, cc, m, k, D, Pl, hcs, _, hl, hm, hmm, hd', hx⟩
  · simp at hcs
    exact ⟨none, 0, 0, fun _ => (false, 0, 0), hcs, ⟨Nat.le_refl _, by omega, fun h => by omega⟩, fun i => ⟨Int.le_refl _, by simp⟩, trivial⟩
  · simp at hcs
    have hmc : m = cc := by simpa using hmm
    subst hmc
    have each : ∀ i, ∃ q : Bool × Int × Int, (i < l → (W.cell? (x.add (i * 3)) = some (.bool q.1) ∧ W.cell? (x.add (i * 3 + 1)) = some (.int .i64 q.2.1) ∧ W.cell? (x.add (i * 3 + 2)) = some (.int .u8 q.2.2))) ∧ 0 ≤ q.2.2 ∧ q.2.2 ≤ 255 := by
      intro i
      by_cases hi : i < l
      · obtain ⟨cs', h1, h2⟩ := hx i (by omega)
        rw [cellsS] at h1
        obtain ⟨_, hlen, hcell⟩ := World.cells?_some h1
        obtain ⟨y0, y1, y2, q, hyx, _, g0, g1, g2⟩ := trod_struct3 Try.underlying47 h2
        match cs', hlen with
        | [v0, v1, v2], _ =>
          simp [cells3, cells5, cells4] at g0 g1 g2
          obtain ⟨z0, e0, _⟩ := DataW.trod_bool Try.underlying4 g0
          obtain ⟨z1, e1, _, _⟩ := DataW.trod_int Try.underlying3 g1
          obtain ⟨z2, e2, _, w2⟩ := DataW.trod_int Try.underlying5 g2
          simp at e0 e1 e2
          subst e0 e1 e2
          have k0 := hcell 0 (by omega)
          have k1 := hcell 1 (by omega)
          have k2 := hcell 2 (by omega)
          rw [add_add] at k0 k1 k2
          have := wf_u8_range w2
          exact ⟨(z0, z1, z2), fun _ => ⟨by simpa using k0, by simpa using k1, by simpa using k2⟩, this.1, this.2⟩
      · exact ⟨(false, 0, 0), fun h => absurd h hi, Int.le_refl _, by simp⟩
    obtain ⟨Q, hQ⟩ := Classical.axiomOfChoice each
    by_cases h0 : 0 < l
    · obtain ⟨b, off, spot⟩ := x
      have c0 := ((hQ 0).1 h0).1
      have hspot : spot = none := by simpa [Addr.add] using World.cell?_spot c0
      subst hspot
      have hblk := cell_lt c0
      rw [add_lit] at hblk
      refine ⟨_, l, m, Q, hcs, ⟨hl, by simpa [maxLen] using hm, fun _ => ⟨b, off, rfl, hblk, fun i hi => ?_⟩⟩, fun i => (hQ i).2, trivial⟩
      have := (hQ i).1 hi
      simp only [add_lit] at this
      simpa [Nat.add_assoc] using this
    · exact ⟨_, l, m, Q, hcs, ⟨hl, by simpa [maxLen] using hm, fun h => absurd h h0⟩, fun i => (hQ i).2, trivial⟩

end Go.Proofs.Ytbgpmekjcepmaaa
