/-
  The document's makes.
-/
import Derived.Test.YtfhghijefjhehaaDoorHga
namespace Go.Proofs.YtfhghijefjhehaaDoor
open Go.RowKit
set_option linter.unusedVariables false

theorem below_drewN {B : Nat} {w w' : World} (h : Below B w w') (m : Nat) : Below B w (w'.drewN m) := ⟨h.os, h.tape, h.output, h.size, h.block⟩

/-- Does an event make this operation? -/
def mkE (e : Ev) (o : OpE) : Prop := e.o ≠ zo ∧ e.o = o

set_option maxRecDepth 100000 in
set_option maxHeartbeats 4000000 in
theorem rmakes_any (C : Int) (aL aE : Option Addr) (nL cL nE cE k : Nat) (log : List Ed) (evs : List Ev) (A : Nat → Option Addr) (K : Nat → Nat) (w : World) (hL : IsL w aL nL log) (hV : IsV w aE nE evs A K) (hk : k < nL) (hkl : k < log.length) (hn : nE ≤ 9223372036854775800) (hm : nL ≤ 4096) :
    Calls Tryd.prog 16 #[.agg #[.int .i64 C, .slice aL nL cL, .slice aE nE cE], .int .i64 k] w fun e w' => ∃ r : Bool, e = .returned (.bool r) ∧ (r = true ↔ ∃ j, ∃ h : j < evs.length, mkE evs[j] log[k].o) ∧ Below w.heap.size w w' := by
  have g := box_hist w #[.int .i64 C, .slice aL nL cL, .slice aE nE cE] 25
  have gb : Below w.heap.size w (w.alloc (.cells #[.int .i64 C, .slice aL nL cL, .slice aE nE cE] 25)) := (Below.refl _ _).alloc (Nat.le_refl _) _
  have H1 := hd (hL.below gb (Nat.le_refl _))
  have H2 := hd (hV.below gb (Nat.le_refl _))
  have HG := hd g
  have HB := hd gb
  clear hL hV g gb
  obtain ⟨bl, fl, rfl, sl, ql⟩ := H1.out.2 (by omega)
  have QL := hd (ql k hkl)
  clear ql sl
  generalize log[k] = y at *
  obtain ⟨yt, yk, yp, yc, yl, ys⟩ := y
  simp only at QL
  go_enter Tryd.func16, Tryd.ntmps16
  go_upto_region 1 with fail
  generalize w.alloc (.cells #[.int .i64 C, .slice (some ⟨bl, fl, none⟩) nL cL, .slice aE nE cE] 25) = w0 at *
  go_wp2_with fail
  have i0 : (k : Int) < (nL : Int) := by omega
  have HN := hd hn
  have HM := hd hm
  clear hn hm
  go_loopw [5] (fun b wr => ∃ i m : Nat, i ≤ nE ∧ b = .int .i64 i ∧ wr = w0.drewN m ∧ Hid (∀ j (h : j < evs.length), j < i → ¬ mkE evs[j] ⟨yk, yp, yc, yl, ys⟩)) (fun b _ => nE - (intOf b).toNat)
  case atStart => exact ⟨0, 0, Nat.zero_le _, rfl, rfl, fun j _ h => by omega⟩
  case round =>
    obtain ⟨i, m, hi, rfl, rfl, HR⟩ := hrel
    have x1 := cell_row HG.out 1
    have x2 := cell_row HG.out 2
    simp at x1 x2
    by_cases hlt : i < nE
    · have l1 : i < evs.length := by have := H2.out.1; omega
      obtain ⟨b, off, rfl, s1, q⟩ := H2.out.2 (by omega)
      obtain ⟨q0, q1, q2, q3, q4, q5, q6, q7, q8, q9⟩ := q i l1
      clear q q0 q1 q2 q3 q9 s1
      obtain ⟨y0, y1, y2, y3, y4, y5⟩ := QL.out
      clear y0
      have i1 : (i : Int) < (nE : Int) := by omega
      have HS := hd (show ∀ P : Prop, (¬ mkE evs[i] ⟨yk, yp, yc, yl, ys⟩) → ∀ j (h : j < evs.length), j < i + 1 → ¬ mkE evs[j] ⟨yk, yp, yc, yl, ys⟩ from fun _ h j hj hji => by
        by_cases e : j = i
        · subst e; exact h
        · exact HR.out j hj (by omega))
      have HE := hd (show mkE evs[i] ⟨yk, yp, yc, yl, ys⟩ → ∃ j, ∃ h : j < evs.length, mkE evs[j] ⟨yk, yp, yc, yl, ys⟩ from fun h => ⟨i, l1, h⟩)
      clear HR
      generalize evs[i] = x at *
      obtain ⟨x0, x1', x2', x3, ⟨ok, op, oc, oL, os⟩, xn⟩ := x
      simp only at q4 q5 q6 q7 q8
      by_cases hz : (⟨ok, op, oc, oL, os⟩ : OpE) = zo
      · obtain ⟨rfl, rfl, rfl, rfl, rfl⟩ := OpE.mk.inj hz
        go_wp2_with fail
        go_quiet (fail)
        go_wp2
        have Z := hd (HS.out True (fun h => h.1 rfl))
        have e3 : wrap64 ((i : Int) + 1) = ((i + 1 : Nat) : Int) := by have := HN.out; rw [wrap64]; omega
        first
          | exact ⟨⟨i + 1, _, by omega, rfl, rfl, Z⟩, by simp [intOf]; omega⟩
          | (rw [e3]; exact ⟨⟨i + 1, _, by omega, rfl, rfl, Z⟩, by simp [intOf]; omega⟩)
      · by_cases he : (⟨ok, op, oc, oL, os⟩ : OpE) = ⟨yk, yp, yc, yl, ys⟩
        · obtain ⟨rfl, rfl, rfl, rfl, rfl⟩ := OpE.mk.inj he
          have E1 := fun W => opNe hz W
          have E2 := fun W => opSame ok op oc oL os W
          have Z := hd (HE.out ⟨hz, rfl⟩)
          clear hz he HS HE
          go_wp2_with fail
          go_quiet (fail)
          clear E1 E2
          go_wp2
          go_ret
          exact ⟨true, rfl, ⟨fun _ => Z.out, fun _ => rfl⟩, below_drewN (below_drewN HB.out _) _⟩
        · have E1 := fun W => opNe hz W
          have E2 := fun W => opNe he W
          have Z := hd (HS.out True (fun h => he h.2))
          clear hz he HS HE
          go_wp2_with fail
          go_quiet (fail)
          clear E1 E2
          go_wp2
          have e3 : wrap64 ((i : Int) + 1) = ((i + 1 : Nat) : Int) := by have := HN.out; rw [wrap64]; omega
          first
            | exact ⟨⟨i + 1, _, by omega, rfl, rfl, Z⟩, by simp [intOf]; omega⟩
            | (rw [e3]; exact ⟨⟨i + 1, _, by omega, rfl, rfl, Z⟩, by simp [intOf]; omega⟩)
    · have i1 : ¬ (i : Int) < (nE : Int) := by omega
      have Z : Hid (∀ j (h : j < evs.length), ¬ mkE evs[j] ⟨yk, yp, yc, yl, ys⟩) := fun j hj => HR.out j hj (by have := H2.out.1; omega)
      clear HR
      go_wp2
      go_ret
      exact .inl ⟨rfl, Z.out, below_drewN HB.out _⟩

end Go.Proofs.YtfhghijefjhehaaDoor
