/-
  Texts put together: Jb Jd Je Jf.
-/
import Derived.Test.YtfhghijefjhehaaGreatDoorMIf
import Derived.Test.YtfhghijefjhehaaGreatDoorMIq
import Derived.Laws.StructEq
import Derived.Deep.QuietTactic
import Derived.BigQuiet
/-! Jb -/
namespace Go.Proofs.YtfhghijefjhehaaGreatDoor
open Go.RowKit
set_option linter.unusedVariables false

theorem elFields : Tryz.prog.underlying 42 = some (.struct (Tryz.prog.fieldsOf 42)) := by kernel_rfl
theorem elHeld : Tryz.prog.stoodInHeld 42 = false := by kernel_rfl
theorem elEq (c l s c' l' s' : Int) (W : World) : (Op.equalIn 10000 42 (.agg #[.int .u8 c, .int .i64 l, .int .i64 s]) (.agg #[.int .u8 c', .int .i64 l', .int .i64 s'])).run Tryz.prog W =
    .ok (decide (c = c' ∧ l = l' ∧ s = s')) W := by
  rw [show (10000 : Nat) = 9999 + 1 from rfl, run_equalIn_struct W _ _ _ _ elFields elHeld]
  simp only [Program.fieldsOf, Tryz.underlying42]
  by_cases h2 : c = c' <;> by_cases h3 : l = l' <;> by_cases h4 : s = s' <;>
    simp [Op.eqFields, part, go_sem, h2, h3, h4]
theorem elNe {c l s c' l' s' : Int} (h : ((c, l, s) : El) ≠ (c', l', s')) (W : World) : (Op.equalIn 10000 42 (.agg #[.int .u8 c, .int .i64 l, .int .i64 s]) (.agg #[.int .u8 c', .int .i64 l', .int .i64 s'])).run Tryz.prog W = .ok false W := by
  rw [elEq]
  congr 1
  have : ¬ (c = c' ∧ l = l' ∧ s = s') := fun ⟨h1, h2, h3⟩ => h (by rw [h1, h2, h3])
  simpa using this
theorem elSame (c l s : Int) (W : World) : (Op.equalIn 10000 42 (.agg #[.int .u8 c, .int .i64 l, .int .i64 s]) (.agg #[.int .u8 c, .int .i64 l, .int .i64 s])).run Tryz.prog W = .ok true W := by
  rw [elEq]
  simp

/-- A text in memory. -/
def IsTx (w : World) (a : Option Addr) (xs : List El) : Prop := 0 < xs.length → ∃ b off, a = some ⟨b, off, none⟩ ∧ b < w.heap.size ∧ ∀ q (hq : q < xs.length), w.cell? ⟨b, off + q * 3, none⟩ = some (.int .u8 xs[q].1) ∧ w.cell? ⟨b, off + q * 3 + 1, none⟩ = some (.int .i64 xs[q].2.1) ∧ w.cell? ⟨b, off + q * 3 + 2, none⟩ = some (.int .i64 xs[q].2.2)
theorem IsTx.below {w w' : World} {a : Option Addr} {xs : List El} {B : Nat} (h : IsTx w a xs) (hb : Below B w w') (hB : w.heap.size ≤ B) : IsTx w' a xs := by
  intro hl
  obtain ⟨b, off, e, hlt, hc⟩ := h hl
  refine ⟨b, off, e, Nat.lt_of_lt_of_le hlt hb.size, fun q hq => ?_⟩
  have k : ∀ m, w'.cell? ⟨b, m, none⟩ = w.cell? ⟨b, m, none⟩ := fun m => hb.cell (p := ⟨b, m, none⟩) (show b < B by omega)
  simp only [k]
  exact hc q hq

def elV (x : El) : Value := .agg #[.int .u8 x.1, .int .i64 x.2.1, .int .i64 x.2.2]
/-- The order of Client, Seq, Ch. -/
def lessB (a b : El) : Bool := if a.2.1 ≠ b.2.1 then decide (a.2.1 < b.2.1) else if a.2.2 ≠ b.2.2 then decide (a.2.2 < b.2.2) else decide (a.1 < b.1)

end Go.Proofs.YtfhghijefjhehaaGreatDoor

/-! Jd -/
namespace Go.Proofs.YtfhghijefjhehaaGreatDoor
open Go.RowKit
set_option linter.unusedVariables false

def keyNe (a b : El) : Prop := ¬ (a.2.1 = b.2.1 ∧ a.2.2 = b.2.2)
theorem keyNe.symm {a b : El} (h : keyNe a b) : keyNe b a := fun k => h ⟨k.1.symm, k.2.symm⟩
/-- While the element x is put to its place: what lies ahead and behind is in order, and x is ahead of all that is behind. -/
def Put (P : List El) (x : El) (S : List El) : Prop := (P ++ S).Pairwise ltK ∧ ∀ s ∈ S, ltK x s
theorem Put.start {L : List El} (h : L.Pairwise ltK) (x : El) : Put L x [] := ⟨by simpa using h, fun s hs => by cases hs⟩
theorem Put.step {P S : List El} {x y : El} (h : Put (P ++ [y]) x S) (hxy : ltK x y) : Put P x (y :: S) :=
  ⟨by simpa using h.1, fun s hs => by
    rcases List.mem_cons.1 hs with rfl | hs
    · exact hxy
    · exact h.2 s hs⟩
theorem ltK.trans {a b c : El} (h : ltK a b) (k : ltK b c) : ltK a c := by unfold ltK at *; omega
def oEl (o : OpE) : El := (o.ch, o.cl, o.sq)
def dEl (d : Dd) : El := (d.c, d.l, d.s)
section
variable (log : List Ed) (evs : List Ev) (D : Nat → List El) (e : Ev)
def shB (x : Ev) : Bool := !zoB x.o && decide (x.o.sq ≤ nP log e x.o.cl)
def inAt : Nat → List El
  | 0 => []
  | k + 1 => inAt k ++ (match evs[k]? with | some x => if shB log e x = true ∧ x.o.kind = 1 then [oEl x.o] else [] | none => [])
def outAt : Nat → List El
  | 0 => []
  | k + 1 => outAt k ++ (match evs[k]? with | some x => if shB log e x = true ∧ x.o.kind ≠ 1 then [(pvD evs D k x.site).getD x.o.pos.toNat (0, 0, 0)] else [] | none => [])
variable {log evs D e}
noncomputable def stayP (log : List Ed) (evs : List Ev) (D : Nat → List El) (e : Ev) : List El := open Classical in (inAt log evs e evs.length).filter fun y => decide (y ∉ outAt log evs D e evs.length)
end

end Go.Proofs.YtfhghijefjhehaaGreatDoor

/-! Je -/
namespace Go.Proofs.YtfhghijefjhehaaGreatDoor
open Go.RowKit
set_option linter.unusedVariables false

/-- A row of elements is a text. -/
theorem SF.text {w : World} {β : Option Nat} {v : Value} {xs : List El} (h : SF elc 3 w 42 β v xs) : ∃ a c, v = .slice a xs.length c ∧ IsTx w a xs := by
  cases β with
  | none =>
    obtain ⟨rfl, rfl⟩ := h
    exact ⟨none, 0, rfl, fun h => by simp at h⟩
  | some g =>
    obtain ⟨cap, rfl, hR⟩ := h
    refine ⟨_, cap, rfl, fun _ => ⟨g, 0, rfl, hR.lt, fun q hq => ?_⟩⟩
    have k0 := hR.cell szEl q 0 hq (by omega)
    have k1 := hR.cell szEl q 1 hq (by omega)
    have k2 := hR.cell szEl q 2 hq (by omega)
    simp only [elc] at k0 k1 k2
    simpa using ⟨k0, k1, k2⟩

end Go.Proofs.YtfhghijefjhehaaGreatDoor

/-! Jf -/
namespace Go.Proofs.YtfhghijefjhehaaGreatDoor
open Go.RowKit
set_option linter.unusedVariables false

end Go.Proofs.YtfhghijefjhehaaGreatDoor
