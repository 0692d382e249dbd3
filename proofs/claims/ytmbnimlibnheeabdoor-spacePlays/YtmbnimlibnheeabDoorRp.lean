/-
  The document's space, without memory, and the program's beside it.
-/
import Derived.Test.YtmbnimlibnheeabDoorRb
namespace Go.Proofs.YtmbnimlibnheeabDoor
open Go.RowKit
set_option linter.unusedVariables false

/-- The document's space: all that was kept, all that crossed (of which own to which, and what), how many are dropped. -/
structure Rf where
  f : Bool
  own : List (Int × OpE)
  far : List (Nat × Nat × OpE)
  dr : Nat

/-- One that crossed, carried past those that it met. -/
def bend (f : Bool) (L : List OpE) (e : Nat × Nat × OpE) : List OpE := L.take e.1 ++ (throughP e.2.2 ((L.drop e.1).take (e.2.1 - e.1)) f).2 ++ L.drop e.2.1
def EOk (n : Nat) (e : Nat × Nat × OpE) : Prop := e.1 ≤ e.2.1 ∧ e.2.1 ≤ n
theorem bend_len {f : Bool} {L : List OpE} {e : Nat × Nat × OpE} (h : EOk L.length e) : (bend f L e).length = L.length := by
  obtain ⟨h1, h2⟩ := h
  unfold bend
  simp only [List.length_append, throughP_len, List.length_take, List.length_drop]
  omega
theorem bend_snoc {f : Bool} {L : List OpE} {e : Nat × Nat × OpE} (h : EOk L.length e) (o : OpE) : bend f (L ++ [o]) e = bend f L e ++ [o] := by
  obtain ⟨h1, h2⟩ := h
  unfold bend
  rw [List.take_append_of_le_length (by omega), List.drop_append_of_le_length (by omega), List.drop_append_of_le_length h2, List.take_append_of_le_length (by simp; omega)]
  simp
def formsL (f : Bool) (L : List OpE) (far : List (Nat × Nat × OpE)) : List OpE := far.foldl (bend f) L
theorem formsL_len {f : Bool} (far : List (Nat × Nat × OpE)) : ∀ L : List OpE, (∀ e ∈ far, EOk L.length e) → (formsL f L far).length = L.length := by
  induction far with
  | nil => intro L _; rfl
  | cons e far ih =>
    intro L h
    have h1 := bend_len (f := f) (h e (by simp))
    show (formsL f (bend f L e) far).length = _
    rw [ih _ (fun x hx => by rw [h1]; exact h x (by simp [hx])), h1]
theorem formsL_snoc {f : Bool} (far : List (Nat × Nat × OpE)) : ∀ (L : List OpE) (o : OpE), (∀ e ∈ far, EOk L.length e) → formsL f (L ++ [o]) far = formsL f L far ++ [o] := by
  induction far with
  | nil => intro L o _; rfl
  | cons e far ih =>
    intro L o h
    have h1 := bend_len (f := f) (h e (by simp))
    show formsL f (bend f (L ++ [o]) e) far = formsL f (bend f L e) far ++ [o]
    rw [bend_snoc (h e (by simp)), ih _ _ (fun x hx => by rw [h1]; exact h x (by simp [hx]))]
theorem formsL_more {f : Bool} (far : List (Nat × Nat × OpE)) (L : List OpE) (e : Nat × Nat × OpE) : formsL f L (far ++ [e]) = bend f (formsL f L far) e := by
  unfold formsL
  rw [List.foldl_append]
  rfl

def Rf.forms (r : Rf) : List OpE := formsL r.f (r.own.map (·.2)) r.far
def Rf.last (r : Rf) : Int := match r.own.getLast? with | some x => x.1 | none => 0
structure Rf.ok (r : Rf) : Prop where
  dr : r.dr ≤ r.own.length
  far : ∀ e ∈ r.far, EOk r.own.length e
def rkeepE (r : Rf) (m : Int) (o : OpE) : Int := if validP o ≠ 0 then validP o else if m ≤ r.last ∨ 4096 < m then 100 else 0
def rkeepS (r : Rf) (m : Int) (o : OpE) : Rf := if rkeepE r m o = 0 then { r with own := r.own ++ [(m, o)] } else r
def rdropN (r : Rf) (m : Int) : Nat := ((r.own.drop r.dr).takeWhile (fun x => decide (x.1 ≤ m))).length
def rdropS (r : Rf) (m : Int) : Rf := { r with dr := r.dr + rdropN r m }
def rpast (r : Rf) (o : OpE) : OpE := (throughP o (r.forms.drop r.dr) r.f).1
def rlookO (r : Rf) (o : OpE) : OpE := if validP o = 0 then rpast r o else zop
def rcrossS (r : Rf) (o : OpE) : Rf := if validP o = 0 then { r with far := r.far ++ [(r.dr, r.own.length, o)] } else r
def Rf.queue (r : Rf) : List (Int × OpE) := ((r.own.map (·.1)).drop r.dr).zip (r.forms.drop r.dr)
theorem Rf.forms_len {r : Rf} (h : r.ok) : r.forms.length = r.own.length := by
  unfold Rf.forms
  rw [formsL_len _ _ (fun e he => by simpa using h.far e he)]
  simp

/-- The program's space and the document's. -/
structure Rel (p : Sp) (r : Rf) : Prop where
  f : p.f = r.f
  ms : p.ms = (r.own.map (·.1)).drop r.dr
  os : p.os = r.forms.drop r.dr
  last : p.last = r.last
  ok : r.ok
theorem Rel.start (f : Bool) : Rel ⟨f, [], 0⟩ ⟨f, [], [], 0⟩ := ⟨rfl, rfl, rfl, rfl, ⟨by simp, by simp⟩⟩
theorem Rel.keep {p : Sp} {r : Rf} (h : Rel p r) (m : Int) (o : OpE) : keepE p m o = rkeepE r m o ∧ Rel (keepS p m o) (rkeepS r m o) := by
  have hE : keepE p m o = rkeepE r m o := by
    unfold keepE rkeepE
    rw [h.last]
  refine ⟨hE, ?_⟩
  unfold keepS rkeepS
  rw [hE]
  split
  · have h1 := h.ok.dr
    refine ⟨h.f, ?_, ?_, ?_, ⟨by simp; omega, fun e he => ?_⟩⟩
    · simp only [Sp.ms, List.map_append]
      rw [List.drop_append_of_le_length (by simp; exact h1)]
      have := h.ms
      unfold Sp.ms at this
      rw [this]
      try rfl
    · simp only [Sp.os, Rf.forms, List.map_append]
      show _ = List.drop r.dr (formsL r.f (r.own.map (·.2) ++ [o]) r.far)
      rw [formsL_snoc _ _ _ (fun e he => by simpa using h.ok.far e he), List.drop_append_of_le_length (by have := Rf.forms_len h.ok; unfold Rf.forms at this; omega)]
      have := h.os
      unfold Sp.os Rf.forms at this
      rw [this]
      try rfl
    · simp [Rf.last]
    · obtain ⟨e1, e2⟩ := h.ok.far e he
      exact ⟨e1, by simp; omega⟩
  · exact h
theorem Rel.queue {p : Sp} {r : Rf} (h : Rel p r) : p.q = r.queue := by
  unfold Rf.queue
  rw [← h.ms, ← h.os]
  unfold Sp.ms Sp.os
  generalize p.q = q
  induction q with
  | nil => rfl
  | cons x q ih => simp only [List.map_cons, List.zip_cons_cons, ← ih]
theorem Rel.drop {p : Sp} {r : Rf} (h : Rel p r) (m : Int) : dropN p m = rdropN r m ∧ Rel (dropS p m) (rdropS r m) := by
  have hN : dropN p m = rdropN r m := by
    rw [dropN_up, h.ms, ← List.map_drop]
    unfold upN rdropN
    rw [List.takeWhile_map, List.length_map]
    rfl
  have hle : rdropN r m ≤ (r.own.drop r.dr).length := (List.takeWhile_sublist _).length_le
  rw [List.length_drop] at hle
  have h1 := h.ok.dr
  refine ⟨hN, h.f, ?_, ?_, h.last, ⟨by simp only [rdropS]; omega, h.ok.far⟩⟩
  · rw [dropS_ms, hN, h.ms, List.drop_drop]
    rfl
  · rw [dropS_os, hN, h.os, List.drop_drop]
    rfl
theorem Rel.cross {p : Sp} {r : Rf} (h : Rel p r) (o : OpE) : crossO p o = rlookO r o ∧ Rel (crossS p o) (rcrossS r o) := by
  have hl := Rf.forms_len h.ok
  have hdr := h.ok.dr
  have hth : throughP o p.os p.f = throughP o (r.forms.drop r.dr) r.f := by rw [h.os, h.f]
  unfold crossO rlookO crossS rcrossS
  split
  · refine ⟨?_, h.f, ?_, ?_, h.last, ⟨hdr, fun e he => ?_⟩⟩
    · rw [thrQ_1]
      exact congrArg Prod.fst hth
    · show (thrQ o p.q p.f).2.map (·.1) = _
      rw [thrQ_m]
      exact h.ms
    · show (thrQ o p.q p.f).2.map (·.2) = List.drop r.dr (formsL r.f (r.own.map (·.2)) (r.far ++ [(r.dr, r.own.length, o)]))
      rw [thrQ_2, formsL_more]
      show (throughP o p.os p.f).2 = List.drop r.dr (bend r.f r.forms (r.dr, r.own.length, o))
      rw [hth]
      unfold bend
      simp only
      rw [List.take_of_length_le (l := r.forms.drop r.dr) (by simp; omega), List.drop_of_length_le (i := r.own.length) (by omega), List.append_nil, List.drop_left' (by simp; omega)]
    · simp only [List.mem_append, List.mem_singleton] at he
      rcases he with he | rfl
      · exact h.ok.far e he
      · exact ⟨hdr, Nat.le_refl _⟩
  · exact ⟨rfl, h⟩

end Go.Proofs.YtmbnimlibnheeabDoor
