/-
  Rows of operations among the objects; lines that cross.
-/
import Derived.Test.YtmbnimlibnheeaaDoorLooks
import Derived.Test.YtmbnimlibnheeaaDoorNd
namespace Go.Proofs.YtmbnimlibnheeaaDoor
open Go.RowKit
set_option linter.unusedVariables false

def rowO (v : Value) (xs : List OpE) : Thg := fun w S => ∃ β, SO w β v xs ∧ (∀ g, β = some g → S g) ∧ ∀ k, S k → k < w.heap.size
theorem frm_row (v : Value) (xs : List OpE) : Frm (rowO v xs) := by
  refine ⟨fun w w' S T h hF hS => ?_, fun w S h => ?_⟩
  · obtain ⟨β, h1, h2, h3⟩ := h
    exact ⟨β, h1.fr hF (fun g hg => hS g (h2 g hg)), h2, fun k hk => Nat.lt_of_lt_of_le (h3 k hk) hF.size⟩
  · obtain ⟨β, h1, h2, h3⟩ := h
    exact h3

def nilV : Value := .slice none 0 0
def FL (x : Nat) (p : Sp) (v1 : Value) (a1 : List OpE) (v2 : Value) (a2 : List OpE) (v3 : Value) (a3 : List OpE) : Nat → Thg := fun i =>
  match i with
  | 0 => spO x p
  | 1 => rowO v1 a1
  | 2 => rowO v2 a2
  | 3 => rowO v3 a3
  | _ => noObj
section
variable {x : Nat} {p p' : Sp} {v1 v2 v3 v' : Value} {a1 a2 a3 a' : List OpE}
theorem FL_0 : setO (FL x p v1 a1 v2 a2 v3 a3) 0 (spO x p') = FL x p' v1 a1 v2 a2 v3 a3 := by
  funext i; unfold setO FL; rcases i with _ | _ | _ | _ | i <;> simp
theorem FL_1 : setO (FL x p v1 a1 v2 a2 v3 a3) 1 (rowO v' a') = FL x p v' a' v2 a2 v3 a3 := by
  funext i; unfold setO FL; rcases i with _ | _ | _ | _ | i <;> simp
theorem FL_2 : setO (FL x p v1 a1 v2 a2 v3 a3) 2 (rowO v' a') = FL x p v1 a1 v' a' v3 a3 := by
  funext i; unfold setO FL; rcases i with _ | _ | _ | _ | i <;> simp
theorem FL_3 : setO (FL x p v1 a1 v2 a2 v3 a3) 3 (rowO v' a') = FL x p v1 a1 v2 a2 v' a' := by
  funext i; unfold setO FL; rcases i with _ | _ | _ | _ | i <;> simp
theorem FL_start : setO (setO (setO (setO (fun _ => noObj) 0 (spO x p)) 1 (rowO v1 a1)) 2 (rowO v2 a2)) 3 (rowO v3 a3) = FL x p v1 a1 v2 a2 v3 a3 := by
  funext i; unfold setO FL; rcases i with _ | _ | _ | _ | i <;> simp
end

section
variable {w0 w w' : World} {K : Nat → Prop} {F : Nat → Thg} {v : Value} {xs : List OpE}
theorem MO.nilrow (h : MO w0 w K F) (i : Nat) : MO w0 w K (setO F i (rowO nilV [])) :=
  h.put i (S' := fun _ => False) (frm_row _ _) ⟨none, ⟨rfl, rfl⟩, by simp, fun k hk => hk.elim⟩ (fun k hk => hk.elim) (Below.refl _ _)
theorem mo_row (h : MO w0 w K F) (i : Nat) (hi : F i = rowO v xs) : ∃ a c, v = .slice a xs.length c ∧ IsO w a xs.length c xs := by
  obtain ⟨S, h1, -⟩ := h.now i
  rw [hi] at h1
  obtain ⟨β, h2, -⟩ := h1
  exact h2.form
/-- One operation more in a row. -/
theorem mo_push (h : MO w0 w K F) (i : Nat) (hi : F i = rowO v xs) (hn : xs.length ≤ 100000) (k p c q s : Int) :
    ∃ a n cc w', (∀ ty, (Builtin.append_ #[23, 23] ty #[v, .slice (some ⟨w.heap.size, 0, none⟩) 1 1]).run Tryd.prog (w.alloc (.cells #[.int .i64 k, .int .i64 p, .int .u8 c, .int .i64 q, .int .i64 s] 29)) = .ok (.slice a n cc) w') ∧ MO w0 w' K (setO F i (rowO (.slice a n cc) (xs ++ [⟨k, p, c, q, s⟩]))) ∧ KP K w w' := by
  have b1 : Below w.heap.size w (w.alloc (.cells #[.int .i64 k, .int .i64 p, .int .u8 c, .int .i64 q, .int .i64 s] 29)) := (Below.refl _ _).alloc (Nat.le_refl _) _
  have h1 := h.below b1
  obtain ⟨S, h2, h3⟩ := h1.now i
  rw [hi] at h2
  obtain ⟨β, h4, h5, h6⟩ := h2
  obtain ⟨v', w', hr, hN⟩ := push_op _ β v xs h4 w.heap.size ⟨k, p, c, q, s⟩ (heap_alloc_new w _) hn
  obtain ⟨a, n, cc, rfl⟩ := hN.slice
  obtain ⟨g', n1, n2, n3⟩ := hN.out
  have hlt := n1.lt _ rfl
  obtain ⟨h8, h9⟩ := h3 (rowO (.slice a n cc) (xs ++ [⟨k, p, c, q, s⟩])) w' (fun j => j < w'.heap.size ∧ (S j ∨ j = g')) (frm_row _ _) ⟨some g', (show SO w' (some g') (.slice a n cc) (xs ++ [⟨k, p, c, q, s⟩]) from n1), fun j hj => by injection hj with hj; subst hj; exact ⟨hlt, .inr rfl⟩, fun j hj => hj.1⟩ (fun j hj => by
    rcases hj.2 with h | h
    · exact .inl h
    · rcases n2 with h7 | h7
      · exact .inl (h ▸ h5 _ h7)
      · exact .inr (by omega)) (n3.mono (fun j _ hj => h5 j hj))
  exact ⟨a, n, cc, w', hr, h8, (h.kp b1).trans h9⟩
/-- An element of a row written. -/
theorem mo_rowset {g n c : Nat} (h : MO w0 w K F) (i : Nat) (hi : F i = rowO (.slice (some ⟨g, 0, none⟩) n c) xs) (j : Nat) (hj : j < n) (k p cc q s : Int) :
    MO w0 (set5 w g (j * 5) k p cc q s) K (setO F i (rowO (.slice (some ⟨g, 0, none⟩) n c) (xs.set j ⟨k, p, cc, q, s⟩))) ∧ KP K w (set5 w g (j * 5) k p cc q s) := by
  obtain ⟨S, h2, h3⟩ := h.now i
  rw [hi] at h2
  obtain ⟨β, h4, h5, h6⟩ := h2
  cases β with
  | none =>
    obtain ⟨e, -⟩ := h4
    simp at e
  | some g' =>
    obtain ⟨cap, e, hR⟩ := h4
    injection e with e1 e2 e3
    injection e1 with e1
    injection e1 with e1
    subst e1 e2 e3
    have hF := Fr.set5 w g (j * 5) k p cc q s
    refine h3 _ _ S (frm_row _ _) ⟨some g, ⟨c, by simp, ?_⟩, h5, fun j hj => Nat.lt_of_lt_of_le (h6 j hj) hF.size⟩ (fun j hj => .inl hj) (hF.mono (fun j _ hj => by rw [hj]; exact h5 g rfl))
    have := hR.set5 j k p cc q s hj
    rw [List.length_set]
    exact this
end

/-- The lines, as far as they have crossed. -/
def LnP (f : Bool) (L ins : List OpE) (p : Sp) (outs : List OpE) : Prop :=
  p.f = f ∧ p.ms = (fillP f 1 L).ms ∧ p.os = (if f then (weaveP L ins).1 else (weaveP ins L).2) ∧ outs = (if f then (weaveP L ins).2 else (weaveP ins L).1)
theorem LnP.start (f : Bool) (L : List OpE) : LnP f L [] (fillP f 1 L) [] := by
  refine ⟨rfl, rfl, ?_, ?_⟩
  · have : (fillP f 1 L).os = L := qOf_os 1 L 0
    rw [this]
    cases f
    · simp [weaveP_nil]
    · simp [weaveP]
  · cases f
    · simp [weaveP_nil]
    · simp [weaveP]
theorem LnP.step {f : Bool} {L ins : List OpE} {p : Sp} {outs : List OpE} (h : LnP f L ins p outs) (o : OpE) (hv : validP o = 0) : LnP f L (ins ++ [o]) (crossS p o) (outs ++ [crossO p o]) := by
  obtain ⟨h1, h2, h3, h4⟩ := h
  rw [(crossS_good hv).1, (crossS_good hv).2]
  refine ⟨h1, ?_, ?_, ?_⟩
  · rw [← h2]
    exact thrQ_m _ _ _
  · show (thrQ o p.q p.f).2.map (·.2) = _
    rw [thrQ_2]
    show (throughP o p.os p.f).2 = _
    rw [h1, h3]
    cases f
    · simp only [Bool.false_eq_true, if_false]
      rw [weaveP_snoc2]
    · simp only [if_true]
      rw [weaveP_snoc]
  · rw [thrQ_1]
    show outs ++ [(throughP o p.os p.f).1] = _
    rw [h1, h3, h4]
    cases f
    · simp only [Bool.false_eq_true, if_false]
      rw [weaveP_snoc2]
    · simp only [if_true]
      rw [weaveP_snoc]
theorem LnP.len {f : Bool} {L ins : List OpE} {p : Sp} {outs : List OpE} (h : LnP f L ins p outs) : p.q.length = L.length ∧ outs.length = ins.length := by
  obtain ⟨h1, h2, h3, h4⟩ := h
  refine ⟨?_, ?_⟩
  · rw [← Sp.ms_len, h2, Sp.ms_len]
    exact qOf_len 1 L 0
  · rw [h4]
    cases f
    · simp only [Bool.false_eq_true, if_false]
      exact (weaveP_len _ _).1
    · simp only [if_true]
      exact (weaveP_len _ _).2
theorem LnP.mark {f : Bool} {L ins : List OpE} {p : Sp} {outs : List OpE} (h : LnP f L ins p outs) (i : Nat) (hi : i < p.q.length) : p.q[i].1 = (i : Int) + 1 := by
  have h1 : p.ms[i]? = (fillP f 1 L).ms[i]? := by rw [h.2.1]
  have hi2 : i < (fillP f 1 L).q.length := by rw [h.len.1] at hi; rw [show (fillP f 1 L).q.length = L.length from qOf_len 1 L 0]; exact hi
  simp only [Sp.ms, List.getElem?_map, List.getElem?_eq_getElem hi, List.getElem?_eq_getElem hi2, Option.map_some, Option.some.injEq] at h1
  rw [h1]
  refine (qOf_get 1 L 0 i hi2).trans ?_
  simp

end Go.Proofs.YtmbnimlibnheeaaDoor
