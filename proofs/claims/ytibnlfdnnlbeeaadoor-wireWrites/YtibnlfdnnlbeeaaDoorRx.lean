/-
  Rows of bytes: what a call, a store, an append leaves.
-/
import Derived.Test.YtibnlfdnnlbeeaaDoorRw
import Derived.Test.YtibnlfdnnlbeeaaDoorVn
namespace Go.Proofs.YtibnlfdnnlbeeaaDoor
open Go.RowKit
set_option linter.unusedVariables false

section
variable {P : Program}
theorem wpList_append_k (w : World) {ops : Array Oper} {rest : List Oper} {o : Oper} {a : Act} {Q : Exit → Act → World → Prop} (hgd : o.guard = none) (d s : Operand) (t t' : TypeId)
    (ho : o.op = .call { callee := .builtin .append, args := #[d, s], argTypes := #[t, t'] }) (v u : Value) (hd' : a.eval d = v) (hs : a.eval s = u) {v' : Value} {w' : World}
    (hr : (Builtin.append_ #[t, t'] o.type #[v, u]).run P w = .ok v' w') (h : wpList P ops Q rest (a.put o.dst v') w') : wpList P ops Q (o :: rest) a w := by
  refine wpList_plain hgd fun K hK => ?_
  unfold Oper.wp
  simp [execOp, ho, resolve, invoke, builtin, hd', hs, hr, Result.andThen]
  exact hK _ _ h
end

def at0 (γ : Option Nat) : Option Addr := γ.map fun g => ⟨g, 0, none⟩
theorem SF.shape {w : World} {β : Option Nat} {v : Value} {xs : List Int} (h : SF bc 1 w 5 β v xs) : ∃ c, v = .slice (at0 β) xs.length c ∧ xs.length ≤ c ∧ c ≤ 9223372036854775807 := by
  cases β with
  | none => obtain ⟨rfl, rfl⟩ := h; exact ⟨0, rfl, Nat.le_refl _, by omega⟩
  | some g => obtain ⟨cap, rfl, cur, -, -, -, h1, h2, -⟩ := h; exact ⟨cap, rfl, h1, h2⟩
theorem SF.isB' {w : World} {β : Option Nat} {n c : Nat} {xs : List Int} (h : SF bc 1 w 5 β (.slice (at0 β) n c) xs) : IsB w (at0 β) n c xs := by
  obtain ⟨a, c', e, hb⟩ := h.isB
  injection e with e1 e2 e3
  rw [e1, e2, e3]
  exact hb
theorem SF.below {w w' : World} {β : Option Nat} {v : Value} {xs : List Int} (h : SF bc 1 w 5 β v xs) (hb : Below w.heap.size w w') : SF bc 1 w' 5 β v xs := h.fr (Fr.of_below (S := fun _ => False) hb) (fun _ _ h => h)
theorem IsB.fr {w w' : World} {S : Nat → Prop} {β : Option Nat} {n c : Nat} {xs : List Int} (h : IsB w (at0 β) n c xs) (hF : Fr S w w') (hS : ∀ g, β = some g → ¬ S g) : IsB w' (at0 β) n c xs := by
  obtain ⟨h1, h2, h3, h4⟩ := h
  refine ⟨h1, h2, h3, fun hn => ?_⟩
  obtain ⟨b, off, e, hlt, hc⟩ := h4 hn
  refine ⟨b, off, e, Nat.lt_of_lt_of_le hlt hF.size, fun i hi => ?_⟩
  cases β with
  | none => simp [at0] at e
  | some g =>
    simp only [at0, Option.map, Option.some.injEq, Addr.mk.injEq] at e
    obtain ⟨rfl, rfl, -⟩ := e
    rw [hF.cell (p := ⟨g, 0 + i, none⟩) hlt (hS g rfl)]
    exact hc i hi
theorem XB.fr {w w' : World} {S : Nat → Prop} {b : Nat} {x : It} (h : XB w b x) (hF : Fr S w w') (hS : ¬ S b) : XB w' b x := hF.keeps h hS
theorem Lims.fr {w w' : World} {S : Nat → Prop} (h : Lims w) (hF : Fr S w w') (hS : ¬ S 1) : Lims w' := by
  obtain ⟨t, fr, h⟩ := h
  exact ⟨t, fr, hF.keeps h hS⟩

/-- While a row is marked. -/
def MK (w wr : World) (β : Option Nat) (n c : Nat) (y : Int) (xs : List Int) (k : Nat) : Prop := SF bc 1 wr 5 β (.slice (at0 β) n c) (List.replicate k y ++ xs.drop k) ∧ Fr (fun q => β = some q) w wr
theorem mark_step (T : List Int) (k : Nat) (y : Int) (hk : k < T.length) : (List.replicate k y ++ T.drop k).set k y = List.replicate (k + 1) y ++ T.drop (k + 1) := by
  rw [List.set_append_right _ _ (by simp)]
  simp only [List.length_replicate, Nat.sub_self]
  rw [List.drop_eq_getElem_cons hk, List.set_cons_zero, List.replicate_succ', List.append_assoc]
  rfl
theorem MK.zero {w : World} {β : Option Nat} {n c : Nat} {xs : List Int} (h : SF bc 1 w 5 β (.slice (at0 β) n c) xs) (y : Int) : MK w w β n c y xs 0 := ⟨by simpa using h, Fr.refl _ _⟩
theorem MK.step {w wr : World} {β : Option Nat} {n c : Nat} {y : Int} {xs : List Int} {k : Nat} (h : MK w wr β n c y xs k) (hk : k < xs.length) : ∃ g u, β = some g ∧ wr.cell? ⟨g, k, none⟩ = some (.int .u8 u) ∧ wr.frozen? ⟨g, k, none⟩ = false ∧ MK w (wr.setCell ⟨g, k, none⟩ (.int .u8 y)) β n c y xs (k + 1) := by
  obtain ⟨h1, h2⟩ := h
  have hl : k < (List.replicate k y ++ xs.drop k).length := by simp; omega
  cases β with
  | none =>
    obtain ⟨-, e⟩ := h1
    rw [e] at hl
    simp at hl
  | some g =>
    obtain ⟨c1, c2, -⟩ := h1.byte k hl
    refine ⟨g, _, rfl, c1, c2, ?_, h2.trans (Fr.setCell wr _ _ rfl)⟩
    have := h1.setB k hl y
    rwa [mark_step _ _ _ hk] at this
theorem MK.full {w wr : World} {β : Option Nat} {n c : Nat} {y : Int} {xs : List Int} {k : Nat} (h : MK w wr β n c y xs k) (hk : k = xs.length) : SF bc 1 wr 5 β (.slice (at0 β) n c) (List.replicate k y) ∧ Fr (fun q => β = some q) w wr := by
  obtain ⟨h1, h2⟩ := h
  rw [List.drop_of_length_le (by omega), List.append_nil] at h1
  exact ⟨h1, h2⟩

/-- append of two marks onto a marked row: the row itself still holds its marks. -/
theorem push_mark {w : World} {β : Option Nat} {n c : Nat} {y : Int} (h : SF bc 1 w 5 β (.slice (at0 β) n c) (List.replicate n y)) (hn : n ≤ 4096) :
    ∃ g' c' w3, (∀ ty, (Builtin.append_ #[22, 22] ty #[.slice (at0 β) n c, .slice (some ⟨w.heap.size, 0, none⟩) 2 2]).run Tryd.prog (w.alloc (.cells #[.int .u8 y, .int .u8 y] 5)) = .ok (.slice (some ⟨g', 0, none⟩) (n + 2) c') w3) ∧
      SF bc 1 w3 5 (some g') (.slice (at0 (some g')) (n + 2) c') (List.replicate (n + 2) y) ∧ IsB w3 (at0 β) n c (List.replicate n y) ∧ Fr (fun q => β = some q) w w3 ∧ (β = some g' ∨ w.heap.size ≤ g') := by
  have hB := h.isB'
  obtain ⟨g', c', w3, hr, h1, h2⟩ := run_push2 w β _ n _ h (by simp) y hn
  have er : List.replicate n y ++ [y, y] = List.replicate (n + 2) y := List.replicate_append_replicate (n := n) (m := 2) (a := y)
  rw [er] at h1
  refine ⟨g', c', w3, hr, h1, ?_, ?_, ?_⟩
  · rcases h2 with ⟨rfl, hF⟩ | ⟨hg, hF⟩
    · have hB1 := SF.isB' (β := some g') h1
      have := hB1.take n (by omega)
      rw [List.take_replicate, Nat.min_eq_left (by omega)] at this
      exact ⟨this.1, hB.2.1, hB.2.2.1, this.2.2.2⟩
    · exact hB.fr hF (fun _ _ h => h)
  · rcases h2 with ⟨rfl, hF⟩ | ⟨hg, hF⟩
    · exact hF.mono (fun q _ e => by rw [e])
    · exact hF.mono (fun q _ e => e.elim)
  · rcases h2 with ⟨rfl, -⟩ | ⟨hg, -⟩
    · exact .inl rfl
    · exact .inr hg

theorem rep_get (n : Nat) (y : Int) (i : Nat) (hi : i < n) : (List.replicate n y).getD i 0 = y := by
  rw [List.getD_eq_getElem?_getD, List.getElem?_replicate, if_pos hi]
  rfl

end Go.Proofs.YtibnlfdnnlbeeaaDoor
