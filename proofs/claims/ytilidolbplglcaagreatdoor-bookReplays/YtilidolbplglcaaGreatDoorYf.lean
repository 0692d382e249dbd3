/-
  The law: what its calls leave, with objects.
-/
import Derived.Test.YtilidolbplglcaaGreatDoorYe
namespace Go.Proofs.YtilidolbplglcaaGreatDoor
open Go.RowKit
set_option linter.unusedVariables false

section
variable {w0 w w' : World} {K : Nat → Prop} {F : Nat → Thg}
theorem mo_two (h : MO w0 w K F) (hb : Below w.heap.size w w') (i j : Nat) (hij : i ≠ j) {β γ : Option Nat} {v u : Value} {xs : List OpE} {ys : List El} (h1 : SF opc 5 w' 46 β v xs) (h2 : ∀ g, β = some g → w.heap.size ≤ g) (h3 : SF elc 3 w' 50 γ u ys) (h4 : ∀ g, γ = some g → w.heap.size ≤ g) : MO w0 w' K (setO (setO F i (lsO opc 5 46 β v xs)) j (lsO elc 3 50 γ u ys)) :=
  h.put2 i j hij (frm_ls _ _ _ _ _ _) (frm_ls _ _ _ _ _ _) (S1 := fun g => β = some g) (S2 := fun g => γ = some g) ⟨h1, fun _ => Iff.rfl⟩ ⟨h3, fun _ => Iff.rfl⟩ (fun g hg => h1.apart h3 (by decide) g hg) h2 h4 hb
theorem mo_rd {α : Type} {f : α → List Value} {k : Nat} {t : TypeId} {β : Option Nat} {v : Value} {xs : List α} (h : MO w0 w K F) (i : Nat) (hi : F i = lsO f k t β v xs) (hz : Sz f k) : Rd f k w v xs := by
  obtain ⟨S, g, -⟩ := h.now i
  rw [hi] at g
  exact (g.1.rs hz).rd
theorem mo_mk {α : Type} {f : α → List Value} {k : Nat} {y : α} {L : List (Value × Nat)} (h : MO w0 w K F) (i : Nat) (hi : F i = mkO f k y L) {x : Value × Nat} (hx : x ∈ L) : Rd f k w x.1 (List.replicate x.2 y) := by
  obtain ⟨S, g, -⟩ := h.now i
  rw [hi] at g
  exact (g.1 x hx).rd
end
/-- What the document answers. -/
theorem RpP.of {w1 w2 : World} {es : List Ed} {rD rT : Value} {code at' : Int} (h : RpP w1 w2 es rD rT code at') : ∃ D : List OpE, repP es [] [] 0 = (D, code, at') ∧ D.length ≤ 4096 ∧ (runP [] D).length ≤ 4096 ∧ (∃ β, SF opc 5 w2 46 β rD D ∧ ∀ g, β = some g → w1.heap.size ≤ g) ∧ ∃ β, SF elc 3 w2 50 β rT (runP [] D) ∧ ∀ g, β = some g → w1.heap.size ≤ g := by
  obtain ⟨D, E, hJ, h1, h2, β, h3, h4⟩ := h.ex
  have hb := hJ.b.bound
  have hl := hJ.b.len
  have hr := run_gr D [] hJ.b.fit
  have hg := grL_le D
  exact ⟨D, h1, by omega, by simp at hr; omega, h2, β, h3, h4⟩
/-- What the program answers to the same list. -/
theorem PrP.of {w3 w4 : World} {es : List Ed} {vD vT vE : Value} {D : List OpE} {code at' : Int} (k : PrP w3 w4 es vD vT vE) (hr : repP es [] [] 0 = (D, code, at')) : (∃ β, SF opc 5 w4 46 β vD D ∧ ∀ g, β = some g → w3.heap.size ≤ g) ∧ (∃ β, SF elc 3 w4 50 β vT (runP [] D) ∧ ∀ g, β = some g → w3.heap.size ≤ g) ∧ ((code = 0 ∧ at' = -1 ∧ vE = .nilIface) ∨ IsF w4 vE at' code) := by
  obtain ⟨D', E', code', at2, -, k1, k2, ⟨γ, k3, k4⟩, k5⟩ := k.ex
  have e := hr.symm.trans k1
  simp only [Prod.mk.injEq] at e
  obtain ⟨rfl, rfl, rfl⟩ := e
  refine ⟨k2, ⟨γ, k3, k4⟩, ?_⟩
  rcases k5 with k5 | ⟨-, f, rfl, -, k6⟩
  · exact .inl k5
  · exact .inr ⟨f, rfl, k6⟩
/-- is, of what was answered. -/
theorem is_any {w : World} {vE : Value} {code at' : Int} (h : (code = 0 ∧ at' = -1 ∧ vE = .nilIface) ∨ IsF w vE at' code) (hH : Handle w) : Calls Tryz.prog 7 #[vE, .int .i64 code, .int .i64 at'] w fun e w' => e = .returned (.bool true) ∧ Below w.heap.size w w' := by
  rcases h with ⟨rfl, rfl, rfl⟩ | h
  · exact is_nil w
  · exact is_err vE at' code w h hH
/-- A copy of a list of edits. -/
theorem run_cpEd (w : World) (v : Value) (ys : List Ed) (hv : Rd edc 6 w v ys) (hn : ys.length ≤ 2932031007402) :
    ∃ a c w', (∀ ty, (Builtin.append_ #[22, 22] ty #[.slice (some ⟨w.heap.size, 0, none⟩) 0 0, v]).run Tryz.prog (w.alloc (.cells #[] 48)) = .ok (.slice a ys.length c) w') ∧ (∃ β, SF edc 6 w' 48 β (.slice a ys.length c) ys ∧ ∀ g, β = some g → w.heap.size ≤ g) ∧ Below w.heap.size w w' := by
  have bA : Below w.heap.size w (w.alloc (.cells #[] 48)) := (Below.refl _ _).alloc (Nat.le_refl _) _
  obtain ⟨i0, hi0, hz0, hz1, hz2⟩ := info_parts infoEd
  obtain ⟨v', w', hr, g1, hSF, hg1, hF⟩ := run_copyF szEd (P := Tryz.prog) _ 22 48 i0 _ 48 Tryz.underlying22 hi0 hz0 hz1 rfl hz2 w.heap.size (heap_alloc_new w _) v ys (hv.below bA) (by omega) (by omega)
  obtain ⟨a, c, rfl, -⟩ := hSF.form
  have hs : (w.alloc (.cells #[] 48)).heap.size = w.heap.size + 1 := by simp
  exact ⟨a, c, w', hr, ⟨some g1, hSF, fun g hg => by injection hg with hg; subst hg; rcases hg1 with h | h <;> omega⟩, bA.trans (hF.below bA.size (fun k hk => by omega))⟩

theorem PrS.nil {α : Type} (f : α → List Value) (k : Nat) (w : World) : PrS f k w [] [] := ⟨rfl, fun i h => by simp at h⟩
theorem PrS.add1 {α : Type} {f : α → List Value} {k : Nat} {w : World} {E W : List SV} (h : PrS f k w E W) {x u : SV} {ys : List α} (hy : ys.length ≤ 1000000000000000) (h1 : Rd f k w x.val ys) (h2 : Rd f k w u.val ys) : PrS f k w (E ++ [x]) (W ++ [u]) := by
  refine ⟨by simp [h.1], fun i hi hj => ?_⟩
  rw [List.length_append, List.length_singleton] at hi hj
  by_cases e : i < E.length
  · obtain ⟨zs, k1, k2, k3⟩ := h.2 i e (by rw [← h.1]; exact e)
    refine ⟨zs, k1, ?_, ?_⟩
    · rw [List.getElem_append_left e]; exact k2
    · rw [List.getElem_append_left (by rw [← h.1]; exact e)]; exact k3
  · obtain rfl : i = E.length := by omega
    refine ⟨ys, hy, ?_, ?_⟩
    · rw [List.getElem_concat_length rfl]; exact h1
    · rw [List.getElem_concat_length h.1]; exact h2
theorem PrS.add {α : Type} {f : α → List Value} {k : Nat} {w : World} {E W : List SV} (h : PrS f k w E W) {x g u1 u2 : SV} {n m : Nat} {y : α} (hn : n ≤ 1000000000000000) (hm : m ≤ 1000000000000000) (h1 : Rd f k w x.val (List.replicate n y)) (h2 : Rd f k w g.val (List.replicate m y)) (h3 : Rd f k w u1.val (List.replicate n y)) (h4 : Rd f k w u2.val (List.replicate m y)) : PrS f k w (E ++ [x] ++ [g]) (W ++ [u1] ++ [u2]) :=
  (h.add1 (by rw [List.length_replicate]; exact hn) h1 h3).add1 (by rw [List.length_replicate]; exact hm) h2 h4
/-- A new shelf. -/
theorem mo_shelf {w0 w : World} {K : Nat → Prop} {F : Nat → Thg} (h : MO w0 w K F) : MO w0 (w.alloc (.cells #[.slice none 0 0, .slice none 0 0, .slice none 0 0, .slice none 0 0, .int .i64 0] 38)) K (setO F 0 (shO w.heap.size [] [] [] [] 0)) := by
  refine h.put 0 (frm_sh _ _ _ _ _ _) (S' := SB w.heap.size none none none none) ⟨_, _, _, _, none, none, none, none, ⟨heap_alloc_new w _, ⟨rfl, rfl⟩, ⟨rfl, rfl⟩, ⟨rfl, rfl⟩, ⟨rfl, rfl⟩, (fun g hg => by cases hg), (fun g hg => by cases hg)⟩, fun _ => Iff.rfl⟩ (fun k hk => ?_) ((Below.refl _ _).alloc (Nat.le_refl _) _)
  rcases hk with hk | hk | hk | hk | hk
  · omega
  · cases hk
  · cases hk
  · cases hk
  · cases hk

end Go.Proofs.YtilidolbplglcaaGreatDoor
