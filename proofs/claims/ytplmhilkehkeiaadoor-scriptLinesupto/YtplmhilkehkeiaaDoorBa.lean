/-
  New lists that grow: of bytes, of strings.
-/
import Derived.Test.YtplmhilkehkeiaaDoorAa
import Derived.Deep.QuietTactic
import Derived.BigQuiet
namespace Go.Proofs.YtplmhilkehkeiaaDoor
open Go.RowKit
set_option linter.unusedVariables false

theorem wpList_append_k {P : Program} (w : World) {ops : Array Oper} {rest : List Oper} {o : Oper} {a : Act} {Q : Exit → Act → World → Prop} (hgd : o.guard = none) (d s : Operand) (t t' : TypeId)
    (ho : o.op = .call { callee := .builtin .append, args := #[d, s], argTypes := #[t, t'] }) (v u : Value) (hd' : a.eval d = v) (hs : a.eval s = u) {v' : Value} {w' : World}
    (hr : (Builtin.append_ #[t, t'] o.type #[v, u]).run P w = .ok v' w') (h : wpList P ops Q rest (a.put o.dst v') w') : wpList P ops Q (o :: rest) a w := by
  refine wpList_plain hgd fun K hK => ?_
  unfold Oper.wp
  simp [execOp, ho, resolve, invoke, builtin, hd', hs, hr, Result.andThen]
  exact hK _ _ h

theorem NowF.out {α : Type} {f : α → List Value} {k : Nat} {w w' : World} {e : TypeId} {β : Option Nat} {v' : Value} {xs : List α} (h : NowF f k w w' e β v' xs) :
    ∃ g', SF f k w' e (some g') v' xs ∧ (β = some g' ∨ g' = w.heap.size) ∧ Fr (fun j => β = some j) w w' := by
  obtain ⟨g', h1, h2 | h2⟩ := h
  · exact ⟨g', h1, .inl h2.1, h2.2.mono (fun k _ hk => by rw [hk]; exact h2.1)⟩
  · exact ⟨g', h1, .inr h2.1, h2.2.mono (fun k _ hk => hk.elim)⟩

/-- A list that was made from block base on. -/
def NL {α : Type} (f : α → List Value) (k : Nat) (e : TypeId) (w : World) (base : Nat) (v : Value) (xs : List α) : Prop := ∃ β, SF f k w e β v xs ∧ ∀ g, β = some g → base ≤ g

theorem NL.nil {α : Type} {f : α → List Value} {k : Nat} {e : TypeId} (w : World) (base : Nat) : NL f k e w base (.slice none 0 0) ([] : List α) := ⟨none, ⟨rfl, rfl⟩, fun g h => by cases h⟩
theorem NL.fr {α : Type} {f : α → List Value} {k : Nat} {e : TypeId} {w w' : World} {base : Nat} {v : Value} {xs : List α} {S : Nat → Prop} (h : NL f k e w base v xs) (hF : Fr S w w') (hS : ∀ g, base ≤ g → g < w.heap.size → ¬ S g) : NL f k e w' base v xs := by
  obtain ⟨β, h1, h2⟩ := h
  exact ⟨β, h1.fr hF (fun g hg => hS g (h2 g hg) (h1.lt g hg)), h2⟩
theorem NL.base {α : Type} {f : α → List Value} {k : Nat} {e : TypeId} {w : World} {base base' : Nat} {v : Value} {xs : List α} (h : NL f k e w base v xs) (hb : base' ≤ base) : NL f k e w base' v xs := by
  obtain ⟨β, h1, h2⟩ := h
  exact ⟨β, h1, fun g hg => Nat.le_trans hb (h2 g hg)⟩

theorem info_parts' {P : Program} {e : TypeId} {z : Value} {k b : Nat} (h : (P.info? e).map (fun i => (i.zero, i.size, i.bytes)) = some (some z, k, b)) : ∃ i, P.info? e = some i ∧ i.zero = some z ∧ i.size = k ∧ i.bytes = b := by
  obtain ⟨i, hi, he⟩ := Option.map_eq_some_iff.1 h
  simp only [Prod.mk.injEq] at he
  exact ⟨i, hi, he.1, he.2.1, he.2.2⟩

theorem NL.grow {α : Type} {f : α → List Value} {k : Nat} (hz : Sz f k) {P : Program} {t e : TypeId} {z : Value} {bytes : Nat} (ht : P.underlying t = some (.slice e)) (hi : (P.info? e).map (fun i => (i.zero, i.size, i.bytes)) = some (some z, k, bytes)) (hzs : z.cells.size = k)
    {w0 u : World} {base : Nat} {v : Value} {xs : List α} (y : α) (h : NL f k e u base v xs) (hb : Below base w0 u) (hlt : base ≤ w0.heap.size) (hbd : ((xs.length + 1) + (xs.length + 1) / 4 + 192) * bytes ≤ 281474976710656) (h63 : xs.length ≤ 1000000000) :
    ∃ v' w', (∀ ty, (Builtin.append_ #[t, t] ty #[v, .slice (some ⟨u.heap.size, 0, none⟩) 1 1]).run P (u.alloc (.cells (f y).toArray e)) = .ok v' w') ∧ NL f k e w' base v' (xs ++ [y]) ∧ Below base w0 w' := by
  obtain ⟨i0, hi0, hz0, hz1, hz2⟩ := info_parts' hi
  obtain ⟨β, hS, hg⟩ := h
  have hs := hb.size
  have B2 : Below base w0 (u.alloc (.cells (f y).toArray e)) := hb.alloc (by omega) _
  have hS' := SF.fr (S := fun _ => False) hS (Fr.alloc _ _ (.cells (f y).toArray e)) (fun _ _ h => h)
  obtain ⟨v', w', hr, hN⟩ := run_pushF hz (P := P) (u.alloc (.cells (f y).toArray e)) t 0 e i0 z bytes ht hi0 hz0 hz1 hzs hz2 β v xs hS' ⟨u.heap.size, 0, none⟩ 1 1 [y] rfl (fun j x hj => by
    rw [cl_one] at hj
    rw [add_lit, Nat.zero_add, cell_row (heap_alloc_new u _)]
    simpa using hj) (by omega) (by omega) hbd
  obtain ⟨g', h1, h2, h3⟩ := hN.out
  refine ⟨v', w', fun ty => hr, ⟨some g', h1, fun g hg' => ?_⟩, B2.trans (h3.below (by simp; omega) (fun k hk => hg k hk))⟩
  cases hg'
  rcases h2 with h2 | h2
  · exact hg _ h2
  · rw [h2]; simp; omega

/-! ### Bytes -/
def bc (x : Int) : List Value := [.int .u8 x]
theorem sz_bc : Sz bc 1 := fun x => ⟨rfl, fun v hv => by simp [bc] at hv; subst hv; rfl⟩
theorem Tryd.infoB : (Tryd.prog.info? 5).map (fun i => (i.zero, i.size, i.bytes)) = some (some (.int .u8 0), 1, 1) := by kernel_rfl
theorem grow_byte {w0 u : World} {base : Nat} {v : Value} {xs : List Int} (y : Int) (h : NL bc 1 5 u base v xs) (hb : Below base w0 u) (hlt : base ≤ w0.heap.size) (hn : xs.length ≤ 2000000) :
    ∃ v' w', (∀ ty, (Builtin.append_ #[22, 22] ty #[v, .slice (some ⟨u.heap.size, 0, none⟩) 1 1]).run Tryd.prog (u.alloc (.cells #[.int .u8 y] 5)) = .ok v' w') ∧ NL bc 1 5 w' base v' (xs ++ [y]) ∧ Below base w0 w' :=
  NL.grow sz_bc Tryd.underlying22 Tryd.infoB rfl y h hb hlt (by omega) (by omega)

/-! ### Strings -/
def es (b : ByteArray) : List Value := [.string b]
theorem sz_es : Sz es 1 := fun x => ⟨rfl, fun v hv => by simp [es] at hv; subst hv; rfl⟩
theorem Tryd.infoS : (Tryd.prog.info? 9).map (fun i => (i.zero, i.size, i.bytes)) = some (some (.string ⟨#[]⟩), 1, 16) := by kernel_rfl
theorem grow_str {w0 u : World} {base : Nat} {v : Value} {xs : List ByteArray} (y : ByteArray) (h : NL es 1 9 u base v xs) (hb : Below base w0 u) (hlt : base ≤ w0.heap.size) (hn : xs.length ≤ 2000001) :
    ∃ v' w', (∀ ty, (Builtin.append_ #[43, 43] ty #[v, .slice (some ⟨u.heap.size, 0, none⟩) 1 1]).run Tryd.prog (u.alloc (.cells #[.string y] 9)) = .ok v' w') ∧ NL es 1 9 w' base v' (xs ++ [y]) ∧ Below base w0 w' :=
  NL.grow sz_es Tryd.underlying43 Tryd.infoS rfl y h hb hlt (by omega) (by omega)

end Go.Proofs.YtplmhilkehkeiaaDoor
