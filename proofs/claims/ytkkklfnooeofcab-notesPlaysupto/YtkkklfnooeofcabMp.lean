/-
  A map from numbers to things, at the values of the model; the laws of its operations.
-/
import Derived.Test.YtkkklfnooeofcabParts
import Derived.Maps.OwnSet
import Derived.Maps.RangeWalk
import Derived.Maps.Own
import Derived.DeepKeys4
namespace Go.Proofs.Ytkkklfnooeofcab
open Go.RowKit Go.Maps Go.ChangeMaps Go.MapKept Go.WideMaps
set_option linter.unusedVariables false

/-- How an element reads: as itself. -/
def RV (v : Value) : Option (DataW Value × List MemPlace) := some (.held v, [])

theorem law : Keyed Try.prog 3 := int_keyed Try.underlying3

theorem wf_nat (k : Nat) (h : k ≤ 9223372036854775807) : (Lit.int .i64 (k : Int)).wf = true := WalkArith.wf_i64 (by omega)
theorem key_nat (k : Nat) (h : k ≤ 9223372036854775807) : keyOf Try.prog 3 (.int .i64 (k : Int)) = some (.int .i64 (k : Int)) := keyOf_int_mk Try.underlying3 (wf_nat k h)

/-- Block b is a map that holds just L. -/
def MP (w : World) (b : Nat) (L : List (Nat × Value)) : Prop :=
  ∃ D : DataW Value, w.ownsMap Try.prog 3 RV b L.length D ∧ Maps.size D = L.length ∧ (∀ p ∈ L, p.1 ≤ 9223372036854775807) ∧ (∀ p ∈ L, ∀ z, D.atKey (.int .i64 (p.1 : Int)) z = .held p.2) ∧ (∀ k : Int, (∀ p ∈ L, (p.1 : Int) ≠ k) → Maps.has D (.int .i64 k) = false)

theorem MP.lt {w : World} {b : Nat} {L : List (Nat × Value)} (h : MP w b L) : b < w.heap.size := by
  obtain ⟨D, h, -⟩ := h
  exact h.lt
theorem MP.fr {S : Nat → Prop} {w w' : World} {b : Nat} {L : List (Nat × Value)} (h : MP w b L) (hF : Fr S w w') (hS : ¬ S b) : MP w' b L := by
  obtain ⟨D, ⟨es, clock, hb, r⟩, q⟩ := h
  exact ⟨D, ⟨es, clock, hF.keeps hb hS, r⟩, q⟩
theorem MP.map {w : World} {b : Nat} {L : List (Nat × Value)} (h : MP w b L) : ∃ es clock, w.heap[b]? = some (.map es clock) := by
  obtain ⟨D, ⟨es, clock, hb, r⟩, q⟩ := h
  exact ⟨es, clock, hb⟩

theorem owns_size {w : World} {b n : Nat} {D : DataW Value} (h : w.ownsMap Try.prog 3 RV b n D) : w.ownsMap Try.prog 3 RV b (Maps.size D) D := by
  obtain ⟨es, clock, hb, F, hs, rfl⟩ := h
  exact ⟨es, clock, hb, F, by simp [Maps.size, length_sorted], rfl⟩

theorem fr_grown {w w' : World} {b : Nat} (h : w.grownBy w' (some b)) : Fr (· = b) w w' := ⟨h.os, h.tape, h.output, h.size, fun k hk hn => h.block k hk (fun e => hn (by injection e))⟩

theorem MP.made (w : World) : MP (w.alloc (.map #[] 0)) w.heap.size [] :=
  ⟨_, World.ownsMap_made w Try.prog 3 RV, rfl, by simp, by simp, fun k _ => rfl⟩

theorem has_of_at {D : DataW Value} {k : Nat} {v : Value} (h : ∀ z, D.atKey (.int .i64 (k : Int)) z = .held v) : Maps.has D (.int .i64 (k : Int)) = true := has_true_of_atKey h

theorem MP.look {T e : TypeId} {z : Value} (hT : Try.prog.underlying T = some (.map 3 e)) (hz : ∀ w, (zeroValue e).run Try.prog w = .ok z w) {w : World} {b : Nat} {L : List (Nat × Value)} (h : MP w b L) {k : Nat} {v : Value} (hm : (k, v) ∈ L) :
    (Instr.lookup T (.map (some b)) (.int .i64 (k : Int)) true).run Try.prog w = .ok (.tuple #[v, .bool true]) w := by
  obtain ⟨D, hown, hs, hk, ha, -⟩ := h
  obtain ⟨v', ps, hrun, hv⟩ := hown.look_ok law hT (hz w) (zd := .held z) (zp := []) rfl (key_nat k (hk _ hm))
  rw [ha _ hm] at hv
  unfold RV at hv
  have e : v' = v := by
    have := congrArg (Option.map Prod.fst) hv
    simpa using this
  rw [hrun, e, has_of_at (ha _ hm)]

theorem MP.none {T e : TypeId} {z : Value} (hT : Try.prog.underlying T = some (.map 3 e)) (hz : ∀ w, (zeroValue e).run Try.prog w = .ok z w) {w : World} {b : Nat} {L : List (Nat × Value)} (h : MP w b L) {k : Nat} (hk : k ≤ 9223372036854775807) (hm : ∀ p ∈ L, p.1 ≠ k) :
    (Instr.lookup T (.map (some b)) (.int .i64 (k : Int)) true).run Try.prog w = .ok (.tuple #[z, .bool false]) w := by
  obtain ⟨D, hown, hs, hl, ha, hf⟩ := h
  obtain ⟨es, clock, hb, F, _, rfl⟩ := hown
  have hn := hf k (fun p hp h => hm p hp (by omega))
  rcases Maps.fit_look true law hT (hz w) hb F (key_nat k hk) with ⟨hrun, _, hat⟩ | ⟨e0, y, _, _, hrun, hRv, hat, _⟩
  · exact hrun
  · rw [Maps.has_true_of_atKey hat] at hn
    cases hn

theorem MP.noneI {T e : TypeId} {z : Value} (hT : Try.prog.underlying T = some (.map 3 e)) (hz : ∀ w, (zeroValue e).run Try.prog w = .ok z w) {w : World} {b : Nat} {L : List (Nat × Value)} (h : MP w b L) {k : Int} (hk : -9223372036854775808 ≤ k ∧ k ≤ 9223372036854775807) (hm : ∀ p ∈ L, (p.1 : Int) ≠ k) :
    (Instr.lookup T (.map (some b)) (.int .i64 k) true).run Try.prog w = .ok (.tuple #[z, .bool false]) w := by
  obtain ⟨D, hown, hs, hl, ha, hf⟩ := h
  obtain ⟨es, clock, hb, F, _, rfl⟩ := hown
  have hn := hf k hm
  rcases Maps.fit_look true law hT (hz w) hb F (keyOf_int_mk Try.underlying3 (WalkArith.wf_i64 (by omega)) : keyOf Try.prog 3 (.int .i64 k) = some (.int .i64 k)) with ⟨hrun, _, hat⟩ | ⟨e0, y, _, _, hrun, hRv, hat, _⟩
  · exact hrun
  · rw [Maps.has_true_of_atKey hat] at hn
    cases hn

theorem lit_ne {a b : Nat} (h : a ≠ b) : (Lit.int .i64 (a : Int)) ≠ .int .i64 (b : Int) := by
  intro e
  injection e with e1 e2
  omega
theorem lit_ni {a b : Int} (h : a ≠ b) : (Lit.int .i64 a) ≠ .int .i64 b := by
  intro e
  injection e with e1 e2
  exact h e2

theorem MP.add {T e : TypeId} (hT : Try.prog.underlying T = some (.map 3 e)) {w : World} {b : Nat} {L : List (Nat × Value)} (h : MP w b L) {k : Nat} {v : Value} (hk : k ≤ 9223372036854775807) (hL : L.length ≤ 1000000) (hn : ∀ p ∈ L, p.1 ≠ k) :
    ∃ w', (Instr.mapUpdate T (.map (some b)) (.int .i64 (k : Int)) v).run Try.prog w = .ok () w' ∧ MP w' b (L ++ [(k, v)]) ∧ Fr (· = b) w w' := by
  obtain ⟨D, hown, hs, hl, ha, hf⟩ := h
  obtain ⟨w', hrun, h1, h2⟩ := hown.update law hT (by unfold maxLen; omega) (key_nat k hk) (d := .held v) (ps := []) (val := v) rfl
  refine ⟨w', hrun, ⟨D.put (.int .i64 (k : Int)) (.held v), by simpa using h1, ?_, ?_, ?_, ?_⟩, fr_grown h2⟩
  · rw [size_put (hown.tidy law), hf k (fun p hp h => hn p hp (by omega))]
    simp [hs]
  · intro p hp
    simp at hp
    rcases hp with hp | rfl
    · exact hl p hp
    · exact hk
  · intro p hp z
    simp at hp
    rcases hp with hp | rfl
    · rw [atKey_put_other (lit_ne (hn p hp))]
      exact ha p hp z
    · exact atKey_put_same hown.isMap (law.key (key_nat k hk)) _ _
  · intro q hq
    rw [has_put_other (lit_ni (fun e => hq (k, v) (by simp) e.symm))]
    exact hf q (fun p hp => hq p (by simp [hp]))

theorem MP.del {T e : TypeId} (hT : Try.prog.underlying T = some (.map 3 e)) {w : World} {b : Nat} {L1 L2 : List (Nat × Value)} {k : Nat} {v0 : Value} (h : MP w b (L1 ++ (k, v0) :: L2)) (hn : ∀ p ∈ L1 ++ L2, p.1 ≠ k) :
    ∃ w', (∀ ty, (Builtin.delete_ #[T, 3] ty #[.map (some b), .int .i64 (k : Int)]).run Try.prog w = .ok (.tuple #[]) w') ∧ MP w' b (L1 ++ L2) ∧ Fr (· = b) w w' := by
  obtain ⟨D, hown, hs, hl, ha, hf⟩ := h
  have hk : k ≤ 9223372036854775807 := hl (k, v0) (by simp)
  obtain ⟨w', hrun, h1, h2⟩ := hown.drop law hT (key_nat k hk) 0
  have hrun' : ∀ ty, (Builtin.delete_ #[T, 3] ty #[.map (some b), .int .i64 (k : Int)]).run Try.prog w = .ok (.tuple #[]) w' := fun ty => hrun
  have hsz : Maps.size (D.del (.int .i64 (k : Int))) = (L1 ++ L2).length := by
    have := size_del (k := .int .i64 (k : Int)) (hown.tidy law)
    rw [has_of_at (ha (k, v0) (by simp)), hs] at this
    simp at this ⊢
    omega
  refine ⟨w', hrun', ⟨D.del (.int .i64 (k : Int)), ?_, hsz, ?_, ?_, ?_⟩, fr_grown h2.grown⟩
  · rw [← hsz]
    exact owns_size h1
  · intro p hp
    exact hl p (by simp at hp ⊢; rcases hp with hp | hp <;> simp [hp])
  · intro p hp z
    rw [atKey_del_other (lit_ne (hn p hp))]
    exact ha p (by simp at hp ⊢; rcases hp with hp | hp <;> simp [hp]) z
  · intro q hq
    by_cases hqk : q = k
    · subst hqk
      exact has_del_same
    · rw [has_del_other (lit_ni hqk)]
      refine hf q (fun p hp => ?_)
      simp at hp
      rcases hp with hp | rfl | hp
      · exact hq p (by simp [hp])
      · exact fun e => hqk e.symm
      · exact hq p (by simp [hp])

theorem MP.clear {T e : TypeId} (hT : Try.prog.underlying T = some (.map 3 e)) {w : World} {b : Nat} {L : List (Nat × Value)} (h : MP w b L) :
    ∃ w', (∀ ty, (Builtin.clear_ #[T] ty #[.map (some b)]).run Try.prog w = .ok (.tuple #[]) w') ∧ MP w' b [] ∧ Fr (· = b) w w' := by
  obtain ⟨es, clock, hb⟩ := h.map
  refine ⟨setBlock w b (.map #[] clock), fun ty => ?_, ⟨.map [], ⟨#[], clock, heap_setBlock_same hb _, ⟨by simp, stamped_empty clock, by simp⟩, Nat.le_refl _, rfl⟩, rfl, by simp, by simp, fun k _ => rfl⟩, ?_⟩
  · simp [Builtin.clear_, run_underlying hT, Go.MapKept.run_getObj_map hb, Go.MapKept.run_setObj_map _ hb, Result.andThen, setBlock]
  · exact ⟨rfl, rfl, rfl, by simp [setBlock], fun k _ hk => heap_setBlock_other hb _ hk⟩

end Go.Proofs.Ytkkklfnooeofcab
