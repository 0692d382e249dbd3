/-
  A map from ages to datagrams, at the values of the model; the laws of its four operations.
-/
import Derived.Test.YtnglcnilckolkaaNa
namespace Go.Proofs.Ytnglcnilckolkaa
open Go.RowKit Go.Maps
set_option linter.unusedVariables false

/-- How an element reads: as itself. -/
def RV (v : Value) : Option (DataW Value × List MemPlace) := some (.held v, [])

theorem law : Keyed Try.prog 3 := int_keyed Try.underlying3
def zD : Value := .agg #[.int .i64 0, .int .i64 0, .slice none 0 0, .bool false]
theorem zeroD (w : World) : (zeroValue 37).run Try.prog w = .ok zD w := by kernel_rfl

theorem wf_nat (k : Nat) (h : k ≤ 9223372036854775807) : (Lit.int .i64 (k : Int)).wf = true := WalkArith.wf_i64 (by omega)
theorem key_nat (k : Nat) (h : k ≤ 9223372036854775807) : keyOf Try.prog 3 (.int .i64 (k : Int)) = some (.int .i64 (k : Int)) := keyOf_int_mk Try.underlying3 (wf_nat k h)

/-- Block b is a map that holds just L. -/
def MP (w : World) (b : Nat) (L : List (Nat × Value)) : Prop :=
  ∃ D : DataW Value, w.ownsMap Try.prog 3 RV b L.length D ∧ Maps.size D = L.length ∧ (∀ p ∈ L, p.1 ≤ 9223372036854775807) ∧ (∀ p ∈ L, ∀ z, D.atKey (.int .i64 (p.1 : Int)) z = .held p.2) ∧ (∀ k : Nat, (∀ p ∈ L, p.1 ≠ k) → Maps.has D (.int .i64 (k : Int)) = false)

theorem MP.lt {w : World} {b : Nat} {L : List (Nat × Value)} (h : MP w b L) : b < w.heap.size := by
  obtain ⟨D, h, -⟩ := h
  exact h.lt
theorem MP.fr {S : Nat → Prop} {w w' : World} {b : Nat} {L : List (Nat × Value)} (h : MP w b L) (hF : Fr S w w') (hS : ¬ S b) : MP w' b L := by
  obtain ⟨D, ⟨es, clock, hb, r⟩, q⟩ := h
  exact ⟨D, ⟨es, clock, hF.keeps hb hS, r⟩, q⟩
theorem MP.map {w : World} {b : Nat} {L : List (Nat × Value)} (h : MP w b L) : ∃ es clock, w.heap[b]? = some (.map es clock) := by
  obtain ⟨D, ⟨es, clock, hb, r⟩, q⟩ := h
  exact ⟨es, clock, hb⟩

theorem owns_size {w : World} {b n : Nat} {D : DataW Value} (h : w.ownsMap Try.prog 3 RV b n D) : w.ownsMap Try.prog 3 RV b (Maps.size D) D := by
  obtain ⟨es, clock, hb, F, hs, rfl⟩ := h
  exact ⟨es, clock, hb, F, by simp [Maps.size, length_sorted], rfl⟩

theorem fr_grown {w w' : World} {b : Nat} (h : w.grownBy w' (some b)) : Fr (· = b) w w' := ⟨h.os, h.tape, h.output, h.size, fun k hk hn => h.block k hk (fun e => hn (by injection e))⟩

theorem MP.made (w : World) : MP (w.alloc (.map #[] 0)) w.heap.size [] :=
  ⟨_, World.ownsMap_made w Try.prog 3 RV, rfl, by simp, by simp, fun k _ => rfl⟩

theorem MP.look {w : World} {b : Nat} {L : List (Nat × Value)} (h : MP w b L) {k : Nat} {v : Value} (hm : (k, v) ∈ L) :
    (Instr.lookup 63 (.map (some b)) (.int .i64 (k : Int)) false).run Try.prog w = .ok v w := by
  obtain ⟨D, hown, hs, hk, ha, -⟩ := h
  obtain ⟨v', ps, hrun, hv⟩ := hown.lookup law Try.underlying63 (zeroD w) (zd := .held zD) (zp := []) rfl (key_nat k (hk _ hm))
  rw [ha _ hm] at hv
  unfold RV at hv
  have e : v' = v := by
    have := congrArg (Option.map Prod.fst) hv
    simpa using this
  rw [hrun, e]

theorem MP.len {w : World} {b : Nat} {L : List (Nat × Value)} (h : MP w b L) (ty : TypeId) : (Builtin.len_ #[63] ty #[.map (some b)]).run Try.prog w = .ok (.int .i64 L.length) w := by
  obtain ⟨D, hown, hs, -⟩ := h
  have := hown.len Try.underlying63 ty
  rw [hs] at this
  exact this

theorem lit_ne {a b : Nat} (h : a ≠ b) : (Lit.int .i64 (a : Int)) ≠ .int .i64 (b : Int) := by
  intro e
  injection e with e1 e2
  omega

theorem MP.add {w : World} {b : Nat} {L : List (Nat × Value)} (h : MP w b L) {k : Nat} {v : Value} (hk : k ≤ 9223372036854775807) (hL : L.length ≤ 1000000) (hn : ∀ p ∈ L, p.1 ≠ k) :
    ∃ w', (Instr.mapUpdate 63 (.map (some b)) (.int .i64 (k : Int)) v).run Try.prog w = .ok () w' ∧ MP w' b (L ++ [(k, v)]) ∧ Fr (· = b) w w' := by
  obtain ⟨D, hown, hs, hl, ha, hf⟩ := h
  obtain ⟨w', hrun, h1, h2⟩ := hown.update law Try.underlying63 (by unfold maxLen; omega) (key_nat k hk) (d := .held v) (ps := []) (val := v) rfl
  refine ⟨w', hrun, ⟨D.put (.int .i64 (k : Int)) (.held v), by simpa using h1, ?_, ?_, ?_, ?_⟩, fr_grown h2⟩
  · rw [size_put (hown.tidy law), hf k hn]
    simp [hs]
  · intro p hp
    simp at hp
    rcases hp with hp | rfl
    · exact hl p hp
    · exact hk
  · intro p hp z
    simp at hp
    rcases hp with hp | rfl
    · rw [atKey_put_other (lit_ne (hn p hp))]
      exact ha p hp z
    · exact atKey_put_same hown.isMap (law.key (key_nat k hk)) _ _
  · intro q hq
    rw [has_put_other (lit_ne (fun e => hq (k, v) (by simp) e.symm))]
    exact hf q (fun p hp => hq p (by simp [hp]))

theorem has_of_at {D : DataW Value} {k : Nat} {v : Value} (h : ∀ z, D.atKey (.int .i64 (k : Int)) z = .held v) : Maps.has D (.int .i64 (k : Int)) = true := has_true_of_atKey h

theorem MP.put {w : World} {b : Nat} {L1 L2 : List (Nat × Value)} {k : Nat} {v0 : Value} (h : MP w b (L1 ++ (k, v0) :: L2)) {v : Value} (hL : (L1 ++ (k, v0) :: L2).length ≤ 1000000) (hn : ∀ p ∈ L1 ++ L2, p.1 ≠ k) :
    ∃ w', (Instr.mapUpdate 63 (.map (some b)) (.int .i64 (k : Int)) v).run Try.prog w = .ok () w' ∧ MP w' b (L1 ++ (k, v) :: L2) ∧ Fr (· = b) w w' := by
  obtain ⟨D, hown, hs, hl, ha, hf⟩ := h
  have hk : k ≤ 9223372036854775807 := hl (k, v0) (by simp)
  obtain ⟨w', hrun, h1, h2⟩ := hown.update law Try.underlying63 (by unfold maxLen; omega) (key_nat k hk) (d := .held v) (ps := []) (val := v) rfl
  have hsz : Maps.size (D.put (.int .i64 (k : Int)) (.held v)) = (L1 ++ (k, v) :: L2).length := by
    rw [size_put (hown.tidy law), has_of_at (ha (k, v0) (by simp))]
    simp [hs]
  refine ⟨w', hrun, ⟨D.put (.int .i64 (k : Int)) (.held v), ?_, hsz, ?_, ?_, ?_⟩, fr_grown h2⟩
  · rw [← hsz]
    exact owns_size h1
  · intro p hp
    simp at hp
    rcases hp with hp | rfl | hp
    · exact hl p (by simp [hp])
    · exact hk
    · exact hl p (by simp [hp])
  · intro p hp z
    simp at hp
    rcases hp with hp | rfl | hp
    · rw [atKey_put_other (lit_ne (hn p (by simp [hp])))]
      exact ha p (by simp [hp]) z
    · exact atKey_put_same hown.isMap (law.key (key_nat k hk)) _ _
    · rw [atKey_put_other (lit_ne (hn p (by simp [hp])))]
      exact ha p (by simp [hp]) z
  · intro q hq
    have hqk : q ≠ k := fun e => hq (k, v) (by simp) e.symm
    rw [has_put_other (lit_ne hqk)]
    refine hf q (fun p hp => ?_)
    simp at hp
    rcases hp with hp | rfl | hp
    · exact hq p (by simp [hp])
    · exact fun e => hqk e.symm
    · exact hq p (by simp [hp])

theorem MP.del {w : World} {b : Nat} {L1 L2 : List (Nat × Value)} {k : Nat} {v0 : Value} (h : MP w b (L1 ++ (k, v0) :: L2)) (hn : ∀ p ∈ L1 ++ L2, p.1 ≠ k) :
    ∃ w', (∀ ty, (Builtin.delete_ #[63, 3] ty #[.map (some b), .int .i64 (k : Int)]).run Try.prog w = .ok (.tuple #[]) w') ∧ MP w' b (L1 ++ L2) ∧ Fr (· = b) w w' := by
  obtain ⟨D, hown, hs, hl, ha, hf⟩ := h
  have hk : k ≤ 9223372036854775807 := hl (k, v0) (by simp)
  obtain ⟨w', hrun, h1, h2⟩ := hown.drop law Try.underlying63 (key_nat k hk) 0
  have hrun' : ∀ ty, (Builtin.delete_ #[63, 3] ty #[.map (some b), .int .i64 (k : Int)]).run Try.prog w = .ok (.tuple #[]) w' := fun ty => hrun
  have hsz : Maps.size (D.del (.int .i64 (k : Int))) = (L1 ++ L2).length := by
    have := size_del (k := .int .i64 (k : Int)) (hown.tidy law)
    rw [has_of_at (ha (k, v0) (by simp)), hs] at this
    simp at this ⊢
    omega
  refine ⟨w', hrun', ⟨D.del (.int .i64 (k : Int)), ?_, hsz, ?_, ?_, ?_⟩, fr_grown h2.grown⟩
  · rw [← hsz]
    exact owns_size h1
  · intro p hp
    exact hl p (by simp at hp ⊢; rcases hp with hp | hp <;> simp [hp])
  · intro p hp z
    rw [atKey_del_other (lit_ne (hn p hp))]
    exact ha p (by simp at hp ⊢; rcases hp with hp | hp <;> simp [hp]) z
  · intro q hq
    by_cases hqk : q = k
    · subst hqk
      exact has_del_same
    · rw [has_del_other (lit_ne hqk)]
      refine hf q (fun p hp => ?_)
      simp at hp
      rcases hp with hp | rfl | hp
      · exact hq p (by simp [hp])
      · exact fun e => hqk e.symm
      · exact hq p (by simp [hp])

end Go.Proofs.Ytnglcnilckolkaa
