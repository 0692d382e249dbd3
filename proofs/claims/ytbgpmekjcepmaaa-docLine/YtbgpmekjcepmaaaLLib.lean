/-
  DocLine: what holds along the line.
-/
import Derived.Test.YtbgpmekjcepmaaaDLib
import Derived.Test.YtbgpmekjcepmaaaRowsV
import Derived.Test.YtbgpmekjcepmaaaOrdr
import Derived.Test.YtbgpmekjcepmaaaStp
namespace Go.Proofs.Ytbgpmekjcepmaaa
open Go.RowKit
set_option linter.unusedVariables false

theorem LRel.facts {w wr : World} {line : Value} {nv k : Nat} {L : List OpE} {xs : List El} (h : LRel w wr line nv k L xs) : xs.length = nv ∧ nv ≤ k ∧ OkO L ∧ replayP L [] 0 = (xs, k, 0) ∧ L.length = k ∧ Below w.heap.size w wr := by
  obtain ⟨β, h1, h2, h3, h4, h5, h6, h7, h8⟩ := h
  exact ⟨h5, h6, h7, h4, h3, h8⟩
theorem LRel.below {w wr wx : World} {line : Value} {nv k : Nat} {L : List OpE} {xs : List El} (h : LRel w wr line nv k L xs) (hb : Below wr.heap.size wr wx) : LRel w wx line nv k L xs := by
  obtain ⟨β, h1, h2, h3, h4, h5, h6, h7, h8⟩ := h
  exact ⟨β, h1.below hb, h2, h3, h4, h5, h6, h7, h8.trans (hb.mono h8.size)⟩
theorem LRel.tfr {t : TypeId} {w wr wx : World} {line : Value} {nv k : Nat} {L : List OpE} {xs : List El} (h : LRel w wr line nv k L xs) (hF : TFr t wr wx) (hne : 23 ≠ t) (hB : Below w.heap.size w wx) : LRel w wx line nv k L xs := by
  obtain ⟨β, h1, h2, h3, h4, h5, h6, h7, h8⟩ := h
  exact ⟨β, h1.tfr hF hne, h2, h3, h4, h5, h6, h7, hB⟩

theorem LRel.push2 {w wr : World} {line : Value} {nv k : Nat} {L : List OpE} {xs : List El} (h : LRel w wr line nv k L xs) (o : OpE) (hm : MadeOp nv k o) (hc : 0 ≤ o.ch ∧ o.ch ≤ 255) (hk : k < 60) :
    ∃ v' w3, (∀ ty, (Builtin.append_ #[43, 43] ty #[line, .slice (some ⟨wr.heap.size, 0, none⟩) 1 1]).run Try.prog (wr.alloc (.cells (opc o).toArray 23)) = .ok v' w3) ∧
      LRel w w3 v' (applyP xs o).length (k + 1) (L ++ [o]) (applyP xs o) ∧ TFr 23 wr w3 := by
  obtain ⟨β, h1, h2, h3, h4, h5, h6, h7, h8⟩ := h
  have B1 : Below wr.heap.size wr (wr.alloc (.cells (opc o).toArray 23)) := (Below.refl _ _).alloc (Nat.le_refl _) _
  obtain ⟨v', w3, hr, β', g1, g2, g3⟩ := run_pushO _ β line L (h1.below B1) wr.heap.size o (heap_alloc_new _ _) (by omega)
  have hf : fitsP xs.length o = 0 := by rw [h5]; exact hm.fits (by omega) (by omega)
  have hlen := applyP_len hf
  refine ⟨v', w3, hr, ⟨β', g1, ?_, by simp [h3], replayP_more h4 hf, rfl, ?_, ?_, ?_⟩, ?_⟩
  · intro g hg
    rcases g2 with g2 | ⟨g', g2, g4⟩
    · exact h2 g (g2 ▸ hg)
    · obtain rfl : g' = g := Option.some.inj (g2.symm.trans hg)
      have := B1.size
      have := h8.size
      omega
  · obtain ⟨hq, _, _⟩ := hm
    rcases hq with ⟨hq, ⟨p, hp1, hp2⟩, _⟩ | ⟨hq, ⟨p, hp1, hp2⟩, _⟩ <;> simp [hq] at hlen <;> omega
  · intro q hq
    rcases List.mem_append.1 hq with hq | hq
    · exact h7 q hq
    · obtain rfl := List.mem_singleton.1 hq
      exact hc
  · exact (h8.trans (B1.mono h8.size)).trans (g3.below (Nat.le_trans h8.size B1.size) (fun g h => h2 g h))
  · refine ⟨fun k => β = some k, (Fr.of_below B1).trans g3, ?_⟩
    rintro g rfl
    obtain ⟨cap, -, cur, hh, -⟩ := h1
    exact ⟨_, hh⟩

/-- The values are the texts. -/
def Txts (w : World) (vs : List Value) (TS : List (List El)) : Prop :=
  vs.length = TS.length ∧ ∀ (i : Nat) (v : Value), vs[i]? = some v → ∃ (T : List El) (g cap : Nat), TS[i]? = some T ∧ v = .slice (some ⟨g, 0, none⟩) T.length cap ∧ RowE w g T.length cap T

theorem Txts.tfr {t : TypeId} {w w' : World} {vs : List Value} {TS : List (List El)} (h : Txts w vs TS) (hF : TFr t w w') (hne : 32 ≠ t) : Txts w' vs TS := by
  refine ⟨h.1, fun i v hi => ?_⟩
  obtain ⟨T, g, cap, h1, h2, h3⟩ := h.2 i v hi
  exact ⟨T, g, cap, h1, h2, h3.tfr hF hne⟩
theorem Txts.below {w w' : World} {vs : List Value} {TS : List (List El)} (h : Txts w vs TS) (hb : Below w.heap.size w w') : Txts w' vs TS := h.tfr (t := 23) (TFr.of_below hb) (by decide)
theorem Txts.push {w : World} {vs : List Value} {TS : List (List El)} (h : Txts w vs TS) {T : List El} {g cap : Nat} (hR : RowE w g T.length cap T) : Txts w (vs ++ [.slice (some ⟨g, 0, none⟩) T.length cap]) (TS ++ [T]) := by
  refine ⟨by simp [h.1], fun i v hi => ?_⟩
  by_cases hl : i < vs.length
  · rw [List.getElem?_append_left hl] at hi
    obtain ⟨T', g', cap', h1, h2, h3⟩ := h.2 i v hi
    exact ⟨T', g', cap', by rw [List.getElem?_append_left (by rw [← h.1]; exact hl)]; exact h1, h2, h3⟩
  · rw [List.getElem?_append_right (by omega)] at hi
    have : i - vs.length = 0 := by
      have := (List.getElem?_eq_some_iff.1 hi).1
      simpa using this
    rw [this] at hi
    simp at hi
    subst hi
    refine ⟨T, g, cap, ?_, rfl, hR⟩
    rw [List.getElem?_append_right (by rw [← h.1]; omega), ← h.1, this]
    rfl

/-- What holds in the loop of DocLine. -/
def NRel (w wr : World) (dv ops texts : Value) (nv k : Nat) : Prop :=
  ∃ L xs vs TS β δ, LRel w wr ops nv k L xs ∧ SRow wr 30 β texts vs ∧ (∀ g, β = some g → w.heap.size ≤ g) ∧ SE wr δ dv xs ∧ Txts wr vs TS ∧ TS.length = k ∧ LineI k TS xs

theorem NRel.start (w : World) : NRel w w (.slice none 0 0) (.slice none 0 0) (.slice none 0 0) 0 0 :=
  ⟨[], [], [], [], none, none, LRel.start w, ⟨rfl, rfl⟩, fun g h => (by cases h), ⟨rfl, rfl⟩, ⟨rfl, fun i v h => by simp at h⟩, rfl, LineI.start⟩

/-- stepped, of a made operation. -/
theorem stepped_any (δ : Option Nat) (dv : Value) (g cap nv k : Nat) (o : OpE) (xs : List El) (w : World) (hS : SE w δ dv xs) (hx : xs.length = nv) (hn : nv ≤ 100) (hm : MadeOp nv k o) (hR : RowE w g (applyP xs o).length cap (applyP xs o)) :
    Calls Try.prog 25 #[dv, .agg #[.int .i64 o.kind, .int .i64 o.pos, .int .u8 o.ch, .int .i64 o.cl, .int .i64 o.sq], .slice (some ⟨g, 0, none⟩) (applyP xs o).length cap] w fun e w' => e = .returned (.bool true) ∧ Below w.heap.size w w' := by
  obtain ⟨ok, op, oc, ol, oq⟩ := o
  obtain ⟨hq, -, -⟩ := hm
  simp only at hq
  rcases hq with ⟨rfl, ⟨p, rfl, hp2⟩, _⟩ | ⟨rfl, ⟨p, rfl, hp2⟩, _⟩
  · have e : applyP xs ⟨2, p, oc, ol, oq⟩ = xs.take p ++ xs.drop (p + 1) := by simp [applyP]
    have hl : (applyP xs ⟨2, p, oc, ol, oq⟩).length = nv - 1 := by rw [e]; simp; omega
    rw [hl] at hR ⊢
    obtain ⟨m, rfl⟩ : ∃ m, nv = m + 1 := ⟨nv - 1, by omega⟩
    cases δ with
    | none =>
      obtain ⟨-, rfl⟩ := hS
      simp at hx
    | some gd =>
      obtain ⟨cd, rfl, hRd⟩ := hS
      rw [hx] at hRd ⊢
      exact stepped_del gd 0 m cd g cap p oc ol oq xs _ w (by omega) (by omega) hRd.isE hR.isE e
  · have e : applyP xs ⟨1, p, oc, ol, oq⟩ = xs.take p ++ (oc, ol, oq) :: xs.drop p := by simp [applyP]
    have hl : (applyP xs ⟨1, p, oc, ol, oq⟩).length = nv + 1 := by rw [e]; simp; omega
    rw [hl] at hR ⊢
    cases δ with
    | none =>
      obtain ⟨rfl, rfl⟩ := hS
      have h0 : nv = 0 := by simpa using hx.symm
      subst h0
      obtain rfl : p = 0 := by omega
      exact stepped_nil g cap oc ol oq _ w hR.isE (by rw [e]; simp)
    | some gd =>
      obtain ⟨cd, rfl, hRd⟩ := hS
      rw [hx] at hRd ⊢
      exact stepped_ins gd 0 nv cd g cap p oc ol oq xs _ w hp2 (by omega) hRd.isE hR.isE e

/-- The step of the line: the two appends. -/
theorem NRel.step {w wr w4 : World} {dv ops texts : Value} {nv k : Nat} (h : NRel w wr dv ops texts nv k) (hb : Below wr.heap.size wr w4) (hk : k < 60) :
    ∃ (δ : Option Nat) (xs : List El), SE wr δ dv xs ∧ xs.length = nv ∧ ∀ (o : OpE), MadeOp nv k o → (0 ≤ o.ch ∧ o.ch ≤ 255) → ∀ (g cap : Nat), RowE w4 g (applyP xs o).length cap (applyP xs o) →
      ∃ v6 w6 v8 w8, (∀ ty, (Builtin.append_ #[43, 43] ty #[ops, .slice (some ⟨w4.heap.size, 0, none⟩) 1 1]).run Try.prog (w4.alloc (.cells (opc o).toArray 23)) = .ok v6 w6) ∧
        (∀ ty, (Builtin.append_ #[51, 51] ty #[texts, .slice (some ⟨w6.heap.size, 0, none⟩) 1 1]).run Try.prog (w6.alloc (.cells #[.slice (some ⟨g, 0, none⟩) (applyP xs o).length cap] 30)) = .ok v8 w8) ∧
        NRel w w8 (.slice (some ⟨g, 0, none⟩) (applyP xs o).length cap) v6 v8 (applyP xs o).length (k + 1) := by
  obtain ⟨L, xs, vs, TS, β, δ, h1, h2, h3, h4, h5, h6, h7⟩ := h
  obtain ⟨f1, f2, f3, f4, f5, f6⟩ := h1.facts
  refine ⟨δ, xs, h4, f1, fun o hm hc g cap hR => ?_⟩
  have L4 := h1.below hb
  obtain ⟨v6, w6, hr6, L6, T6⟩ := L4.push2 o hm hc hk
  have B6 := L6.facts.2.2.2.2.2
  have S6 : SRow w6 30 β texts vs := (h2.below hb).tfr T6 (by decide)
  have X6 : Txts w6 vs TS := (h5.below hb).tfr T6 (by decide)
  have R6 := hR.tfr T6 (by decide)
  obtain ⟨v8, w8, β8, hr8, S8, hβ8, T8, B8⟩ := texts_push S6 h3 B6 (by have := h5.1; omega) (some ⟨g, 0, none⟩) (applyP xs o).length cap
  have R8 := R6.tfr T8 (by decide)
  refine ⟨v6, w6, v8, w8, hr6, hr8, _, _, _, _, β8, some g, L6.tfr T8 (by decide) B8, S8, hβ8, ⟨cap, rfl, R8⟩, (X6.tfr T8 (by decide)).push R8, by simp [h6], h7.step hm f1⟩

end Go.Proofs.Ytbgpmekjcepmaaa
