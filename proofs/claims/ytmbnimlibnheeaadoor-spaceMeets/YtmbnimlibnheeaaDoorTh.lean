/-
  Two sides in memory; same.
-/
import Derived.Test.YtmbnimlibnheeaaDoorTg
import Derived.Test.YtmbnimlibnheeaaDoorTd
import Derived.Test.YtmbnimlibnheeaaDoorTf
import Derived.Deep.QuietTactic
import Derived.BigQuiet
namespace Go.Proofs.YtmbnimlibnheeaaDoor
open Go.RowKit Go.Lib
set_option linter.unusedVariables false

/-- Two sides. -/
structure TWO (w0 w : World) (x y : Nat) (s t : Sd) (b1 b2 : Int) (N M : Nat) : Prop where
  mem : ∃ T1 T2, SA w0.heap.size T1 w x s b1 ∧ SA w0.heap.size T2 w y t b2 ∧ ∀ k, T1 k → ¬ T2 k
  bel : Below w0.heap.size w0 w
  inv : ∃ d0 A1 A2 B1 B2, Inv N s t d0 A1 A2 B1 B2
  sm : s.made ≤ M
  tm : t.made ≤ M
  vs : ∀ pc ∈ s.way, validP pc.o = 0
  vt : ∀ pc ∈ t.way, validP pc.o = 0
  few : N ≤ 40
  b1 : b1 = 0 ∨ b1 = 32
  b2 : b2 = 0 ∨ b2 = 32
theorem TWO.swap {w0 w : World} {x y : Nat} {s t : Sd} {b1 b2 : Int} {N M : Nat} (h : TWO w0 w x y s t b1 b2 N M) : TWO w0 w y x t s b2 b1 N M := by
  obtain ⟨T1, T2, h1, h2, h3⟩ := h.mem
  obtain ⟨d0, A1, A2, B1, B2, hi⟩ := h.inv
  exact ⟨⟨T2, T1, h2, h1, fun k a b => h3 k b a⟩, h.bel, ⟨d0, B1, B2, A1, A2, hi.swap⟩, h.tm, h.sm, h.vt, h.vs, h.few, h.b2, h.b1⟩
theorem TWO.mono {w0 w : World} {x y : Nat} {s t : Sd} {b1 b2 : Int} {N M M' : Nat} (h : TWO w0 w x y s t b1 b2 N M) (hM : M ≤ M') : TWO w0 w x y s t b1 b2 N M' :=
  ⟨h.mem, h.bel, h.inv, Nat.le_trans h.sm hM, Nat.le_trans h.tm hM, h.vs, h.vt, h.few, h.b1, h.b2⟩
theorem TWO.below {w0 w w' : World} {x y : Nat} {s t : Sd} {b1 b2 : Int} {N M : Nat} (h : TWO w0 w x y s t b1 b2 N M) (hb : Below w.heap.size w w') : TWO w0 w' x y s t b1 b2 N M := by
  obtain ⟨T1, T2, h1, h2, h3⟩ := h.mem
  exact ⟨⟨T1, T2, h1.below hb, h2.below hb, h3⟩, h.bel.trans (hb.mono h.bel.size), h.inv, h.sm, h.tm, h.vs, h.vt, h.few, h.b1, h.b2⟩
theorem TWO.len {w0 w : World} {x y : Nat} {s t : Sd} {b1 b2 : Int} {N M : Nat} (h : TWO w0 w x y s t b1 b2 N M) (hM : M ≤ 500) : s.d.length < 3000 ∧ s.way.length ≤ M := by
  obtain ⟨d0, A1, A2, B1, B2, hi⟩ := h.inv
  have h1 := hi.ls
  have h2 := hi.ts
  have h3 := h.sm
  have h4 := h.tm
  have h5 := h.few
  have h6 := hi.la
  have h7 := congrArg List.length hi.wa
  simp at h7
  exact ⟨by omega, by omega⟩

/-- A side makes an operation. -/
theorem mk_two {w0 w : World} {x y : Nat} {s t : Sd} {b1 b2 : Int} {N M : Nat} (h : TWO w0 w x y s t b1 b2 N M) (hM : M ≤ 400) (kd n ch : Int) (nop out : Bool) (hc0 : 0 ≤ ch) (hc1 : ch ≤ 255) :
    Calls Tryd.prog 39 #[.pointer (some ⟨x, 0, none⟩), .agg #[.int .i64 kd, .bool nop, .bool out, .int .i64 n, .int .u8 ch]] w fun e w' => e = .returned (.bool true) ∧ Hid (∃ s', TWO w0 w' x y s' t b1 b2 N (M + 1)) := by
  obtain ⟨hl1, hl2⟩ := h.len (by omega)
  obtain ⟨T1, T2, h1, h2, h3⟩ := h.mem
  obtain ⟨d0, A1, A2, B1, B2, hi⟩ := h.inv
  have hsm := h.sm
  refine (makes_any w0.heap.size T1 w x s b1 kd n ch nop out h1 (by omega) h.b1 hl1 (by omega) hc0 hc1).mono ?_
  rintro e w' ⟨rfl, hh⟩
  obtain ⟨o, T', hf, hv, hA, hT', hF⟩ := hh.out
  have ho1 : ∀ k, T1 k → w0.heap.size ≤ k := by obtain ⟨_, _, _, _, _, _, _, _, _, _, _, _, h⟩ := h1; exact fun k hk => (h k hk).1
  have ho2 : ∀ k, T2 k → k < w.heap.size := by obtain ⟨_, _, _, _, _, _, _, _, _, _, _, _, h⟩ := h2; exact fun k hk => (h k hk).2
  refine ⟨rfl, s.make o, ⟨⟨T', T2, hA, h2.fr hF (fun k a b => h3 k b a), fun k a b => ?_⟩, h.bel.trans (hF.below h.bel.size ho1), ⟨d0, A1, _, B1, B2, hi.make o hf⟩, by simp only [Sd.make]; omega, by have := h.tm; omega, ?_, h.vt, h.few, h.b1, h.b2⟩⟩
  · rcases hT' k a with h | h
    · exact h3 k h b
    · have := ho2 k b
      omega
  · intro pc hpc
    simp only [Sd.make, List.mem_append, List.mem_singleton] at hpc
    rcases hpc with hp | rfl
    · exact h.vs pc hp
    · exact (hv.fits hf (by omega)).2

/-- A side takes in a parcel, if there is one. -/
theorem tk_two {w0 w : World} {x y : Nat} {s t : Sd} {b1 b2 : Int} {N M : Nat} (h : TWO w0 w x y s t b1 b2 N M) (hM : M ≤ 400) (hT : Table w0) :
    Calls Tryd.prog 24 #[.pointer (some ⟨x, 0, none⟩), .pointer (some ⟨y, 0, none⟩)] w fun e w' => e = .returned (.bool true) ∧ Hid (∃ s' t', TWO w0 w' x y s' t' b1 b2 N M ∧ s'.way.length = s.way.length ∧ t'.way.length = t.way.length - 1) := by
  obtain ⟨hl1, hl2⟩ := h.len (by omega)
  obtain ⟨T1, T2, h1, h2, h3⟩ := h.mem
  obtain ⟨d0, A1, A2, B1, B2, hi⟩ := h.inv
  have hsm := h.sm
  have htm := h.tm
  have hN := h.few
  cases hw : t.way with
  | nil =>
    refine (takes_none w0.heap.size T1 T2 w x y t b2 h2 hw).mono ?_
    rintro e w' ⟨rfl, rfl⟩
    exact ⟨rfl, s, t, h, rfl, by rw [hw]; rfl⟩
  | cons pc W =>
    obtain ⟨hf, d1, C1, C2, D1, D2, hi'⟩ := hi.takes hw (by omega)
    refine (takes_some w0 w0.heap.size T1 T2 w x y s t b1 b2 pc W h1 h2 h3 hw (h.vt pc (by rw [hw]; simp)) hf (by omega) (by omega) hT rfl h.bel).mono ?_
    rintro e w' ⟨rfl, hh⟩
    obtain ⟨T1', a1, a2, a3, a4⟩ := hh.out
    have ho1 : ∀ k, T1 k → w0.heap.size ≤ k := by obtain ⟨_, _, _, _, _, _, _, _, _, _, _, _, h⟩ := h1; exact fun k hk => (h k hk).1
    have ho2 : ∀ k, T2 k → w0.heap.size ≤ k ∧ k < w.heap.size := by obtain ⟨_, _, _, _, _, _, _, _, _, _, _, _, h⟩ := h2; exact fun k hk => h k hk
    refine ⟨rfl, s.take pc, t.sent, ⟨⟨T1', T2, a1, a2, fun k p q => ?_⟩, h.bel.trans (a4.below h.bel.size (fun k hk => by rcases hk with hk | hk; exact ho1 k hk; exact (ho2 k hk).1)), ⟨d1, C1, C2, D1, D2, hi'⟩, hsm, htm, h.vs, fun p hp => h.vt p ?_, h.few, h.b1, h.b2⟩, rfl, by simp [Sd.sent, hw]⟩
    · rcases a3 k p with hk | hk
      · exact h3 k hk q
      · have := (ho2 k q).2
        omega
    · simp only [Sd.sent] at hp
      exact List.mem_of_mem_drop hp

end Go.Proofs.YtmbnimlibnheeaaDoor
