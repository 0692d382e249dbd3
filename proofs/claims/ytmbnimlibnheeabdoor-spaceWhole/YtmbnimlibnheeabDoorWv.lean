/-
  SpaceWhole: both sides in memory, the texts that were shown, what was put in and taken out.
-/
import Derived.Test.YtmbnimlibnheeabDoorWtk
import Derived.Test.YtmbnimlibnheeabDoorWmk
import Derived.Test.YtmbnimlibnheeabDoorTg
namespace Go.Proofs.YtmbnimlibnheeabDoor
open Go.RowKit Go.Lib
set_option linter.unusedVariables false

structure En where
  v : Value
  β : Option Nat
  T : List El

def addI (I : List El) (o : OpE) : List El := if o.kind = 1 then I ++ [o.el] else I

structure WW (w0 w : World) (x y : Nat) (s t : Sd) (b1 b2 : Int) (N M : Nat) (K : Nat → Prop) (Gs Gt Ins : List El) (X : List En) (vs : Value) (βs : Option Nat) (vt : Value) (βt : Option Nat) : Prop where
  mem : ∃ T1 T2, SAV w0.heap.size T1 w x s b1 vs βs Gs ∧ SAV w0.heap.size T2 w y t b2 vt βt Gt ∧ (∀ k, T1 k → ¬ T2 k) ∧ ∀ k, K k → ¬ T1 k ∧ ¬ T2 k
  kk : ∀ k, K k → w0.heap.size ≤ k ∧ k < w.heap.size
  bel : Below w0.heap.size w0 w
  wt : ∃ Ts Tt, WT N s t b1 b2 Gs Gt Ins Ts Tt ∧ ∀ e ∈ X, e.T ∈ Ts ∨ e.T ∈ Tt
  sm : s.made ≤ M
  tm : t.made ≤ M
  vs_ : ∀ pc ∈ s.way, validP pc.o = 0
  vt_ : ∀ pc ∈ t.way, validP pc.o = 0
  few : N ≤ 40
  b1_ : b1 = 0 ∨ b1 = 32
  b2_ : b2 = 0 ∨ b2 = 32
  ent : ∀ e ∈ X, SE w e.β e.v e.T ∧ ((∀ g, e.β = some g → K g) ∨ (e.β = βs ∧ e.v = vs ∧ e.T = s.d) ∨ (e.β = βt ∧ e.v = vt ∧ e.T = t.d))

section
variable {w0 w w' : World} {x y : Nat} {s t : Sd} {b1 b2 : Int} {N M : Nat} {K : Nat → Prop} {Gs Gt Ins : List El} {X : List En} {vs vt : Value} {βs βt : Option Nat}
theorem WW.swap (h : WW w0 w x y s t b1 b2 N M K Gs Gt Ins X vs βs vt βt) : WW w0 w y x t s b2 b1 N M K Gt Gs Ins X vt βt vs βs := by
  obtain ⟨T1, T2, h1, h2, h3, h4⟩ := h.mem
  obtain ⟨Ts, Tt, h5, h6⟩ := h.wt
  exact ⟨⟨T2, T1, h2, h1, fun k a b => h3 k b a, fun k hk => (h4 k hk).symm⟩, h.kk, h.bel, ⟨Tt, Ts, h5.swap, fun e he => (h6 e he).symm⟩, h.tm, h.sm, h.vt_, h.vs_, h.few, h.b2_, h.b1_, fun e he => ⟨(h.ent e he).1, (h.ent e he).2.imp id Or.symm⟩⟩
theorem SAV.fr {B : Nat} {T S : Nat → Prop} {sd : Sd} {base : Int} {v : Value} {β : Option Nat} {G : List El} (h : SAV B T w x sd base v β G) (hF : Fr S w w') (hS : ∀ k, T k → ¬ S k) : SAV B T w' x sd base v β G := by
  obtain ⟨z, aw, nw, cw, vg, βg, c, h1, h2, h3⟩ := h
  exact ⟨z, aw, nw, cw, vg, βg, c.fr hF hS, h1, h2, fun k hk => ⟨(h3 k hk).1, Nat.lt_of_lt_of_le (h3 k hk).2 hF.size⟩⟩
theorem SAV.old {B : Nat} {T : Nat → Prop} {sd : Sd} {base : Int} {v : Value} {β : Option Nat} {G : List El} (h : SAV B T w x sd base v β G) : ∀ k, T k → B ≤ k ∧ k < w.heap.size := by
  obtain ⟨z, aw, nw, cw, vg, βg, c, h1, h2, h3⟩ := h
  exact h3
theorem SAV.tt {B : Nat} {T : Nat → Prop} {sd : Sd} {base : Int} {v : Value} {β : Option Nat} {G : List El} (h : SAV B T w x sd base v β G) : SE w β v sd.d ∧ ∀ g, β = some g → T g := by
  obtain ⟨z, aw, nw, cw, vg, βg, c, h1, h2, h3⟩ := h
  exact ⟨c.te, c.tt⟩
/-- Whatever changes the law's own blocks alone, or adds new ones. -/
theorem WW.own (h : WW w0 w x y s t b1 b2 N M K Gs Gt Ins X vs βs vt βt) {S : Nat → Prop} (hF : Fr S w w') (hS : ∀ k, S k → w0.heap.size ≤ k ∧ ∀ T1 T2, SAV w0.heap.size T1 w x s b1 vs βs Gs → SAV w0.heap.size T2 w y t b2 vt βt Gt → (∀ k, K k → ¬ T1 k ∧ ¬ T2 k) → ¬ T1 k ∧ ¬ T2 k) (hX : ∀ e ∈ X, ∀ g, e.β = some g → ¬ S g) (K' : Nat → Prop) (hK : ∀ k, K' k → K k ∨ w.heap.size ≤ k) (hK2 : ∀ k, K' k → k < w'.heap.size) (hK3 : ∀ e ∈ X, ∀ g, e.β = some g → K g → K' g) : WW w0 w' x y s t b1 b2 N M K' Gs Gt Ins X vs βs vt βt := by
  obtain ⟨T1, T2, h1, h2, h3, h4⟩ := h.mem
  have n1 : ∀ k, T1 k → ¬ S k := fun k hk hs => ((hS k hs).2 T1 T2 h1 h2 h4).1 hk
  have n2 : ∀ k, T2 k → ¬ S k := fun k hk hs => ((hS k hs).2 T1 T2 h1 h2 h4).2 hk
  have hz := h.bel.size
  refine ⟨⟨T1, T2, h1.fr hF n1, h2.fr hF n2, h3, fun k hk => ?_⟩, fun k hk => ⟨?_, hK2 k hk⟩, h.bel.trans (hF.below hz (fun k hk => (hS k hk).1)), h.wt, h.sm, h.tm, h.vs_, h.vt_, h.few, h.b1_, h.b2_, fun e he => ⟨(h.ent e he).1.fr hF (hX e he), ?_⟩⟩
  · rcases hK k hk with a | a
    · exact h4 k a
    · exact ⟨fun b => by have := (h1.old k b).2; omega, fun b => by have := (h2.old k b).2; omega⟩
  · rcases hK k hk with a | a
    · exact (h.kk k a).1
    · omega
  · rcases (h.ent e he).2 with a | a
    · exact .inl (fun g hg => hK3 e he g hg (a g hg))
    · exact .inr a
theorem WW.below (h : WW w0 w x y s t b1 b2 N M K Gs Gt Ins X vs βs vt βt) (hb : Below w.heap.size w w') : WW w0 w' x y s t b1 b2 N M K Gs Gt Ins X vs βs vt βt :=
  h.own (S := fun _ => False) (Fr.of_below hb) (fun k hk => hk.elim) (fun _ _ _ _ h => h) K (fun k hk => .inl hk) (fun k hk => Nat.lt_of_lt_of_le (h.kk k hk).2 hb.size) (fun _ _ _ _ h => h)
theorem WW.len (h : WW w0 w x y s t b1 b2 N M K Gs Gt Ins X vs βs vt βt) (hM : M ≤ 500) : s.d.length < 3000 ∧ s.way.length ≤ M := by
  obtain ⟨Ts, Tt, h5, -⟩ := h.wt
  obtain ⟨d0, A1, A2, B1, B2, hi⟩ := h5.inv
  have h1 := hi.ls
  have h2 := hi.ts
  have h3 := h.sm
  have h4 := h.tm
  have h5 := h.few
  have h6 := hi.la
  have h7 := congrArg List.length hi.wa
  simp at h7
  exact ⟨by omega, by omega⟩

/-- A side makes an operation. -/
theorem mk_w (h : WW w0 w x y s t b1 b2 N M K Gs Gt Ins X vs βs vt βt) (hM : M ≤ 400) (kd n ch : Int) (nop out : Bool) (hc0 : 0 ≤ ch) (hc1 : ch ≤ 255) :
    Calls Tryd.prog 20 #[.pointer (some ⟨x, 0, none⟩), .agg #[.int .i64 kd, .bool nop, .bool out, .int .i64 n, .int .u8 ch]] w fun e w' => e = .returned (.bool true) ∧ Hid (∃ o vs' βs' Gs', VO o ∧ WW w0 w' x y (s.make o) t b1 b2 N (M + 1) (fun k => K k ∨ βs = some k) Gs' Gt (addI Ins o) X vs' βs' vt βt ∧ ∀ k, K k → w'.heap[k]? = w.heap[k]?) := by
  obtain ⟨hl1, hl2⟩ := h.len (by omega)
  obtain ⟨T1, T2, h1, h2, h3, h4⟩ := h.mem
  have hsm := h.sm
  refine (makes_anyV w0.heap.size T1 w x s b1 kd n ch nop out vs βs Gs h1 (by omega) h.b1_ hl1 (by omega) hc0 hc1).mono ?_
  rintro e w' ⟨rfl, hh⟩
  obtain ⟨o, T', Gs', vs', βs', hf, hv, hkg, hA, hT', hF, hO⟩ := hh.out
  obtain ⟨Ts, Tt, h5, h6⟩ := h.wt
  have hz := h.bel.size
  have s1 := h1.tt
  have s2 := h2.tt
  refine ⟨rfl, o, vs', βs', Gs', hv, ⟨⟨T', T2, hA, h2.fr hF (fun k a b => h3 k b a), fun k a b => ?_, fun k hk => ⟨fun a => ?_, fun b => ?_⟩⟩, fun k hk => ?_, h.bel.trans (hF.below hz (fun k hk => (h1.old k hk).1)), ⟨Ts, Tt, ?_, h6⟩, by simp only [Sd.make]; omega, by have := h.tm; omega, ?_, h.vt_, h.few, h.b1_, h.b2_, fun e he => ?_⟩, fun k hk => hF.block k (h.kk k hk).2 (h4 k hk).1⟩
  · rcases hT' k a with a | a
    · exact h3 k a.1 b
    · have := (h2.old k b).2
      omega
  · rcases hT' k a with a | a
    · rcases hk with hk | hk
      · exact (h4 k hk).1 a.1
      · exact a.2 hk
    · rcases hk with hk | hk
      · have := (h.kk k hk).2
        omega
      · have := (h1.old k (s1.2 k hk)).2
        omega
  · rcases hk with hk | hk
    · exact (h4 k hk).2 b
    · exact h3 k (s1.2 k hk) b
  · have := hF.size
    rcases hk with hk | hk
    · exact ⟨(h.kk k hk).1, by have := (h.kk k hk).2; omega⟩
    · exact ⟨(h1.old k (s1.2 k hk)).1, by have := (h1.old k (s1.2 k hk)).2; omega⟩
  · refine h5.make o hf hkg.1 (by omega) ?_
    rcases hkg.2 with ⟨a, b⟩ | ⟨a, b⟩ | ⟨a, b⟩
    · exact .inl ⟨a, b, by simp [addI, a]⟩
    · exact .inr (.inl ⟨a, b, by simp [addI, a]⟩)
    · exact .inr (.inr ⟨a, b, by simp [addI, a]⟩)
  · intro pc hpc
    simp only [Sd.make, List.mem_append, List.mem_singleton] at hpc
    rcases hpc with hp | rfl
    · exact h.vs_ pc hp
    · exact (hv.fits hf (by omega)).2
  · obtain ⟨a, b⟩ := h.ent e he
    rcases b with b | ⟨b1, b2, b3⟩ | ⟨b1, b2, b3⟩
    · exact ⟨a.fr hF (fun g hg => (h4 g (b g hg)).1), .inl (fun g hg => .inl (b g hg))⟩
    · refine ⟨by rw [b1, b2, b3]; exact hO, .inl (fun g hg => .inr (b1 ▸ hg))⟩
    · refine ⟨a.fr hF (fun g hg c => h3 g c (s2.2 g (b1 ▸ hg))), .inr (.inr ⟨b1, b2, b3⟩)⟩

/-- A side takes in a parcel, if there is one. -/
theorem tk_w (h : WW w0 w x y s t b1 b2 N M K Gs Gt Ins X vs βs vt βt) (hM : M ≤ 400) (hT : Table w0) :
    Calls Tryd.prog 8 #[.pointer (some ⟨x, 0, none⟩), .pointer (some ⟨y, 0, none⟩)] w fun e w' => e = .returned (.bool true) ∧ Hid (∃ s' t' vs' βs' K', WW w0 w' x y s' t' b1 b2 N M K' Gs Gt Ins X vs' βs' vt βt ∧ s'.way.length = s.way.length ∧ t'.way.length = t.way.length - 1 ∧ (∀ k, K k → K' k) ∧ ∀ k, K k → w'.heap[k]? = w.heap[k]?) := by
  obtain ⟨hl1, hl2⟩ := h.len (by omega)
  obtain ⟨T1, T2, h1, h2, h3, h4⟩ := h.mem
  have hsm := h.sm
  have htm := h.tm
  have hN := h.few
  cases hw : t.way with
  | nil =>
    refine (takes_noneV w0.heap.size T1 T2 w x y t b2 vt βt Gt h2 hw).mono ?_
    rintro e w' ⟨rfl, rfl⟩
    exact ⟨rfl, s, t, vs, βs, K, h, rfl, by rw [hw]; rfl, fun k hk => hk, fun k hk => rfl⟩
  | cons pc W =>
    obtain ⟨Ts, Tt, h5, h6⟩ := h.wt
    obtain ⟨hf, h5'⟩ := h5.take hw (by omega)
    refine (takes_someV w0 w0.heap.size T1 T2 w x y s t b1 b2 pc W vs βs Gs vt βt Gt h1 h2 h3 hw (h.vt_ pc (by rw [hw]; simp)) hf (by omega) (by omega) hT rfl h.bel).mono ?_
    rintro e w' ⟨rfl, hh⟩
    obtain ⟨T1', vs', βs', a1, a2, a3, a4, a5⟩ := hh.out
    have hz := h.bel.size
    have s1 := h1.tt
    have s2 := h2.tt
    refine ⟨rfl, s.take pc, t.sent, vs', βs', fun k => K k ∨ βs = some k, ⟨⟨T1', T2, a1, a2, fun k p q => ?_, fun k hk => ⟨fun a => ?_, fun b => ?_⟩⟩, fun k hk => ?_, h.bel.trans (a4.below hz (fun k hk => by rcases hk with hk | hk; exact (h1.old k hk).1; exact (h2.old k hk).1)), ⟨Ts, Tt, h5', h6⟩, hsm, htm, h.vs_, fun p hp => h.vt_ p ?_, h.few, h.b1_, h.b2_, fun e he => ?_⟩, rfl, by simp [Sd.sent, hw], fun k hk => .inl hk, fun k hk => a4.block k (h.kk k hk).2 (fun c => by rcases c with c | c; exact (h4 k hk).1 c; exact (h4 k hk).2 c)⟩
    · rcases a3 k p with hk | hk
      · exact h3 k hk.1 q
      · have := (h2.old k q).2
        omega
    · rcases a3 k a with a | a
      · rcases hk with hk | hk
        · exact (h4 k hk).1 a.1
        · exact a.2 hk
      · rcases hk with hk | hk
        · have := (h.kk k hk).2
          omega
        · have := (h1.old k (s1.2 k hk)).2
          omega
    · rcases hk with hk | hk
      · exact (h4 k hk).2 b
      · exact h3 k (s1.2 k hk) b
    · have := a4.size
      rcases hk with hk | hk
      · exact ⟨(h.kk k hk).1, by have := (h.kk k hk).2; omega⟩
      · exact ⟨(h1.old k (s1.2 k hk)).1, by have := (h1.old k (s1.2 k hk)).2; omega⟩
    · simp only [Sd.sent] at hp
      exact List.mem_of_mem_drop hp
    · obtain ⟨a, b⟩ := h.ent e he
      rcases b with b | ⟨b1, b2, b3⟩ | ⟨b1, b2, b3⟩
      · exact ⟨a.fr a4 (fun g hg c => by rcases c with c | c; exact (h4 g (b g hg)).1 c; exact (h4 g (b g hg)).2 c), .inl (fun g hg => .inl (b g hg))⟩
      · exact ⟨by rw [b1, b2, b3]; exact a5, .inl (fun g hg => .inr (b1 ▸ hg))⟩
      · refine ⟨?_, .inr (.inr ⟨b1, b2, b3⟩)⟩
        have := a2.tt.1
        rw [b1, b2, b3]
        exact this
end

end Go.Proofs.YtmbnimlibnheeabDoor
