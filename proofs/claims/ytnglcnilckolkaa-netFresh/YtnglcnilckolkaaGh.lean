/-
  NetFresh: several lists of datagrams whose blocks are told apart by whose they are.
-/
import Derived.Test.YtnglcnilckolkaaGg
namespace Go.Proofs.Ytnglcnilckolkaa
open Go.RowKit
set_option linter.unusedVariables false

/-- The blocks of a list. -/
def Ent.own (e : Ent) (g : Nat) : Prop := e.β = some g ∨ ∃ x ∈ e.L, x.γ = some g
structure FG (w : World) (e : Ent) : Prop where
  so : SO w e.β e.v e.L
  rows : ∀ x ∈ e.L, SB w x.γ x.sv x.d.b
  sep : e.L.Pairwise (fun a b => ∀ g, a.γ = some g → b.γ ≠ some g)
theorem FE.fg {w : World} {e : Ent} (h : FE w e) : FG w e := ⟨h.so, fun x hx => (h.rows x hx).1, h.sep⟩
theorem FE.own {w : World} {e : Ent} (h : FE w e) (g : Nat) (hg : e.own g) : e.lo ≤ g ∧ g < e.hi := by
  rcases hg with hg | ⟨x, hx, hg⟩
  · exact h.at_ g hg
  · exact (h.rows x hx).2 g hg
theorem FG.fr {T : Nat → Prop} {w w' : World} {e : Ent} (h : FG w e) (hF : Fr T w w') (hT : ∀ k, e.own k → ¬ T k) : FG w' e :=
  ⟨h.so.fr hF (fun g hg => hT g (.inl hg)), fun x hx => SRow.fr (h.rows x hx) hF (fun g hg => hT g (.inr ⟨x, hx, hg⟩)), h.sep⟩
theorem FG.below {w w' : World} {e : Ent} (h : FG w e) (hb : Below w.heap.size w w') : FG w' e := h.fr (T := fun _ => False) (Fr.of_below hb) (fun _ _ h => h)
theorem FG.isG {w : World} {e : Ent} (h : FG w e) : IsG w (at0 e.β) e.L.length e.c e.L := by
  obtain ⟨a, c, hv, hI⟩ := h.so.form
  unfold Ent.v at hv
  injection hv with e1 e2 e3
  rw [e1, e3]
  refine ⟨hI, fun x hx => ?_⟩
  obtain ⟨a', c', hv', hB⟩ := (h.rows x hx).isB
  unfold It.sv at hv'
  injection hv' with q1 q2 q3
  rw [q1, q3]
  exact hB

theorem readyG {w : World} {Es : List Ent} (h : ∀ e ∈ Es, FG w e) (hp : Es.Pairwise (fun a b => ∀ g, a.own g → ¬ b.own g)) :
    DB w Es.length (eB Es) (eC Es) (eL Es) ∧ (∀ x ∈ fl (eL Es) Es.length, SB w x.γ x.sv x.d.b) ∧ (fl (eL Es) Es.length).Pairwise (fun a b => ∀ g, a.γ = some g → b.γ ≠ some g) := by
  have hpi := List.pairwise_iff_getElem.1 hp
  refine ⟨⟨fun i j g hi hj h1 h2 => ?_, fun i hi => ?_⟩, fun x hx => ?_, ?_⟩
  · rw [eB, getE_of hi] at h1
    rw [eB, getE_of hj] at h2
    rcases Nat.lt_trichotomy i j with e | e | e
    · exact absurd (.inl h2) (hpi i j hi hj e g (.inl h1))
    · exact e
    · exact absurd (.inl h1) (hpi j i hj hi e g (.inl h2))
  · rw [eB, eC, eL, getE_of hi]
    obtain ⟨c, e, hT⟩ := (h _ (List.getElem_mem hi)).so.tr
    obtain ⟨-, -, e3⟩ := Value.slice.inj e
    rw [e3]
    exact hT
  · rw [fl_all, List.mem_flatMap] at hx
    obtain ⟨e, he, hx⟩ := hx
    exact (h e he).rows x hx
  · rw [fl_all, List.pairwise_flatMap]
    refine ⟨fun e he => (h e he).sep, hp.imp_of_mem ?_⟩
    intro a b ha hb hab x hx y hy g h1 h2
    exact hab g (.inr ⟨x, hx, h1⟩) (.inr ⟨y, hy, h2⟩)

/-- Two nets, the lists that they handed out, and other blocks of the law: each block is one's. -/
structure TL (w0 w : World) (x y : Nat) (Gx : List DG) (Bx : Nat) (Gy : List DG) (By : Nat) (Es : List Ent) (Ks : Nat → Prop) : Prop where
  tw : TW w0 w x y Gx Bx Gy By (fun k => k < w0.heap.size ∨ (∃ e ∈ Es, e.own k) ∨ Ks k)
  fg : ∀ e ∈ Es, FG w e ∧ ∀ k, e.own k → w0.heap.size ≤ k
  pw : Es.Pairwise (fun a b => ∀ g, a.own g → ¬ b.own g)
  ks : ∀ k, Ks k → w0.heap.size ≤ k ∧ ∀ e ∈ Es, ¬ e.own k

theorem TW.lt {w0 w : World} {x y : Nat} {Gx Gy : List DG} {Bx By : Nat} {F : Nat → Prop} (h : TW w0 w x y Gx Bx Gy By F) (k : Nat) (hk : F k) : k < w.heap.size := by
  obtain ⟨Sx, Sy, h1, h2, h3, h4, h5, h6, h7⟩ := h
  exact (h4 k hk).2.2

section
variable {w0 w w' : World} {x y : Nat} {Gx Gy : List DG} {Bx By : Nat} {Es : List Ent} {Ks : Nat → Prop}
theorem TL.base (h : TL w0 w x y Gx Bx Gy By Es Ks) : Below w0.heap.size w0 w := h.tw.base
theorem TL.swap (h : TL w0 w x y Gx Bx Gy By Es Ks) : TL w0 w y x Gy By Gx Bx Es Ks := ⟨h.tw.swap, h.fg, h.pw, h.ks⟩
theorem TL.lt (h : TL w0 w x y Gx Bx Gy By Es Ks) : (∀ e ∈ Es, ∀ k, e.own k → k < w.heap.size) ∧ ∀ k, Ks k → k < w.heap.size :=
  ⟨fun e he k hk => h.tw.lt k (.inr (.inl ⟨e, he, hk⟩)), fun k hk => h.tw.lt k (.inr (.inr hk))⟩

/-- New blocks of the law. -/
theorem TL.below (h : TL w0 w x y Gx Bx Gy By Es Ks) (b : Below w.heap.size w w') : TL w0 w' x y Gx Bx Gy By Es (fun k => Ks k ∨ (w.heap.size ≤ k ∧ k < w'.heap.size)) := by
  have hs := h.base.size
  refine ⟨(h.tw.own (Fr.of_below b)).sub ?_, fun e he => ⟨(h.fg e he).1.below b, (h.fg e he).2⟩, h.pw, ?_⟩
  · rintro k (hk | hk | hk | hk)
    · exact .inl (.inl hk)
    · exact .inl (.inr (.inl hk))
    · exact .inl (.inr (.inr hk))
    · exact .inr hk
  · rintro k (hk | hk)
    · exact h.ks k hk
    · exact ⟨by omega, fun e he ho => by have := h.lt.1 e he k ho; omega⟩

theorem TL.sub {Ks' : Nat → Prop} (h : TL w0 w x y Gx Bx Gy By Es Ks) (hs : ∀ k, Ks' k → Ks k) : TL w0 w x y Gx Bx Gy By Es Ks' :=
  ⟨h.tw.sub (fun k hk => hk.imp id (fun hk => hk.imp id (hs k))), h.fg, h.pw, fun k hk => h.ks k (hs k hk)⟩

theorem TL.add (h : TL w0 w x y Gx Bx Gy By Es Ks) (e : Ent) (hF : FG w e) (ho : ∀ k, e.own k → Ks k) : TL w0 w x y Gx Bx Gy By (Es ++ [e]) (fun k => Ks k ∧ ¬ e.own k) := by
  refine ⟨h.tw.sub ?_, ?_, ?_, ?_⟩
  · rintro k (hk | ⟨e', he', hk⟩ | hk)
    · exact .inl hk
    · rcases List.mem_append.1 he' with h1 | h1
      · exact .inr (.inl ⟨e', h1, hk⟩)
      · rw [List.mem_singleton] at h1
        subst h1
        exact .inr (.inr (ho k hk))
    · exact .inr (.inr hk.1)
  · intro e' he'
    rcases List.mem_append.1 he' with h1 | h1
    · exact h.fg e' h1
    · rw [List.mem_singleton] at h1
      subst h1
      exact ⟨hF, fun k hk => (h.ks k (ho k hk)).1⟩
  · rw [List.pairwise_append]
    refine ⟨h.pw, by simp, fun a ha b hb g h1 h2 => ?_⟩
    rw [List.mem_singleton] at hb
    subst hb
    exact (h.ks g (ho g h2)).2 a ha h1
  · rintro k ⟨hk, hn⟩
    refine ⟨(h.ks k hk).1, fun e' he' ho' => ?_⟩
    rcases List.mem_append.1 he' with h1 | h1
    · exact (h.ks k hk).2 e' h1 ho'
    · rw [List.mem_singleton] at h1
      subst h1
      exact hn ho'

theorem tl_flight (h : TL w0 w x y Gx Bx Gy By Es Ks) :
    Calls Try.prog 21 #[.pointer (some ⟨x, 0, none⟩)] w fun e w' => ∃ E : Ent, e = .returned E.v ∧ E.L.map It.d = Gx ∧ TL w0 w' x y Gx Bx Gy By (Es ++ [E]) Ks ∧ Below w.heap.size w w' := by
  refine (tw_flight h.tw).mono ?_
  rintro e w' ⟨E, rfl, hE, e1, e2, e3, hT, hb⟩
  have hs := h.base.size
  have ho : ∀ k, E.own k → w.heap.size ≤ k ∧ k < w'.heap.size := fun k hk => by
    have := hE.own k hk
    rw [e1, e2] at this
    exact this
  refine ⟨E, rfl, e3, ?_, hb⟩
  have h1 := (h.below hb).add E hE.fg (fun k hk => .inr (ho k hk))
  exact h1.sub (fun k hk => ⟨.inl hk, fun hk' => by have := h.lt.2 k hk; have := (ho k hk').1; omega⟩)

theorem tl_deliver (h : TL w0 w x y Gx Bx Gy By Es Ks) (i : Nat) (hi : i < Gx.length) :
    Calls Try.prog 17 #[.pointer (some ⟨x, 0, none⟩), .int .i64 i] w fun e w' => ∃ γ c, e = .returned (.tuple #[dgv (Gx.getD i zDG) (.slice (at0 γ) (Gx.getD i zDG).b.length c), .int .i64 0]) ∧ TR w' γ c (Gx.getD i zDG).b ∧
      TL w0 w' x y (without Gx i) Bx Gy By Es (fun k => Ks k ∨ γ = some k) ∧ (∀ g, γ = some g → w.heap.size ≤ g) ∧ Kp w0 (fun k => k < w0.heap.size ∨ (∃ e ∈ Es, e.own k) ∨ Ks k) w w' := by
  refine (tw_deliver h.tw i hi).mono ?_
  rintro e w' ⟨γ, c, rfl, hT, hγ, hW, hK⟩
  have hs := h.base.size
  have hlt : ∀ k, γ = some k → k < w'.heap.size := fun k e => hT.lt k e
  refine ⟨γ, c, rfl, hT, ⟨hW.sub ?_, fun e he => ⟨(h.fg e he).1.fr hK (fun k hk hk' => hk'.2 (.inr (.inl ⟨e, he, hk⟩))), (h.fg e he).2⟩, h.pw, ?_⟩, hγ, hK⟩
  · rintro k (hk | hk | hk | hk)
    · exact .inl (.inl hk)
    · exact .inl (.inr (.inl hk))
    · exact .inl (.inr (.inr hk))
    · exact .inr ⟨hγ k hk, hlt k hk⟩
  · rintro k (hk | hk)
    · exact h.ks k hk
    · exact ⟨by have := hγ k hk; omega, fun e he ho => by have := h.lt.1 e he k ho; have := hγ k hk; omega⟩
end

end Go.Proofs.Ytnglcnilckolkaa
