/-
  Flip.
-/
import Derived.Test.YtnglcnilckolkaaNj
namespace Go.Proofs.Ytnglcnilckolkaa
open Go.RowKit Go.Maps
set_option linter.unusedVariables false

def xorB (y mask : Int) : Int := bits BinOp.xor IntKind.u8 y mask
def flipE (G : List DG) (i at_ mask : Int) : Int :=
  if isAt G.length i then (if mask < 1 ∨ 255 < mask ∨ at_ < 0 ∨ (G.getD i.toNat zDG).b.length ≤ at_ then 75 else if (G.getD i.toNat zDG).s = true then 76 else 0) else 74
def flipD (d : DG) (j : Nat) (mask : Int) : DG := ⟨d.f, d.t, d.b.set j (xorB (d.b.getD j 0) mask), true⟩

theorem flip_none (x : Nat) (cl : Int) (G : List DG) (B : Nat) (S : Nat → Prop) (w : World) (h : NB w x cl G B S) (i at_ mask : Int) (hi : ¬ isAt G.length i) :
    Calls Try.prog 19 #[.pointer (some ⟨x, 0, none⟩), .int .i64 i, .int .i64 at_, .int .i64 mask] w fun e w' => e = .returned (.int .i64 74) ∧ w' = w := by
  obtain ⟨nx, hnx, E, bm, va, β, hN, hG⟩ := h
  have hl : G.length = E.length := by rw [← hG]; simp
  have HN := hd hN
  rw [hl] at hi
  have hb : decide (0 ≤ i ∧ i < E.length) = false := decide_eq_false hi
  clear hN hG hl hi
  go_enter Try.func19, Try.ntmps19
  go_wp2_with fail
  refine (has_nk x cl E nx S bm va β w HN.out i).mono ?_
  rintro e w1 ⟨rfl, rfl⟩
  rw [hb]
  go_wp2
  go_ret
  exact ⟨rfl, rfl⟩

def flipG (G : List DG) (i at_ mask : Int) : List DG := if flipE G i at_ mask = 0 then G.set i.toNat (flipD (G.getD i.toNat zDG) at_.toNat mask) else G
theorem flipG_no {G : List DG} {i a m : Int} (h : flipE G i a m ≠ 0) : flipG G i a m = G := by simp [flipG, h]
theorem flipG_yes {G : List DG} {i a m : Int} (h : flipE G i a m = 0) : flipG G i a m = G.set i.toNat (flipD (G.getD i.toNat zDG) a.toNat m) := by simp [flipG, h]

theorem ints_set (xs : List Int) (j : Nat) (y : Int) : ints (xs.set j y) = (ints xs).set j (.int .u8 y) := by
  simp [ints, List.map_set]

theorem SB.set {w : World} {g j : Nat} {v : Value} {b : List Int} (h : SB w (some g) v b) (hj : j < b.length) (y : Int) : SB (w.setCell ⟨g, j, none⟩ (.int .u8 y)) (some g) v (b.set j y) := by
  obtain ⟨cap, hv, cur, hh, ht, hl, h1, h2, h3⟩ := h
  refine ⟨cap, by rw [hv]; simp [ints_len], _, set_row hh j _, ?_, rfl, ?_, h2, by simpa using h3⟩
  · rw [ints_set, List.length_set]
    rw [Array.toList_setIfInBounds, List.take_set, ht]
  · rw [ints_len, List.length_set]
    rw [ints_len] at h1
    exact h1

theorem flip_end {w wc w5 w6 : World} {x : Nat} {cl : Int} {E1 E2 : List En} {e : En} {nx : Nat} {S : Nat → Prop} {bm : Nat} {va : Value} {β : Option Nat} {g j : Nat} {y : Int} (N : NK wc x cl (E1 ++ e :: E2) nx S bm va β) (hold : ∀ k, S k → k < w.heap.size) (hW : Below w.heap.size w wc)
    (hg : e.γ = some g) (hj : j < e.d.b.length) (hF5 : Fr (· = w.heap.size) (wc.setCell ⟨g, j, none⟩ (.int .u8 y)) w5) (hF6 : Fr (· = bm) w5 w6)
    (hM : MP w6 bm ((E1.map fun e => (e.age, e.val)) ++ (e.age, dgv ⟨e.d.f, e.d.t, e.d.b.set j y, true⟩ e.v) :: (E2.map fun e => (e.age, e.val)))) :
    NetAt w6 x cl (E1.map En.d ++ ⟨e.d.f, e.d.t, e.d.b.set j y, true⟩ :: E2.map En.d) nx S ∧ Fr S w w6 := by
  have hme : e ∈ E1 ++ e :: E2 := by simp
  have hxm := N.xbm
  have hgx := N.e_x (N.rows e hme) hg
  have F5 : Fr (· = g) wc (wc.setCell ⟨g, j, none⟩ (.int .u8 y)) := Fr.setCell _ ⟨g, j, none⟩ _ rfl
  have Fall : Fr (fun k => k = g ∨ k = w.heap.size ∨ k = bm) wc w6 := ((F5.mono (fun k _ h => .inl h)).trans (hF5.mono (fun k _ h => .inr (.inl h)))).trans (hF6.mono (fun k _ h => .inr (.inr h)))
  have nS : ∀ k, S k → k ≠ w.heap.size := fun k hk h => by have := hold k hk; omega
  have sub : ∀ a ∈ E1 ++ E2, a ∈ E1 ++ e :: E2 := fun a ha => by
    simp at ha ⊢
    rcases ha with ha | ha <;> simp [ha]
  have ne : ∀ a ∈ E1 ++ E2, a.γ ≠ some g := by
    intro a ha hag
    have hr := N.sep
    rw [List.pairwise_append] at hr
    obtain ⟨-, h2, h3⟩ := hr
    simp at ha
    rcases ha with ha | ha
    · exact h3 a ha e (by simp) g hag hg
    · exact (List.pairwise_cons.1 h2).1 a ha g hg hag
  have rw0 : ∀ a ∈ E1 ++ E2, SB w6 a.γ a.v a.d.b := fun a ha => SRow.fr (N.rows a (sub a ha)) Fall (fun k hk h => by
    have h1 := N.e_x (N.rows a (sub a ha)) hk
    rcases h with rfl | rfl | rfl
    · exact ne a ha hk
    · exact nS _ (N.own.2.2.2 a (sub a ha) _ hk) rfl
    · exact h1.2.1 rfl)
  have rwe : SB w6 (some g) e.v (e.d.b.set j y) := by
    have h0 := N.rows e hme
    rw [hg] at h0
    exact SRow.fr (SRow.fr (h0.set hj y) hF5 (fun k hk h => by injection hk with hk; exact nS g (N.own.2.2.2 e hme g hg) (by omega))) hF6 (fun k hk h => by injection hk with hk; exact hgx.2.1 (by omega))
  refine ⟨⟨E1 ++ ⟨e.age, ⟨e.d.f, e.d.t, e.d.b.set j y, true⟩, e.v, e.γ⟩ :: E2, bm, va, β, ⟨Fall.keeps N.net ?_, ?_, ?_, ?_, ?_, ?_, ?_, ?_, ?_, N.big, ⟨N.own.1, N.own.2.1, N.own.2.2.1, ?_⟩, fun k hk => Nat.lt_of_lt_of_le (N.old k hk) Fall.size⟩, by simp⟩, ?_⟩
  · rintro (h | h | h)
    · exact hgx.1 h.symm
    · exact nS x N.own.1 h
    · exact hxm h
  · have := N.ages.fr Fall (fun k hk h => by
      rcases h with rfl | rfl | rfl
      · exact hgx.2.2 hk
      · exact nS _ (N.own.2.2.1 _ hk) rfl
      · exact (N.b_x hk).2 rfl)
    simpa using this
  · have := hM
    simpa [En.val] using this
  · intro a ha
    simp at ha
    rcases ha with ha | rfl | ha
    · exact rw0 a (by simp [ha])
    · simp only
      rw [hg]
      exact rwe
    · exact rw0 a (by simp [ha])
  · intro a ha
    simp at ha
    rcases ha with ha | rfl | ha
    · exact N.short a (sub a (by simp [ha]))
    · have := N.short e hme
      simpa using this
    · exact N.short a (sub a (by simp [ha]))
  · have := N.rise
    rw [List.pairwise_append, List.pairwise_cons] at this ⊢
    obtain ⟨p1, ⟨p2, p3⟩, p4⟩ := this
    refine ⟨p1, ⟨p2, p3⟩, fun a ha b hb => ?_⟩
    simp at hb
    rcases hb with rfl | hb
    · exact p4 a ha e (by simp)
    · exact p4 a ha b (by simp [hb])
  · intro a ha
    simp at ha
    rcases ha with ha | rfl | ha
    · exact N.top a (sub a (by simp [ha]))
    · exact N.top e hme
    · exact N.top a (sub a (by simp [ha]))
  · have := N.sep
    rw [List.pairwise_append, List.pairwise_cons] at this ⊢
    obtain ⟨p1, ⟨p2, p3⟩, p4⟩ := this
    refine ⟨p1, ⟨p2, p3⟩, fun a ha b hb => ?_⟩
    simp at hb
    rcases hb with rfl | hb
    · exact p4 a ha e (by simp)
    · exact p4 a ha b (by simp [hb])
  · have := N.few
    simpa using this
  · intro a ha k hk
    simp at ha
    rcases ha with ha | rfl | ha
    · exact N.own.2.2.2 a (sub a (by simp [ha])) k hk
    · exact N.own.2.2.2 e hme k hk
    · exact N.own.2.2.2 a (sub a (by simp [ha])) k hk
  · refine Fr.next (Fr.of_below hW) Fall ?_
    rintro k hk (rfl | rfl | rfl)
    · exact N.own.2.2.2 e hme _ hg
    · omega
    · exact N.own.2.1

end Go.Proofs.Ytnglcnilckolkaa
