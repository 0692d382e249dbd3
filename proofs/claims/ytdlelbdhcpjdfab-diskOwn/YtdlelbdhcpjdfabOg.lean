/-
  DiskOwn: what holds between the steps.
-/
import Derived.Test.YtdlelbdhcpjdfabOd
import Derived.Test.YtdlelbdhcpjdfabOe
namespace Go.Proofs.Ytdlelbdhcpjdfab
open Go.RowKit
set_option linter.unusedVariables false

/-- What holds at the head of a round: at most M lists are kept. -/
def OS (w wr : World) (K rd rx M : Nat) : Prop :=
  ∃ ρd ρw βL βW t Lv Wv LL WW tag, KSt w wr K rd rx ρd ρw βL βW t t Lv Wv LL WW tag ∧ LL.length = WW.length ∧ LL.length ≤ M

theorem OS.below {w wr : World} {K rd rx M : Nat} (h : OS w wr K rd rx M) : Below w.heap.size w wr := by
  obtain ⟨_, _, _, _, _, _, _, _, _, _, h, _⟩ := h
  exact h.below

section
variable {w wr w' : World} {K rd rx : Nat} {ρd ρw βL βW : Option Nat} {td tw : FS} {Lv Wv : Value} {LL WW : List Value} {tag : Nat → Nat}

theorem KSt.bel2 (h : KSt w wr K rd rx ρd ρw βL βW td tw Lv Wv LL WW tag) (hb : Below wr.heap.size wr w') :
    ∃ tag', KSt w w' K rd rx ρd ρw βL βW td tw Lv Wv LL WW tag' ∧ (∀ k, k < wr.heap.size → tag' k = tag k) ∧ ∀ k, wr.heap.size ≤ k → tag' k = 6 :=
  ⟨_, h.bel hb, fun k hk => if_neg (by omega), fun k hk => if_pos hk⟩

/-- Three bytes are appended to a loose list. -/
theorem KSt.app3 (h : KSt w wr K rd rx ρd ρw βL βW td tw Lv Wv LL WW tag) {g g' n cap' : Nat} {vs : List Value} (hg : tag g = 6) (hgb : w.heap.size ≤ g) (hgl : g < wr.heap.size) (hP : Pushed wr w' 5 (some g) g' n cap' vs) :
    ∃ tag', KSt w w' K rd rx ρd ρw βL βW td tw Lv Wv LL WW tag' ∧ (∀ k, k < wr.heap.size → tag' k = tag k) ∧ tag' g' = 6 ∧ w.heap.size ≤ g' := by
  refine ⟨_, h.fr hP.fr (fun k _ e => by obtain rfl := Option.some.inj e; exact ⟨hg, hgb⟩), fun k hk => if_neg (by omega), ?_, ?_⟩
  · rcases hP.ge with e | e
    · obtain rfl := Option.some.inj e
      exact (if_neg (by omega)).trans hg
    · exact if_pos e
  · rcases hP.ge with e | e
    · obtain rfl := Option.some.inj e
      exact hgb
    · exact Nat.le_trans h.below.size e

theorem KSt.first {wK : World} (hK : wK.heap[K]? = some (.cells #[.slice none 0 0, .slice none 0 0] 38 (0, 0))) (hb : Below w.heap.size w wK) (hKb : w.heap.size ≤ K) (h1 : DN wK w.heap.size rd ρd td.B td.s) (h2 : DN wK w.heap.size rx ρw tw.B tw.s) (hd' : Dis rd ρd rx ρw) (n1 : ¬ Own rd ρd K) (n2 : ¬ Own rx ρw K) :
    ∃ tag, KSt w wK K rd rx ρd ρw none none td tw (.slice none 0 0) (.slice none 0 0) [] [] tag := by
  classical
  refine ⟨fun k => if Own rd ρd k then 0 else if Own rx ρw k then 1 else if k = K then 2 else 6, hK, ⟨rfl, rfl⟩, ⟨rfl, rfl⟩, ?_, h1.1, h2.1, ?_, ?_, ?_, ?_, ?_, hb⟩
  · intro j u v e
    simp at e
  · intro k hk
    exact ⟨if_pos hk, h1.2 k hk⟩
  · intro k hk
    refine ⟨?_, h2.2 k hk⟩
    show (if _ then _ else _) = _
    rw [if_neg (fun h => hd' k h hk), if_pos hk]
  · refine ⟨?_, hKb⟩
    show (if _ then _ else _) = _
    rw [if_neg n1, if_neg n2, if_pos rfl]
  · intro k e
    cases e
  · intro k e
    cases e
end

theorem stepP_app (kind site oa ob oc : Int) (xs B : List Int) (s : Nat) (h : kind = 3) : stepP ⟨kind, site, oa, ob, oc, xs⟩ B s = appP xs B s := by
  unfold stepP
  rw [if_pos h]

theorem op_cells' {w : World} {P : Nat} {v0 v1 v2 v3 v4 v5 : Value} (h : w.heap[P]? = some (.cells #[v0, v1, v2, v3, v4, v5] 29 (0, 0))) :
    w.cell? ⟨P, 0, none⟩ = some v0 ∧ w.cell? ⟨P, 1, none⟩ = some v1 ∧ w.cell? ⟨P, 2, none⟩ = some v2 ∧ w.cell? ⟨P, 3, none⟩ = some v3 ∧ w.cell? ⟨P, 4, none⟩ = some v4 ∧ w.cell? ⟨P, 5, none⟩ = some v5 := by
  refine ⟨?_, ?_, ?_, ?_, ?_, ?_⟩ <;> (rw [cell_row h]; rfl)

theorem rowB_isB' {w : World} {g n cap : Nat} {ys : List Int} (h : RowB w g n cap ys) : IsB w (some ⟨g, 0, none⟩) n cap ys := by
  obtain ⟨cur, hh, ht, hl, h1, h2, h3⟩ := h
  have := RowB.isB (ys := ys) ⟨cur, hh, ht, hl, h1, h2, h3⟩ 0 n cap (by omega) h1 h2
  rw [List.drop_zero, List.take_of_length_le (by omega)] at this
  exact this

theorem newB_rowB {w : World} {base g n : Nat} {xs : List Int} (h : NewB w base (.slice (some ⟨g, 0, none⟩) n n) n xs) (hn : n ≤ 9223372036854775807) : RowB w g n n xs ∧ base ≤ g := by
  obtain ⟨g2, e, hge, hg, hl⟩ := h
  simp at e
  subst e
  exact ⟨⟨_, hg, by rw [List.toList_toArray, List.take_of_length_le (by rw [ints_len]; omega)], hl, Nat.le_refl _, hn, by simp [ints, hl]⟩, hge⟩

end Go.Proofs.Ytdlelbdhcpjdfab
