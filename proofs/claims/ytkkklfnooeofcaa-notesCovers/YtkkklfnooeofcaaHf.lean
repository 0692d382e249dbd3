/-
  A text ahead of another, newly made.
-/
import Derived.Test.YtkkklfnooeofcaaHd
import Derived.Test.YtkkklfnooeofcaaFc
namespace Go.Proofs.Ytkkklfnooeofcaa
open Go.RowKit Go.Maps Go.ChangeMaps Go.MapKept Go.WideMaps
set_option linter.unusedVariables false

theorem IsE.src {w : World} {a : Option Addr} {n c : Nat} {xs : List El} (h : IsE w a n c xs) : 0 < n → ∃ ad, a = some ad ∧ ∀ j u, (cl elc xs)[j]? = some u → w.cell? (ad.add j) = some u := fun hn => by
  obtain ⟨b, off, e, -, -⟩ := h.2.2.2 hn
  subst e
  exact ⟨_, rfl, isE_cells h hn⟩
theorem two_apps {u : World} {aw : Option Addr} {nW cW : Nat} {ws : List El} {av : Option Addr} {n cv : Nat} {xs : List El} (hW : IsE u aw nW cW ws) (hX : IsE u av n cv xs) (hW24 : nW * 24 ≤ 140737488351232) (hn : n ≤ 2048) :
    ∃ v1 u1 a2 c2 u2 β2, (∀ ty, (Builtin.append_ #[23, 23] ty #[.slice none 0 0, .slice aw nW cW]).run Try.prog u = .ok v1 u1) ∧ (∀ ty, (Builtin.append_ #[23, 23] ty #[v1, .slice av n cv]).run Try.prog u1 = .ok (.slice a2 (nW + n) c2) u2) ∧
      SF elc 3 u2 57 β2 (.slice a2 (nW + n) c2) (ws ++ xs) ∧ (∀ k, β2 = some k → u.heap.size ≤ k) ∧ Below u.heap.size u u2 := by
  obtain ⟨i0, hi0, hz0, hz1, hz2⟩ := info_parts Try.infoE
  obtain ⟨v1, u1, β1, r1, S1, B1, F1⟩ := run_appS sz_elc u 23 57 i0 _ 24 Try.underlying23 hi0 hz0 hz1 rfl hz2 none (.slice none 0 0) [] ⟨rfl, rfl⟩ aw nW cW ws hW.1 hW.src (by rw [List.length_nil, Nat.zero_add]; unfold roomy; omega)
  have b1 : Below u.heap.size u u1 := F1.below (Nat.le_refl _) (fun k hk => by cases hk)
  have hl : ws.length = nW := hW.1
  obtain ⟨v2, u2, β2, r2, S2, B2, F2⟩ := run_appS sz_elc u1 23 57 i0 _ 24 Try.underlying23 hi0 hz0 hz1 rfl hz2 β1 v1 ([] ++ ws) S1 av n cv xs hX.1 (hX.below b1).src (by rw [List.nil_append, hl]; unfold roomy; omega)
  have hβ1 : ∀ k, β1 = some k → u.heap.size ≤ k := by
    intro k hk
    rcases B1 with e | ⟨g, e, hg⟩
    · rw [e] at hk; cases hk
    · rw [e] at hk; cases hk; exact hg
  obtain ⟨a2, c2, hv2, -, -⟩ := S2.form
  rw [List.nil_append, List.length_append, hl, hX.1] at hv2
  subst hv2
  refine ⟨v1, u1, a2, c2, u2, β2, r1, r2, S2, fun k hk => ?_, b1.trans (F2.below b1.size hβ1)⟩
  rcases B2 with e | ⟨g, e, hg⟩
  · rw [e] at hk; exact hβ1 k hk
  · rw [e] at hk; cases hk; exact Nat.le_trans b1.size hg

end Go.Proofs.Ytkkklfnooeofcaa
