/-
  OtTags, whole.
-/
import Derived.Test.YtmkgkgdngjmcmaaDoorTa
namespace Go.Proofs.YtmkgkgdngjmcmaaDoor
open Go.RowKit
set_option linter.unusedVariables false

theorem otTags_any (a b : OpE) (f : Bool) (w : World) (hT : Table w) : Calls Tryd.prog 3 #[.agg #[.int .i64 a.kind, .int .i64 a.pos, .int .u8 a.ch, .int .i64 a.cl, .int .i64 a.sq], .agg #[.int .i64 b.kind, .int .i64 b.pos, .int .u8 b.ch, .int .i64 b.cl, .int .i64 b.sq], .bool f] w fun e w' =>
    e = .returned (.bool true) ∧ Below w.heap.size w w' := by
  obtain ⟨k, p, c, q, s⟩ := a
  obtain ⟨k', p', c', q', s'⟩ := b
  have N : ∀ {k : Int}, rowP k = 0 → (k == 1) = false ∧ (k == 2) = false ∧ (k != 1) = true ∧ (k != 2) = true := fun {k} h => by
    have := rowP_zero h
    refine ⟨?_, ?_, ?_, ?_⟩ <;> simp <;> omega
  have up : ((wrap64 (p + 1)) == p) = false := by unfold wrap64; simp; omega
  have dn : ((wrap64 (p - 1)) == p) = false := by unfold wrap64; simp; omega
  rcases rowP_cases k with rfl | rfl | hk
  · rcases rowP_cases k' with rfl | rfl | hk'
    · by_cases hl : p' < p ∨ (p' = p ∧ f = false)
      · exact tg_11m _ _ _ _ _ _ _ _ _ w hT up (by unfold shiftP; rw [if_neg (by simp), if_neg (by simp), if_pos (by simpa using hl)]; simp)
      · exact tg_11s _ _ _ _ _ _ _ _ _ w hT (by unfold shiftP; rw [if_neg (by simp), if_neg (by simp), if_neg (by simpa using hl)])
    · by_cases hl : p' < p
      · exact tg_12m _ _ _ _ _ _ _ _ _ w hT dn (by unfold shiftP; rw [if_neg (by simp), if_neg (by simp), if_pos (by simpa using hl)]; simp)
      · exact tg_12s _ _ _ _ _ _ _ _ _ w hT (by unfold shiftP; rw [if_neg (by simp), if_neg (by simp), if_neg (by simpa using hl)])
    · obtain ⟨h1, h2, h3, h4⟩ := N hk'
      exact tg_1n k' _ _ _ _ _ _ _ _ _ w hT h1 h2 h3 h4 (shiftP_none (by have := rowP_zero hk'; simp only; omega))
  · rcases rowP_cases k' with rfl | rfl | hk'
    · by_cases hl : p' < p ∨ p' = p
      · exact tg_21m _ _ _ _ _ _ _ _ _ w hT up (by unfold shiftP; rw [if_neg (by simp), if_neg (by simp), if_pos (by simpa using hl)]; simp)
      · exact tg_21s _ _ _ _ _ _ _ _ _ w hT (by unfold shiftP; rw [if_neg (by simp), if_neg (by simp), if_neg (by simpa using hl)])
    · by_cases he : p = p'
      · subst he
        exact tg_22e _ _ _ _ _ _ _ _ w hT (by simp [shiftP])
      · by_cases hl : p' < p
        · exact tg_22m _ _ _ _ _ _ _ _ _ w hT (by simpa using he) dn (by simp [shiftP, he, hl])
        · exact tg_22s _ _ _ _ _ _ _ _ _ w hT (by simpa using he) (by simp [shiftP, he, hl])
    · obtain ⟨h1, h2, h3, h4⟩ := N hk'
      exact tg_2n k' _ _ _ _ _ _ _ _ _ w hT h1 h2 h3 h4 (shiftP_none (by have := rowP_zero hk'; simp only; omega))
  · obtain ⟨h1, h2, h3, h4⟩ := N hk
    have hx : ∀ b f, shiftP ⟨k, p, c, q, s⟩ b f = ⟨k, p, c, q, s⟩ := fun b f => shiftP_none (by have := rowP_zero hk; simp only; omega)
    rcases rowP_cases k' with rfl | rfl | hk'
    · exact tg_n1 k _ _ _ _ _ _ _ _ _ w hT h1 h2 h3 h4 (hx _ _)
    · exact tg_n2 k _ _ _ _ _ _ _ _ _ w hT h1 h2 h3 h4 (hx _ _)
    · obtain ⟨e1, e2, e3, e4⟩ := N hk'
      exact tg_nn k k' _ _ _ _ _ _ _ _ _ w hT h1 h2 h3 h4 e1 e2 e3 e4 (hx _ _)

end Go.Proofs.YtmkgkgdngjmcmaaDoor
