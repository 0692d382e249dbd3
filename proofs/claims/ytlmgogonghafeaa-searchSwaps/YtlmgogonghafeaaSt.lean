/-
  What Swap leaves of the elements that the law makes.
-/
import Derived.Test.YtlmgogonghafeaaSs
import Derived.Test.YtlmgogonghafeaaEa
import Derived.Test.YtlmgogonghafeaaSk
namespace Go.Proofs.Ytlmgogonghafeaa
open Go.RowKit Go.Lib
set_option linter.unusedVariables false

theorem applyP_mem {xs : List El} {o : OpE} {y : El} (h : y ∈ applyP xs o) : y ∈ xs ∨ y = (o.ch, o.cl, o.sq) := by
  unfold applyP at h
  split at h
  · rcases List.mem_append.1 h with h | h
    · exact .inl (List.mem_of_mem_take h)
    · rcases List.mem_cons.1 h with h | h
      · exact .inr h
      · exact .inl (List.mem_of_mem_drop h)
  · split at h
    · rcases List.mem_append.1 h with h | h
      · exact .inl (List.mem_of_mem_take h)
      · exact .inl (List.mem_of_mem_drop h)
    · exact .inl h
theorem runX_mem : ∀ (os : List OpE) (xs : List El) (y : El), y ∈ runX xs os → y ∈ xs ∨ ∃ o ∈ os, y = (o.ch, o.cl, o.sq) := by
  intro os
  induction os with
  | nil => intro xs y h; exact .inl h
  | cons o os ih =>
    intro xs y h
    unfold runX at h
    rw [List.foldl_cons] at h
    rcases ih (applyP xs o) y h with h | ⟨o', ho, e⟩
    · rcases applyP_mem h with h | h
      · exact .inl h
      · exact .inr ⟨o, List.mem_cons_self, h⟩
    · exact .inr ⟨o', List.mem_cons_of_mem _ ho, e⟩
theorem eS_key (b : By) (i : Nat) (hi : i < 1000) : keyE (eS b i) = (i : Int) := by
  unfold keyE eS
  have h : i / 64 % 64 = i / 64 := Nat.mod_eq_of_lt (by omega)
  simp only [h]
  omega
theorem eS_ok (b : By) (i : Nat) (hi : i < 1000) : 1 ≤ (eS b i).2.1 ∧ (eS b i).2.1 ≤ 16 ∧ 1 ≤ (eS b i).2.2 ∧ (eS b i).2.2 ≤ 64 := by
  unfold eS
  have h : i / 64 % 64 = i / 64 := Nat.mod_eq_of_lt (by omega)
  simp only [h]
  omega
theorem elS_ok (b : By) (N : Nat) (hN : N ≤ 1000) : ∀ x ∈ elS b N, 1 ≤ x.2.1 ∧ x.2.1 ≤ 16 ∧ 1 ≤ x.2.2 ∧ x.2.2 ≤ 64 := by
  intro x hx
  unfold elS at hx
  obtain ⟨i, hi, rfl⟩ := List.mem_map.1 hx
  exact eS_ok b i (by have := List.mem_range.1 hi; omega)
theorem elS_keys (b : By) (N : Nat) (hN : N ≤ 1000) : (elS b N).Pairwise (fun x y => keyE x < keyE y) := by
  unfold elS
  rw [List.pairwise_map]
  refine List.Pairwise.imp_of_mem (R := fun a b => a < b) ?_ List.pairwise_lt_range
  intro i j hi hj hij
  rw [eS_key b i (by have := List.mem_range.1 hi; omega), eS_key b j (by have := List.mem_range.1 hj; omega)]
  omega

/-- What the law asks of Swap's operations, and of what they leave. -/
structure SwK (xs : List El) (p b : By) (os : List OpE) : Prop where
  ok : RunOk xs 64 3 os
  text : tB (runX xs os) = (sc (tB xs) p b (tB xs).length 0).2
  rise : (oldK (runX xs os)).Pairwise (· < ·)
  cnt : (oldK (runX xs os)).length + (apP (tB xs) p).length * p.length = xs.length
  elems : ∀ x ∈ runX xs os, 1 ≤ x.2.1 ∧ x.2.1 ≤ 64 ∧ 1 ≤ x.2.2 ∧ x.2.2 ≤ 64
theorem swK (s : By) (N : Nat) (p b : By) (hN : N ≤ 1000) (hp : 1 ≤ p.length) (hb : ∀ c ∈ b, 32 ≤ c.toNat ∧ c.toNat ≤ 126) (hc : (apP (tB (elS s N)) p).length * (p.length + b.length) ≤ 62) :
    SwK (elS s N) p b (swS 64 3 (apP (tB (elS s N)) p) p.length b (apP (tB (elS s N)) p).length) := by
  obtain ⟨xs, hxs⟩ : ∃ xs, elS s N = xs := ⟨_, rfl⟩
  have hok := elS_ok s N hN
  have hk := elS_keys s N hN
  have hln := elS_len s N
  rw [hxs] at hok hk hln hc ⊢
  have hTl : (tB xs).length = xs.length := by simp [tB]
  obtain ⟨l, hl⟩ : ∃ l, apP (tB xs) p = l := ⟨_, rfl⟩
  have hsc : (sc (tB xs) p b xs.length 0).1 = l := by rw [← hTl, sc_apP hp, hl]
  rw [hl] at hc ⊢
  have hlb : l.length * b.length ≤ 62 := Nat.le_trans (Nat.mul_le_mul_left _ (Nat.le_add_left _ _)) hc
  have hst : ∀ a, stB (tB xs) p a = true → a + p.length ≤ xs.length := fun a ha => by have := st_le hp a ha; omega
  have hold : ∀ x ∈ xs, oldE 64 x = true := fun x hx => by
    have := hok x hx
    unfold oldE
    simp
    omega
  obtain ⟨pre, i, f, h1, h2, h3, h4, h5, h6, h7, h8⟩ := swX (xs := xs) (cl := 64) (fs := 3) p b hp l hsc hst hold (by omega) (by omega) hb (by omega) (by omega) l.length (Nat.le_refl _)
  obtain ⟨os, hos⟩ : ∃ os, swS 64 3 l p.length b l.length = os := ⟨_, rfl⟩
  have hlen := swS_len 64 3 l p.length b l.length
  rw [hos] at h1 h6 hlen ⊢
  have hfil : (runX xs os).filter (oldE 64) = pre.filter (oldE 64) ++ xs.drop i := by
    rw [h1, List.filter_append]
    congr 1
    rw [List.filter_eq_self]
    exact fun x hx => hold x (List.mem_of_mem_drop hx)
  have hsub : ((runX xs os).filter (oldE 64)).Sublist xs := by
    rw [hfil]
    have := h7.append (List.Sublist.refl (xs.drop i))
    rwa [List.take_append_drop] at this
  have hOld : oldK (runX xs os) = ((runX xs os).filter (oldE 64)).map keyE := rfl
  refine ⟨h6, ?_, ?_, ?_, ?_⟩
  · rw [tB_run, ← hos, ← hl]
    exact run_swapped (tB xs) p b 64 3 hp
  · rw [hOld, List.pairwise_map]
    exact hk.sublist hsub
  · rw [hOld, List.length_map, hfil, List.length_append, List.length_drop, hl]
    omega
  · intro x hx
    rcases runX_mem os xs x hx with hx | ⟨o, ho, rfl⟩
    · have := hok x hx
      omega
    · obtain ⟨j, hj, rfl⟩ := List.mem_iff_getElem.1 ho
      obtain ⟨-, e1, e2, -⟩ := h6 j hj
      simp only [e1, e2]
      omega
theorem swE_many (T p b : By) (h : 62 < (apP T p).length * (p.length + b.length)) : swE T p b 64 3 = 222 := by
  unfold swE cntP
  rw [if_pos]
  exact .inr (.inr (.inr (by omega)))
theorem swE_few (T p b : By) (hT : T.length ≤ 1000) (h : (apP T p).length * (p.length + b.length) ≤ 62) : swE T p b 64 3 = 0 := by
  unfold swE cntP
  have h2 : (apP T p).length * b.length ≤ 62 := Nat.le_trans (Nat.mul_le_mul_left _ (Nat.le_add_left _ _)) h
  rw [if_neg (by omega), if_neg]
  rintro ⟨-, h3 | h3⟩
  · omega
  · rw [Int.mul_sub, ← Int.natCast_mul, ← Int.natCast_mul] at h3
    omega
end Go.Proofs.Ytlmgogonghafeaa
