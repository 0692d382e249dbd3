/-
  At, walked.
-/
import Derived.Test.YtkkklfnooeofcabHa
namespace Go.Proofs.Ytkkklfnooeofcab
open Go.RowKit Go.Maps Go.ChangeMaps Go.MapKept Go.WideMaps
set_option linter.unusedVariables false

/-- An open note that covers a place. -/
def cov (xs : List El) (pos : Int) (n : Nt) : Bool := !n.sh && (decide (((reachP xs n.el).1 : Int) ≤ pos) && decide (pos < ((reachP xs n.el).2 : Int)))

structure AtS (w u : World) (O : Nat → Prop) (r b g mb it : Nat) (ps : List NB) (xs : List El) (pos : Int) (D : DataW Value) (left : Lit → Bool) (cnt : Nat) (β : Option Nat) (v : Value) (A : List Int) : Prop where
  rg : u.ranges Try.prog 3 RV b it ps.length D left cnt
  row : SF ic 1 u 3 β v A
  new : ∀ k, β = some k → w.heap.size ≤ k ∧ k ≠ it
  seen : ∀ p ∈ ps, cov xs pos p.n = true → ((p.n.id : Int) ∈ A ↔ left (idL p.n.id) = false)
  sub : ∀ z ∈ A, ∃ p ∈ ps, cov xs pos p.n = true ∧ z = (p.n.id : Int)
  nd : A.Nodup
  len : A.length + cnt ≤ ps.length
  bk : BK u O r b g ps
  sm : SM u mb xs
  low : Below w.heap.size w u
  its : w.heap.size ≤ it

structure AtM (w u : World) (O : Nat → Prop) (r b g mb it : Nat) (ps : List NB) (xs : List El) (pos : Int) (D : DataW Value) (left : Lit → Bool) (cnt : Nat) (β : Option Nat) (v : Value) (A : List Int) (p : NB) : Prop where
  rg : u.ranges Try.prog 3 RV b it ps.length D left cnt
  row : SF ic 1 u 3 β v A
  new : ∀ k, β = some k → w.heap.size ≤ k ∧ k ≠ it
  mem : p ∈ ps
  seen : ∀ q ∈ ps, cov xs pos q.n = true → (((q.n.id : Int) ∈ A ∨ q.n.id = p.n.id) ↔ left (idL q.n.id) = false)
  sub : ∀ z ∈ A, ∃ p ∈ ps, cov xs pos p.n = true ∧ z = (p.n.id : Int)
  nd : A.Nodup
  fresh : cov xs pos p.n = true → (p.n.id : Int) ∉ A
  len : A.length + 1 + cnt ≤ ps.length
  bk : BK u O r b g ps
  sm : SM u mb xs
  low : Below w.heap.size w u
  its : w.heap.size ≤ it

section
variable {w u : World} {O : Nat → Prop} {r b g mb it : Nat} {ps : List NB} {xs : List El} {pos : Int} {D : DataW Value} {left : Lit → Bool} {cnt : Nat} {β : Option Nat} {v : Value} {A : List Int} {p : NB}
theorem AtS.more (h : AtS w u O r b g mb it ps xs pos D left cnt β v A) (hD : MD D ps) (hO : ∀ k, O k → k < w.heap.size) (hmb : mb ≠ it) {key v0 : Value} {kl : Lit} {w1 : World} {cnt1 : Nat} (hk : keyOf Try.prog 3 key = some kl) (hl : left kl = true) (hat : ∀ zd, D.atKey kl zd = .held v0) (hr : w1.ranges Try.prog 3 RV b it ps.length D (fun z => left z && !z.sameKey kl) cnt1) (hlt : cnt1 < cnt) (hg : u.grownBy w1 (some it)) :
    ∃ p, key = .int .i64 (p.n.id : Int) ∧ v0 = .pointer (some ⟨p.x, 0, none⟩) ∧ AtM w w1 O r b g mb it ps xs pos D (fun z => left z && !z.sameKey kl) cnt1 β v A p := by
  obtain ⟨p, hp, rfl, rfl, rfl⟩ := hD.hit hk hat
  have hF : Fr (· = it) u w1 := fr_grown hg
  refine ⟨p, rfl, rfl, hr, h.row.fr hF (fun k hk e => (h.new k hk).2 e), h.new, hp, fun q hq hc => ?_, h.sub, h.nd, fun hc hm => ?_, by have := h.len; omega, h.bk.fr hF (fun k hk e => by have := hO k hk; have := h.its; omega), h.sm.fr hF hmb, h.low.trans (hF.below h.low.size (fun k hk => by have := h.its; omega)), h.its⟩
  · obtain ⟨e1, e2⟩ := left_at left (q := q) (hD.1 p hp)
    rw [h.seen q hq hc]
    by_cases e : q.n.id = p.n.id
    · rw [e1 e]; simp [e]
    · rw [e2 e]; simp [e]
  · rw [(h.seen p hp hc).1 hm] at hl
    cases hl
theorem AtM.below {u' : World} (h : AtM w u O r b g mb it ps xs pos D left cnt β v A p) (hb : Below u.heap.size u u') : AtM w u' O r b g mb it ps xs pos D left cnt β v A p := by
  have hF : Fr (fun _ => False) u u' := Fr.of_below hb
  exact ⟨ranges_fr h.rg hF (fun h => h) (fun h => h), h.row.fr hF (fun _ _ h => h), h.new, h.mem, h.seen, h.sub, h.nd, h.fresh, h.len, h.bk.below hb, h.sm.below hb, h.low.trans (hb.mono h.low.size), h.its⟩
theorem AtM.skip (h : AtM w u O r b g mb it ps xs pos D left cnt β v A p) (hc : cov xs pos p.n = false) : AtS w u O r b g mb it ps xs pos D left cnt β v A := by
  refine ⟨h.rg, h.row, h.new, fun q hq hq' => ?_, h.sub, h.nd, by have := h.len; omega, h.bk, h.sm, h.low, h.its⟩
  rw [← h.seen q hq hq']
  constructor
  · exact .inl
  · rintro (hm | hm)
    · exact hm
    · rw [ids_eq h.bk.ids hq h.mem hm, hc] at hq'
      cases hq'
theorem Try.infoI : (Try.prog.info? 3).map (fun i => (i.zero, i.size, i.bytes)) = some (some (.int .i64 0), 1, 8) := by kernel_rfl
theorem AtM.push (h : AtM w u O r b g mb it ps xs pos D left cnt β v A p) (hc : cov xs pos p.n = true) (hps : ps.length ≤ 256) (hO : ∀ k, O k → k < w.heap.size) :
    ∃ v' w' β', (∀ ty, (Builtin.append_ #[59, 59] ty #[v, .slice (some ⟨u.heap.size, 0, none⟩) 1 1]).run Try.prog (u.alloc (.cells #[.int .i64 (p.n.id : Int)] 3)) = .ok v' w') ∧ AtS w w' O r b g mb it ps xs pos D left cnt β' v' (A ++ [(p.n.id : Int)]) := by
  obtain ⟨i0, hi0, hz0, hz1, hz2⟩ := info_parts Try.infoI
  have hb : Below u.heap.size u (u.alloc (.cells #[.int .i64 (p.n.id : Int)] 3)) := (Below.refl _ _).alloc (Nat.le_refl _) _
  have h' := h.below hb
  have hz := heap_alloc_new u (.cells #[.int .i64 (p.n.id : Int)] 3)
  have hl := h.len
  obtain ⟨v', w', hr, g', h1, h2⟩ := run_pushF sz_ic (P := Try.prog) (u.alloc (.cells #[.int .i64 (p.n.id : Int)] 3)) 59 0 3 i0 _ 8 Try.underlying59 hi0 hz0 hz1 rfl hz2 β v A h'.row ⟨u.heap.size, 0, none⟩ 1 1 [(p.n.id : Int)] rfl (fun j x hj => by
    rw [add_lit, Nat.zero_add, cell_row hz]
    simp only [cl_one] at hj
    simpa [ic] using hj) (by omega) (by omega) (by omega)
  have hlow := h'.low
  have hg' : w.heap.size ≤ g' ∧ g' ≠ it := by
    rcases h2 with ⟨e, -⟩ | ⟨e, -⟩
    · exact h.new g' e
    · obtain ⟨es, clock, since, seen, c0, q1, q2, q3, q4, q5, q6⟩ := h'.rg
      have := block_lt q5
      exact ⟨by rw [e]; exact hlow.size, by omega⟩
  have hF : Fr (· = g') (u.alloc (.cells #[.int .i64 (p.n.id : Int)] 3)) w' := by
    rcases h2 with ⟨-, hf⟩ | ⟨-, hf⟩
    · exact hf
    · exact hf.mono (fun _ _ h => h.elim)
  have hbk : ∀ k, O k → ¬ (k = g') := fun k hk e => by have := hO k hk; omega
  have hmb : ¬ mb = g' := by
    intro e
    obtain ⟨es, clock, hm⟩ := h'.sm.map
    rcases h2 with ⟨e1, -⟩ | ⟨e1, -⟩
    · have hrow := h'.row
      rw [e1] at hrow
      obtain ⟨cur, hcur⟩ := hrow.blk
      exact map_ne hcur hm ⟨es, clock, rfl⟩ e.symm
    · have := block_lt hm
      omega
  refine ⟨v', w', some g', fun ty => hr, ranges_fr h'.rg hF (hbk b h'.bk.ob) (fun e => hg'.2 e.symm), h1, fun k hk => by cases hk; exact hg', fun q hq hq' => ?_, fun z hz' => ?_, ?_, by simp; omega, h'.bk.fr hF hbk, h'.sm.fr hF hmb, hlow.trans (hF.below hlow.size (fun k hk => by omega)), h.its⟩
  · rw [← h.seen q hq hq']
    simp only [List.mem_append, List.mem_singleton]
    constructor
    · rintro (hm | hm)
      · exact .inl hm
      · exact .inr (by omega)
    · rintro (hm | hm)
      · exact .inl hm
      · exact .inr (by rw [hm])
  · rcases List.mem_append.1 hz' with hm | hm
    · exact h.sub z hm
    · exact ⟨p, h.mem, hc, List.mem_singleton.1 hm⟩
  · rw [List.nodup_append]
    refine ⟨h.nd, by simp, fun a ha b hb e => ?_⟩
    simp at hb
    subst hb
    rw [e] at ha
    exact h.fresh hc ha
end

theorem riseI_ext : ∀ (l m : List Int), l.Pairwise (· < ·) → m.Pairwise (· < ·) → (∀ x, x ∈ l ↔ x ∈ m) → l = m
  | [], [], _, _, _ => rfl
  | [], y :: m, _, _, h => by have := (h y).2 (by simp); simp at this
  | x :: l, [], _, _, h => by have := (h x).1 (by simp); simp at this
  | x :: l, y :: m, hl, hm, h => by
    have hl' := List.pairwise_cons.1 hl
    have hm' := List.pairwise_cons.1 hm
    have exy : x = y := by
      rcases List.mem_cons.1 ((h x).1 (by simp)) with e | e
      · exact e
      · rcases List.mem_cons.1 ((h y).2 (by simp)) with e' | e'
        · exact e'.symm
        · have := hl'.1 y e'; have := hm'.1 x e; omega
    subst exy
    congr 1
    refine riseI_ext l m hl'.2 hm'.2 (fun z => ⟨fun hz => ?_, fun hz => ?_⟩)
    · rcases List.mem_cons.1 ((h z).1 (by simp [hz])) with e | e
      · subst e; have := hl'.1 z hz; omega
      · exact e
    · rcases List.mem_cons.1 ((h z).2 (by simp [hz])) with e | e
      · subst e; have := hm'.1 z hz; omega
      · exact e

/-- The numbers that At tells. -/
def atP (xs : List El) (pos : Int) (Ns : List Nt) : List Int := (Ns.filter (cov xs pos)).map (fun n => (n.id : Int))
theorem at_list {w u : World} {O : Nat → Prop} {r b g mb it : Nat} {ps : List NB} {xs : List El} {pos : Int} {D : DataW Value} {left : Lit → Bool} {cnt : Nat} {β : Option Nat} {v : Value} {A : List Int} (h : AtS w u O r b g mb it ps xs pos D left cnt β v A) (hl : ∀ kl, left kl = false) :
    (A.mergeSort fun x y => decide (x ≤ y)) = atP xs pos (ps.map NB.n) := by
  have hp : (A.mergeSort fun x y => decide (x ≤ y)).Perm A := List.mergeSort_perm _ _
  refine riseI_ext _ _ ?_ ?_ (fun z => ?_)
  · have h1 : (A.mergeSort fun x y => decide (x ≤ y)).Pairwise (fun x y => decide (x ≤ y) = true) := List.pairwise_mergeSort (fun a b c h1 h2 => by simp at h1 h2 ⊢; omega) (fun a b => by simp; omega) A
    have h2 : (A.mergeSort fun x y => decide (x ≤ y)).Pairwise (· ≠ ·) := (hp.nodup_iff).2 h.nd
    refine List.Pairwise.imp ?_ (List.pairwise_and_iff.2 ⟨h1, h2⟩)
    rintro a b ⟨h3, h4⟩
    simp at h3
    omega
  · unfold atP
    rw [List.pairwise_map]
    have : (ps.map NB.n).Pairwise (fun p q => p.id < q.id) := List.pairwise_map.2 h.bk.ids
    refine List.Pairwise.imp ?_ (this.sublist List.filter_sublist)
    intro a b h3
    omega
  · rw [hp.mem_iff]
    unfold atP
    rw [List.mem_map]
    constructor
    · intro hz
      obtain ⟨p, hpp, hc, e⟩ := h.sub z hz
      exact ⟨p.n, List.mem_filter.2 ⟨List.mem_map.2 ⟨p, hpp, rfl⟩, hc⟩, e.symm⟩
    · rintro ⟨n, hn, e⟩
      obtain ⟨hn1, hn2⟩ := List.mem_filter.1 hn
      obtain ⟨p, hpp, rfl⟩ := List.mem_map.1 hn1
      rw [← e]
      exact (h.seen p hpp hn2).2 (hl _)

end Go.Proofs.Ytkkklfnooeofcab
