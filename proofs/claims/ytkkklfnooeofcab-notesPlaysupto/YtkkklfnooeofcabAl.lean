/-
  A board gone through by a range over its map: All.
-/
import Derived.Test.YtkkklfnooeofcabSy
namespace Go.Proofs.Ytkkklfnooeofcab
open Go.RowKit Go.Maps Go.ChangeMaps Go.MapKept Go.WideMaps
set_option linter.unusedVariables false

theorem wpList_next_held (w : World) {ops : Array Oper} {rest : List Oper} {o : Oper} {a : Act} {Q : Exit → Act → World → Prop} (hg : o.guard = none) (it : Operand) (hop : o.op = Op.next it false) (b r n : Nat) (D : DataW Value) (left : Lit → Bool) (cnt : Nat)
    (hit : a.eval it = .pointer (some ⟨r, 0, none⟩)) (h : w.ranges Try.prog 3 RV b r n D left cnt)
    (hDone : cnt = 0 → (∀ kl, left kl = false) → wpList Try.prog ops Q rest (a.put o.dst (.tuple #[.bool false])) w)
    (hMore : ∀ (key v : Value) (kl : Lit) (w' : World) (cnt' : Nat), keyOf Try.prog 3 key = some kl → left kl = true → (∀ zd, D.atKey kl zd = .held v) → w'.ranges Try.prog 3 RV b r n D (fun z => left z && !z.sameKey kl) cnt' → cnt' < cnt →
      w.grownBy w' (some r) → w'.heap.size = w.heap.size → (Instr.entry (.pointer (some ⟨r, 0, none⟩))).run Try.prog w' = .ok (.tuple #[key, v]) w' → wpList Try.prog ops Q rest (a.put o.dst (.tuple #[.bool true, key, v])) w') :
    wpList Try.prog ops Q (o :: rest) a w :=
  wpList_next_ranges w hg it hop 3 law RV (fun v : Value => v) (fun v : Value => v) (fun key kl _ => ⟨key, rfl⟩) (fun v y _ => ⟨v, rfl⟩) b r n D left cnt hit h hDone (fun x c kl y w' cnt' hkey hlk hv hat hrg hlt hgr hsz hen => by
    have hy : y.1 = .held c := by
      have h' : (DataW.held c, ([] : List MemPlace)) = y := Option.some.inj (show some (DataW.held c, ([] : List MemPlace)) = some y from hv)
      rw [← h']
    exact hMore x c kl w' cnt' hkey hlk (fun zd => by rw [hat zd, hy]) hrg hlt hgr hsz hen)

theorem ranges_fr {S : Nat → Prop} {w w' : World} {b r n : Nat} {D : DataW Value} {left : Lit → Bool} {cnt : Nat} (h : w.ranges Try.prog 3 RV b r n D left cnt) (hF : Fr S w w') (hb : ¬ S b) (hr : ¬ S r) : w'.ranges Try.prog 3 RV b r n D left cnt := by
  obtain ⟨es, clock, since, seen, c0, h1, h2, h3, h4, h5, h6⟩ := h
  exact ⟨es, clock, since, seen, c0, hF.keeps h1 hb, h2, h3, h4, hF.keeps h5 hr, h6⟩

def idL (k : Nat) : Lit := .int .i64 (k : Int)
theorem same_idL {a b : Nat} (hb : b ≤ 9223372036854775807) : (idL a).sameKey (idL b) = true ↔ a = b := by
  constructor
  · intro h
    have := WideAt.sameKey_eq h
    unfold idL at this
    injection this with e1 e2
    omega
  · rintro rfl
    exact WideAt.sameKey_self (law.key (key_nat a hb))

/-- What the map holds, told apart from its memory. -/
def MD (D : DataW Value) (ps : List NB) : Prop := (∀ p ∈ ps, p.n.id ≤ 9223372036854775807) ∧ (∀ p ∈ ps, ∀ z, D.atKey (idL p.n.id) z = .held (.pointer (some ⟨p.x, 0, none⟩))) ∧ (∀ k : Int, (∀ p ∈ ps, (p.n.id : Int) ≠ k) → Maps.has D (.int .i64 k) = false)
theorem MD.hit {D : DataW Value} {ps : List NB} (h : MD D ps) {key v : Value} {kl : Lit} (hk : keyOf Try.prog 3 key = some kl) (hat : ∀ zd, D.atKey kl zd = .held v) : ∃ p ∈ ps, key = .int .i64 (p.n.id : Int) ∧ v = .pointer (some ⟨p.x, 0, none⟩) ∧ kl = idL p.n.id := by
  obtain ⟨h1, h2, h3⟩ := h
  obtain ⟨y, rfl, rfl, -⟩ := Maps.keyOf_int_inv Try.underlying3 hk
  have hh := Maps.has_true_of_atKey hat
  have : ∃ p ∈ ps, (p.n.id : Int) = y := by
    refine Classical.byContradiction fun hn => ?_
    rw [h3 y (fun p hp e => hn ⟨p, hp, e⟩)] at hh
    cases hh
  obtain ⟨p, hp, rfl⟩ := this
  have e := (hat .nil).symm.trans (h2 p hp .nil)
  injection e with e
  exact ⟨p, hp, rfl, e, rfl⟩
theorem MP.md {w : World} {b : Nat} {ps : List NB} (h : MP w b (ps.map keyN)) : ∃ D : DataW Value, w.ownsMap Try.prog 3 RV b ps.length D ∧ Maps.size D = ps.length ∧ MD D ps := by
  obtain ⟨D, h1, h2, h3, h4, h5⟩ := h
  rw [List.length_map] at h1 h2
  refine ⟨D, h1, h2, fun p hp => h3 (keyN p) (List.mem_map.2 ⟨p, hp, rfl⟩), fun p hp z => h4 (keyN p) (List.mem_map.2 ⟨p, hp, rfl⟩) z, fun k hk => h5 k (fun q hq => ?_)⟩
  obtain ⟨p, hp, rfl⟩ := List.mem_map.1 hq
  exact hk p hp
theorem below_grown {w w' : World} (h : w.grownBy w' none) : Below w.heap.size w w' := ⟨h.os, h.tape, h.output, h.size, fun k hk => h.block k hk (by simp)⟩

theorem rise_ext : ∀ (l m : List Nt), l.Pairwise (fun a b => a.id < b.id) → m.Pairwise (fun a b => a.id < b.id) → (∀ x, x ∈ l ↔ x ∈ m) → l = m
  | [], [], _, _, _ => rfl
  | [], y :: m, _, _, h => by have := (h y).2 (by simp); simp at this
  | x :: l, [], _, _, h => by have := (h x).1 (by simp); simp at this
  | x :: l, y :: m, hl, hm, h => by
    have hl' := List.pairwise_cons.1 hl
    have hm' := List.pairwise_cons.1 hm
    have exy : x = y := by
      rcases List.mem_cons.1 ((h x).1 (by simp)) with e | e
      · exact e
      · rcases List.mem_cons.1 ((h y).2 (by simp)) with e' | e'
        · exact e'.symm
        · have := hl'.1 y e'; have := hm'.1 x e; omega
    subst exy
    congr 1
    refine rise_ext l m hl'.2 hm'.2 (fun z => ⟨fun hz => ?_, fun hz => ?_⟩)
    · rcases List.mem_cons.1 ((h z).1 (by simp [hz])) with e | e
      · subst e; have := hl'.1 z hz; omega
      · exact e
    · rcases List.mem_cons.1 ((h z).2 (by simp [hz])) with e | e
      · subst e; have := hm'.1 z hz; omega
      · exact e

/-- A told note's list of answers. -/
def TNok (w0 u : World) (xs : List El) (t : TN) : Prop := t.s = reachP xs t.n.el ∧ ∃ γ, SF rpc 2 u 90 γ (.slice t.a t.l t.c) t.n.sd ∧ ∀ k, γ = some k → w0.heap.size ≤ k
theorem TNok.fr {w0 u u' : World} {xs : List El} {t : TN} {S : Nat → Prop} (h : TNok w0 u xs t) (hF : Fr S u u') (hS : ∀ k cs, S k → u.heap[k]? ≠ some (.cells cs 90 (0, 0))) : TNok w0 u' xs t := by
  obtain ⟨h1, γ, h2, h3⟩ := h
  refine ⟨h1, γ, h2.fr hF (fun k hk hs => ?_), h3⟩
  rw [hk] at h2
  obtain ⟨cur, hc⟩ := h2.blk
  exact hS k cur hs hc

/-- What All answers. -/
def AllP (w0 u : World) (v : Value) (Ns : List Nt) (xs : List El) : Prop :=
  ∃ L β, SF tnc 8 u 47 β v L ∧ (∀ k, β = some k → w0.heap.size ≤ k) ∧ L.map TN.n = Ns ∧ ∀ t ∈ L, TNok w0 u xs t

/-- While the board is gone through: the notes A are told. -/
structure AlS (w u : World) (O : Nat → Prop) (r b g mb it : Nat) (ps : List NB) (xs : List El) (D : DataW Value) (left : Lit → Bool) (cnt : Nat) (β : Option Nat) (v : Value) (A : List TN) : Prop where
  rg : u.ranges Try.prog 3 RV b it ps.length D left cnt
  row : SF tnc 8 u 47 β v A
  new : ∀ k, β = some k → w.heap.size ≤ k ∧ k ≠ it
  ok : ∀ t ∈ A, TNok w u xs t
  seen : ∀ p ∈ ps, p.n ∈ A.map TN.n ↔ left (idL p.n.id) = false
  sub : ∀ n ∈ A.map TN.n, n ∈ ps.map NB.n
  nd : (A.map TN.n).Nodup
  len : A.length + cnt ≤ ps.length
  bk : BK u O r b g ps
  sm : SM u mb xs
  low : Below w.heap.size w u
  its : w.heap.size ≤ it

/-- The note p has come up. -/
structure AlM (w u : World) (O : Nat → Prop) (r b g mb it : Nat) (ps : List NB) (xs : List El) (D : DataW Value) (left : Lit → Bool) (cnt : Nat) (β : Option Nat) (v : Value) (A : List TN) (p : NB) : Prop where
  rg : u.ranges Try.prog 3 RV b it ps.length D left cnt
  row : SF tnc 8 u 47 β v A
  new : ∀ k, β = some k → w.heap.size ≤ k ∧ k ≠ it
  ok : ∀ t ∈ A, TNok w u xs t
  mem : p ∈ ps
  seen : ∀ q ∈ ps, (q.n ∈ A.map TN.n ∨ q.n.id = p.n.id) ↔ left (idL q.n.id) = false
  sub : ∀ n ∈ A.map TN.n, n ∈ ps.map NB.n
  nd : (A.map TN.n).Nodup
  fresh : p.n ∉ A.map TN.n
  len : A.length + 1 + cnt ≤ ps.length
  bk : BK u O r b g ps
  sm : SM u mb xs
  low : Below w.heap.size w u
  its : w.heap.size ≤ it

section
variable {w u : World} {O : Nat → Prop} {r b g mb it : Nat} {ps : List NB} {xs : List El} {D : DataW Value} {left : Lit → Bool} {cnt : Nat} {β : Option Nat} {v : Value} {A : List TN} {p : NB}
theorem it_ne (h : u.ranges Try.prog 3 RV b it ps.length D left cnt) {cs : Array Value} {t : TypeId} {f : Nat × Nat} {k : Nat} (hk : u.heap[k]? = some (.cells cs t f)) : k ≠ it := by
  obtain ⟨es, clock, since, seen, c0, h1, h2, h3, h4, h5, h6⟩ := h
  rintro rfl
  rw [hk] at h5
  cases h5
theorem AlS.more (h : AlS w u O r b g mb it ps xs D left cnt β v A) (hD : MD D ps) (hO : ∀ k, O k → k < w.heap.size) (hmb : mb ≠ it) {key v0 : Value} {kl : Lit} {w1 : World} {cnt1 : Nat} (hk : keyOf Try.prog 3 key = some kl) (hl : left kl = true) (hat : ∀ zd, D.atKey kl zd = .held v0) (hr : w1.ranges Try.prog 3 RV b it ps.length D (fun z => left z && !z.sameKey kl) cnt1) (hlt : cnt1 < cnt) (hg : u.grownBy w1 (some it)) :
    ∃ p, key = .int .i64 (p.n.id : Int) ∧ v0 = .pointer (some ⟨p.x, 0, none⟩) ∧ AlM w w1 O r b g mb it ps xs D (fun z => left z && !z.sameKey kl) cnt1 β v A p := by
  obtain ⟨p, hp, rfl, rfl, rfl⟩ := hD.hit hk hat
  have hF : Fr (· = it) u w1 := fr_grown hg
  refine ⟨p, rfl, rfl, hr, h.row.fr hF (fun k hk e => (h.new k hk).2 e), h.new, fun t ht => (h.ok t ht).fr hF (fun k cs e hc => it_ne h.rg hc e), hp, fun q hq => ?_, h.sub, h.nd, fun hm => ?_, by have := h.len; omega, h.bk.fr hF (fun k hk e => by have := hO k hk; have := h.its; omega), h.sm.fr hF hmb, h.low.trans (hF.below h.low.size (fun k hk => by have := h.its; omega)), h.its⟩
  · have e := same_idL (a := q.n.id) (hD.1 p hp)
    rw [h.seen q hq]
    cases hs : (idL q.n.id).sameKey (idL p.n.id) with
    | true => simp [e.1 hs]
    | false =>
      have hne : ¬ q.n.id = p.n.id := fun e1 => by rw [e.2 e1] at hs; cases hs
      simp [hne]
  · rw [(h.seen p hp).1 hm] at hl
    cases hl
theorem AlM.below {u' : World} (h : AlM w u O r b g mb it ps xs D left cnt β v A p) (hb : Below u.heap.size u u') : AlM w u' O r b g mb it ps xs D left cnt β v A p := by
  have hF : Fr (fun _ => False) u u' := Fr.of_below hb
  exact ⟨ranges_fr h.rg hF (fun h => h) (fun h => h), h.row.fr hF (fun _ _ h => h), h.new, fun t ht => (h.ok t ht).fr hF (fun _ _ h => h.elim), h.mem, h.seen, h.sub, h.nd, h.fresh, h.len, h.bk.below hb, h.sm.below hb, h.low.trans (hb.mono h.low.size), h.its⟩
theorem ids_eq {ps : List NB} (h : ps.Pairwise (fun p q => p.n.id < q.n.id)) {q p : NB} (hq : q ∈ ps) (hp : p ∈ ps) (e : q.n.id = p.n.id) : q.n = p.n := by
  obtain ⟨i, hi⟩ := List.getElem?_of_mem hq
  obtain ⟨j, hj⟩ := List.getElem?_of_mem hp
  obtain ⟨hi1, hi2⟩ := List.getElem?_eq_some_iff.1 hi
  obtain ⟨hj1, hj2⟩ := List.getElem?_eq_some_iff.1 hj
  rw [List.pairwise_iff_getElem] at h
  rcases Nat.lt_trichotomy i j with h1 | h1 | h1
  · have := h i j hi1 hj1 h1; rw [hi2, hj2] at this; omega
  · subst h1; rw [← hi2, ← hj2]
  · have := h j i hj1 hi1 h1; rw [hi2, hj2] at this; omega
theorem AlM.push (h : AlM w u O r b g mb it ps xs D left cnt β v A p) (t : TN) (ht : t.n = p.n) (hok : TNok w u xs t) (hps : ps.length ≤ 256) (hO : ∀ k, O k → k < w.heap.size) :
    ∃ v' w' β', (∀ ty, (Builtin.append_ #[65, 65] ty #[v, .slice (some ⟨u.heap.size, 0, none⟩) 1 1]).run Try.prog (u.alloc (.cells (tnc t).toArray 47)) = .ok v' w') ∧ AlS w w' O r b g mb it ps xs D left cnt β' v' (A ++ [t]) := by
  obtain ⟨i0, hi0, hz0, hz1, hz2⟩ := info_parts Try.infoN
  have hb : Below u.heap.size u (u.alloc (.cells (tnc t).toArray 47)) := (Below.refl _ _).alloc (Nat.le_refl _) _
  have h' := h.below hb
  have hz := heap_alloc_new u (.cells (tnc t).toArray 47)
  have hok' : TNok w (u.alloc (.cells (tnc t).toArray 47)) xs t := hok.fr (S := fun _ => False) (Fr.of_below hb) (fun _ _ h => h.elim)
  have hl := h.len
  obtain ⟨v', w', hr, g', h1, h2⟩ := run_pushF sz_tnc (P := Try.prog) (u.alloc (.cells (tnc t).toArray 47)) 65 0 47 i0 _ 80 Try.underlying65 hi0 hz0 hz1 rfl hz2 β v A h'.row ⟨u.heap.size, 0, none⟩ 1 1 [t] rfl (fun j x hj => by
    rw [add_lit, Nat.zero_add, cell_row hz]
    simp only [cl_one] at hj
    simpa using hj) (by omega) (by omega) (by omega)
  have hlow := h'.low
  have hg' : w.heap.size ≤ g' ∧ g' ≠ it := by
    rcases h2 with ⟨e, -⟩ | ⟨e, -⟩
    · exact h.new g' e
    · obtain ⟨es, clock, since, seen, c0, q1, q2, q3, q4, q5, q6⟩ := h'.rg
      have := block_lt q5
      exact ⟨by rw [e]; exact hlow.size, by omega⟩
  have hF : Fr (· = g') (u.alloc (.cells (tnc t).toArray 47)) w' := by
    rcases h2 with ⟨-, hf⟩ | ⟨-, hf⟩
    · exact hf
    · exact hf.mono (fun _ _ h => h.elim)
  have hty : ∀ k cs t', k = g' → (u.alloc (.cells (tnc t).toArray 47)).heap[k]? = some (.cells cs t' (0, 0)) → t' = 47 := by
    rintro k cs t' rfl hc
    rcases h2 with ⟨e, -⟩ | ⟨e, -⟩
    · have hrow := h'.row
      rw [e] at hrow
      obtain ⟨cur, hcur⟩ := hrow.blk
      rw [hcur] at hc
      cases hc
      rfl
    · have := block_lt hc
      omega
  have hbk : ∀ k, O k → ¬ (k = g') := fun k hk e => by have := hO k hk; omega
  have hmb : ¬ mb = g' := by
    intro e
    obtain ⟨es, clock, hm⟩ := h'.sm.map
    rcases h2 with ⟨e1, -⟩ | ⟨e1, -⟩
    · have hrow := h'.row
      rw [e1] at hrow
      obtain ⟨cur, hcur⟩ := hrow.blk
      exact map_ne hcur hm ⟨es, clock, rfl⟩ e.symm
    · have := block_lt hm
      omega
  refine ⟨v', w', some g', fun ty => hr, ranges_fr h'.rg hF (hbk b h'.bk.ob) (fun e => hg'.2 e.symm), h1, fun k hk => by cases hk; exact hg', fun t' ht' => ?_, fun q hq => ?_, fun n hn => ?_, ?_, by simp; omega, h'.bk.fr hF hbk, h'.sm.fr hF hmb, hlow.trans (hF.below hlow.size (fun k hk => by omega)), h.its⟩
  · have hk : TNok w (u.alloc (.cells (tnc t).toArray 47)) xs t' := by
      rcases List.mem_append.1 ht' with hm | hm
      · exact h'.ok t' hm
      · rw [List.mem_singleton.1 hm]; exact hok'
    exact hk.fr hF (fun k cs e hc => absurd (hty k cs _ e hc) (by decide))
  · rw [← h.seen q hq]
    simp only [List.map_append, List.mem_append, List.map_cons, List.map_nil, List.mem_singleton]
    constructor
    · rintro (hm | hm)
      · exact .inl hm
      · exact .inr (by rw [hm, ht])
    · rintro (hm | hm)
      · exact .inl hm
      · exact .inr (by rw [ht]; exact ids_eq h.bk.ids hq h.mem hm)
  · simp only [List.map_append, List.mem_append, List.map_cons, List.map_nil, List.mem_singleton] at hn
    rcases hn with hm | hm
    · exact h.sub n hm
    · rw [hm, ht]; exact List.mem_map.2 ⟨p, h.mem, rfl⟩
  · rw [List.map_append, List.nodup_append]
    refine ⟨h.nd, by simp, fun a ha b hb e => ?_⟩
    simp at hb
    subst hb
    rw [ht] at e
    exact h.fresh (e ▸ ha)
end

end Go.Proofs.Ytkkklfnooeofcab
