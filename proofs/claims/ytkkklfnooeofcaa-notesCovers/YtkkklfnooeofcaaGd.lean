/-
  NotesSweeps: its states.
-/
import Derived.Test.YtkkklfnooeofcaaGc
namespace Go.Proofs.Ytkkklfnooeofcaa
open Go.RowKit Go.Maps Go.ChangeMaps Go.MapKept Go.WideMaps
set_option linter.unusedVariables false

/-- A board, and a text somewhere. -/
structure NuE (w u : World) (O : Nat → Prop) (r g : Nat) (a : Option Addr) (n c : Nat) (xs : List El) (Ns : List Nt) : Prop where
  bd : BD u O r g Ns
  ie : IsE u a n c xs
  ap : ∀ b off, a = some ⟨b, off, none⟩ → ¬ O b ∧ b < u.heap.size
  new : ∀ k, O k → w.heap.size ≤ k
  low : Below w.heap.size w u
section
variable {w u u' : World} {O : Nat → Prop} {r g g' n c : Nat} {a : Option Addr} {xs : List El} {Ns Ns' : List Nt}
theorem NuE.below (h : NuE w u O r g a n c xs Ns) (hb : Below u.heap.size u u') : NuE w u' O r g a n c xs Ns :=
  ⟨h.bd.below hb, h.ie.below hb, fun b off e => ⟨(h.ap b off e).1, Nat.lt_of_lt_of_le (h.ap b off e).2 hb.size⟩, h.new, h.low.trans (hb.mono h.low.size)⟩
theorem NuE.now (h : NuE w u O r g a n c xs Ns) (hN : NowB u u' O r g' Ns') : ∃ O', NuE w u' O' r g' a n c xs Ns' := by
  obtain ⟨O', h1, h2, h3⟩ := hN
  refine ⟨O', h1, h.ie.fr h3 (fun _ b off e => (h.ap b off e).1), fun b off e => ⟨fun ho => ?_, Nat.lt_of_lt_of_le (h.ap b off e).2 h3.size⟩, fun k ho => ?_, h.low.trans (h3.below h.low.size h.new)⟩
  · have := h.ap b off e
    rcases h2 b ho with h4 | h4
    · exact this.1 h4
    · omega
  · rcases h2 k ho with h4 | h4
    · exact h.new k h4
    · exact Nat.le_trans h.low.size h4
theorem NuE.fr {q : Nat} (h : NuE w u O r g a n c xs Ns) (hF : Fr (· = q) u u') (h1 : ¬ O q) (h2 : ∀ b off, a = some ⟨b, off, none⟩ → b ≠ q) (h3 : w.heap.size ≤ q) : NuE w u' O r g a n c xs Ns :=
  ⟨h.bd.fr hF (fun k hk e => h1 (e ▸ hk)), h.ie.fr hF (fun _ b off e => h2 b off e), fun b off e => ⟨(h.ap b off e).1, Nat.lt_of_lt_of_le (h.ap b off e).2 hF.size⟩, h.new, h.low.trans (hF.below h.low.size (fun k hk => by omega))⟩
/-- Another text, newly made. -/
theorem NuE.text (h : NuE w u O r g a n c xs Ns) (hb : Below u.heap.size u u') {q n' c' : Nat} {ys : List El} (hq : u.heap.size ≤ q) (hI : IsE u' (some ⟨q, 0, none⟩) n' c' ys) (hl : q < u'.heap.size) : NuE w u' O r g (some ⟨q, 0, none⟩) n' c' ys Ns :=
  ⟨h.bd.below hb, hI, fun b off e => by
    injection e with e
    injection e with e1 e2
    subst e1
    exact ⟨fun ho => by have := h.bd.old q ho; omega, hl⟩, h.new, h.low.trans (hb.mono h.low.size)⟩
end

/-- What is known of a text: how long, its elements. -/
def TxQ (xs : List El) (m : Nat) : Prop := xs.length ≤ m ∧ ∀ x ∈ xs, wfE x
/-- The numbers 1 to k, without answers. -/
def idsR (k : Nat) (Ns : List Nt) : Prop := Ns.map Nt.id = List.range' 1 k ∧ ∀ n ∈ Ns, n.sd = []
theorem idsR.one : idsR 1 [nt1] := ⟨rfl, fun n hn => by rw [List.mem_singleton.1 hn]; rfl⟩
theorem idsR.len {k : Nat} {Ns : List Nt} (h : idsR k Ns) : Ns.length = k := by
  have := congrArg List.length h.1
  simpa using this
theorem idsR.snoc {k : Nat} {Ns : List Nt} (h : idsR k Ns) (n : Nt) (h1 : n.id = k + 1) (h2 : n.sd = []) : idsR (k + 1) (Ns ++ [n]) := by
  refine ⟨?_, fun m hm => ?_⟩
  · rw [List.map_append, h.1, List.range'_1_concat]
    simp [h1]
    omega
  · rcases List.mem_append.1 hm with hm | hm
    · exact h.2 m hm
    · rw [List.mem_singleton.1 hm]; exact h2
theorem idsR.at {k j : Nat} {Ns : List Nt} (h : idsR k Ns) (h1 : 1 ≤ j) (h2 : j ≤ k) : ∃ A n B, Ns = A ++ n :: B ∧ n.id = j := by
  have : j ∈ Ns.map Nt.id := by rw [h.1, List.mem_range'_1]; omega
  obtain ⟨n, hn, e⟩ := List.mem_map.1 this
  obtain ⟨A, B, hA⟩ := List.append_of_mem hn
  exact ⟨A, n, B, hA, e⟩
theorem idsR.shut {k : Nat} {A B : List Nt} {n : Nt} (h : idsR k (A ++ n :: B)) : idsR k (A ++ { n with sh := true } :: B) := by
  refine ⟨?_, fun m hm => ?_⟩
  · have := h.1
    simp only [List.map_append, List.map_cons] at this ⊢
    exact this
  · rcases List.mem_append.1 hm with hm | hm
    · exact h.2 m (by simp [hm])
    · rcases List.mem_cons.1 hm with rfl | hm
      · exact h.2 n (by simp)
      · exact h.2 m (by simp [hm])
theorem idsR.room {k : Nat} {Ns : List Nt} (h : idsR k Ns) : ∀ n ∈ Ns, roomy n.sd.length 24 := by
  intro n hn
  rw [h.2 n hn]
  exact ⟨by decide, by decide⟩
theorem room_filter {Ns : List Nt} {p : Nt → Bool} (h : ∀ n ∈ Ns, roomy n.sd.length 24) : ∀ n ∈ Ns.filter p, roomy n.sd.length 24 := fun n hn => h n (List.mem_filter.1 hn).1

/-- A told note whose answers lie outside the board. -/
def TNo (u : World) (O : Nat → Prop) (xs : List El) (t : TN) : Prop := t.s = reachP xs t.n.el ∧ ∃ γ, SF rpc 2 u 45 γ (.slice t.a t.l t.c) t.n.sd ∧ ∀ k, γ = some k → ¬ O k
theorem TNo.s {u : World} {O : Nat → Prop} {xs : List El} {t : TN} (h : TNo u O xs t) : TNs u xs t := ⟨h.1, h.2.imp fun _ h => h.1⟩
theorem TNo.swept {u u' : World} {O : Nat → Prop} {xs : List El} {t : TN} (h : TNo u O xs t) (hF : Fr O u u') : TNs u' xs t := by
  obtain ⟨h1, γ, h2, h3⟩ := h
  exact ⟨h1, γ, h2.fr hF h3⟩
theorem TNo.fr {u u' : World} {O : Nat → Prop} {xs : List El} {t : TN} {S : Nat → Prop} (h : TNo u O xs t) (hF : Fr S u u') (hS : ∀ k cs, S k → u.heap[k]? ≠ some (.cells cs 45 (0, 0))) : TNo u' O xs t := by
  obtain ⟨h1, γ, h2, h3⟩ := h
  refine ⟨h1, γ, h2.fr hF (fun k hk hs => ?_), h3⟩
  rw [hk] at h2
  obtain ⟨cur, hc⟩ := h2.blk
  exact hS k cur hs hc

/-- The notes before, and those that are to stay. -/
structure SwL (w u : World) (O : Nat → Prop) (r g : Nat) (a : Option Addr) (n c : Nat) (xs : List El) (Ns : List Nt) (b0 : Option Nat) (v0 : Value) (L : List TN) (b1 : Option Nat) (v1 : Value) (A : List TN) : Prop where
  nu : NuE w u O r g a n c xs Ns
  be : SF tnc 8 u 37 b0 v0 L
  n0 : ∀ k, b0 = some k → ¬ O k
  ts : ∀ t ∈ L, TNo u O xs t
  wa : SF tnc 8 u 37 b1 v1 A
  n1 : ∀ k, b1 = some k → ¬ O k ∧ b0 ≠ some k ∧ w.heap.size ≤ k ∧ ∀ b off, a = some ⟨b, off, none⟩ → b ≠ k

section
variable {w u : World} {O : Nat → Prop} {r g n c : Nat} {a : Option Addr} {xs : List El} {Ns : List Nt} {b0 b1 : Option Nat} {v0 v1 : Value} {L A : List TN}
theorem SwL.start {u0 : World} (h : NuE w u0 O r g a n c xs Ns) (hb : Below u0.heap.size u0 u) (hA : AllP u0 u v0 Ns xs) : ∃ b0 L, SwL w u O r g a n c xs Ns b0 v0 L none (.slice none 0 0) [] ∧ L.map TN.n = Ns := by
  obtain ⟨L, β, h1, h2, h3, h4⟩ := hA
  refine ⟨β, L, ⟨h.below hb, h1, fun k hk ho => ?_, fun t ht => ?_, ⟨rfl, rfl⟩, fun k hk => by cases hk⟩, h3⟩
  · have := h2 k hk; have := h.bd.old k ho; omega
  · obtain ⟨e, γ, h5, h6⟩ := h4 t ht
    exact ⟨e, γ, h5, fun k hk ho => by have := h6 k hk; have := h.bd.old k ho; omega⟩
theorem SwL.push (h : SwL w u O r g a n c xs Ns b0 v0 L b1 v1 A) (t : TN) (hl : A.length + 1 ≤ 100000) :
    ∃ v' w' β', (∀ ty, (Builtin.append_ #[33, 33] ty #[v1, .slice (some ⟨u.heap.size, 0, none⟩) 1 1]).run Try.prog (u.alloc (.cells (tnc t).toArray 37)) = .ok v' w') ∧ SwL w w' O r g a n c xs Ns b0 v0 L β' v' (A ++ [t]) := by
  obtain ⟨i0, hi0, hz0, hz1, hz2⟩ := info_parts Try.infoN
  have hb : Below u.heap.size u (u.alloc (.cells (tnc t).toArray 37)) := (Below.refl _ _).alloc (Nat.le_refl _) _
  have hb0 : Fr (fun _ => False) u (u.alloc (.cells (tnc t).toArray 37)) := Fr.of_below hb
  have nu' := h.nu.below hb
  have be' := h.be.fr hb0 (fun _ _ h => h)
  have wa' := h.wa.fr hb0 (fun _ _ h => h)
  have ts' : ∀ t' ∈ L, TNo (u.alloc (.cells (tnc t).toArray 37)) O xs t' := fun t' ht' => (h.ts t' ht').fr hb0 (fun _ _ h => h.elim)
  have hz := heap_alloc_new u (.cells (tnc t).toArray 37)
  obtain ⟨v', w', hr, g', h1, h2⟩ := run_pushF sz_tnc (P := Try.prog) (u.alloc (.cells (tnc t).toArray 37)) 33 0 37 i0 _ 80 Try.underlying33 hi0 hz0 hz1 rfl hz2 b1 v1 A wa' ⟨u.heap.size, 0, none⟩ 1 1 [t] rfl (fun j x hj => by
    rw [add_lit, Nat.zero_add, cell_row hz]
    simp only [cl_one] at hj
    simpa using hj) (by omega) (by omega) (by omega)
  have hlow := nu'.low
  have hg' : ¬ O g' ∧ b0 ≠ some g' ∧ w.heap.size ≤ g' ∧ ∀ b off, a = some ⟨b, off, none⟩ → b ≠ g' := by
    rcases h2 with ⟨e, -⟩ | ⟨e, -⟩
    · exact h.n1 g' e
    · refine ⟨fun ho => ?_, fun e1 => ?_, by rw [e]; exact hlow.size, fun b off e1 => ?_⟩
      · have := nu'.bd.old g' ho; omega
      · have hbe := be'
        rw [e1] at hbe
        obtain ⟨cur, hc⟩ := hbe.blk
        have := block_lt hc
        omega
      · have := (nu'.ap b off e1).2
        omega
  have hF : Fr (· = g') (u.alloc (.cells (tnc t).toArray 37)) w' := by
    rcases h2 with ⟨-, hf⟩ | ⟨-, hf⟩
    · exact hf
    · exact hf.mono (fun _ _ h => h.elim)
  have hty : ∀ k cs t', k = g' → (u.alloc (.cells (tnc t).toArray 37)).heap[k]? = some (.cells cs t' (0, 0)) → t' = 37 := by
    rintro k cs t' rfl hc
    rcases h2 with ⟨e, -⟩ | ⟨e, -⟩
    · have hrow := wa'
      rw [e] at hrow
      obtain ⟨cur, hcur⟩ := hrow.blk
      rw [hcur] at hc
      cases hc
      rfl
    · have := block_lt hc
      omega
  exact ⟨v', w', some g', fun ty => hr, nu'.fr hF hg'.1 hg'.2.2.2 hg'.2.2.1, be'.fr hF (fun k hk e => hg'.2.1 (by rw [hk, e])), h.n0, fun t' ht' => (ts' t' ht').fr hF (fun k cs e hc => absurd (hty k cs _ e hc) (by decide)), h1, fun k hk => by cases hk; exact hg'⟩
end
theorem take_flt (p : TN → Bool) (L : List TN) (i : Nat) (hi : i < L.length) : (L.take (i + 1)).filter p = (L.take i).filter p ++ (if p L[i] then [L[i]] else []) := by
  rw [List.take_add_one, List.getElem?_eq_getElem hi, List.filter_append]
  simp only [Option.toList]
  cases h : p L[i] <;> simp [h]
theorem flt_map {L : List TN} {Ns : List Nt} (h : L.map TN.n = Ns) (p : Nt → Bool) : Ns.filter p = (L.filter (fun t => p t.n)).map TN.n := by
  rw [← h, List.filter_map]
  rfl
theorem gone_keep {u : World} {O : Nat → Prop} {xs : List El} {t : TN} (h : TNo u O xs t) : keepN xs t.n = (!t.n.sh || !((t.s.1 : Int) == (t.s.2 : Int))) := by
  unfold keepN
  rw [h.1]
  cases t.n.sh <;> simp

end Go.Proofs.Ytkkklfnooeofcaa
