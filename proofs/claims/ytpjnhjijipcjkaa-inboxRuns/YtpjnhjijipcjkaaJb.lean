/-
  An inbox, without memory; an inbox in memory.
-/
import Derived.Test.YtpjnhjijipcjkaaJa
namespace Go.Proofs.Ytpjnhjijipcjkaa
open Go.RowKit
set_option linter.unusedVariables false

/-- An inbox, without memory: how many numbers it takes, how many were popped, what is held, as it came. -/
structure Ib where
  R : Nat
  c : Nat
  H : List (Nat × Value)

def hasK (H : List (Nat × Value)) (k : Nat) : Bool := H.any (fun q => q.1 == k)
def atK (H : List (Nat × Value)) (k : Nat) (z : Value) : Value := ((H.find? (fun q => q.1 == k)).map (fun q => q.2)).getD z
def cutK (H : List (Nat × Value)) (k : Nat) : List (Nat × Value) := H.filter (fun q => q.1 != k)

structure Ib.ok (p : Ib) : Prop where
  r1 : 1 ≤ p.R
  r2 : p.R ≤ 4096
  c2 : p.c ≤ 4096
  key : ∀ q ∈ p.H, p.c < q.1 ∧ q.1 ≤ p.c + p.R ∧ q.1 ≤ 4096
  once : p.H.Pairwise (fun a b => a.1 ≠ b.1)

def Ib.hd (p : Ib) : Bool := hasK p.H (p.c + 1)
def iputE (p : Ib) (n : Int) : Int := if n < 1 ∨ 4096 < n then 91 else if n ≤ p.c ∨ hasK p.H n.toNat = true then 92 else if (p.c : Int) + p.R < n then 93 else 0
def iputS (p : Ib) (n : Int) (v : Value) : Ib := if iputE p n = 0 then { p with H := p.H ++ [(n.toNat, v)] } else p
def itossE (p : Ib) : Int := if p.hd = true then 0 else 94
def itossS (p : Ib) : Ib := { p with H := cutK p.H (p.c + 1) }
def ipopS (p : Ib) : Ib := if p.hd = true then { p with c := p.c + 1, H := cutK p.H (p.c + 1) } else p
def iresetS (p : Ib) : Ib := ⟨p.R, 0, []⟩

theorem hasK_true {H : List (Nat × Value)} {k : Nat} (h : hasK H k = true) : ∃ v, (k, v) ∈ H := by
  unfold hasK at h
  rw [List.any_eq_true] at h
  obtain ⟨⟨a, v⟩, h1, h2⟩ := h
  have : a = k := by simpa using h2
  exact ⟨v, this ▸ h1⟩
theorem hasK_mem {H : List (Nat × Value)} {k : Nat} {v : Value} (h : (k, v) ∈ H) : hasK H k = true := by
  unfold hasK
  rw [List.any_eq_true]
  exact ⟨_, h, by simp⟩
theorem hasK_false {H : List (Nat × Value)} {k : Nat} (h : hasK H k = false) : ∀ p ∈ H, p.1 ≠ k := by
  unfold hasK at h
  rw [List.any_eq_false] at h
  intro p hp
  simpa using h p hp
theorem atK_none {H : List (Nat × Value)} {k : Nat} {z : Value} (h : hasK H k = false) : atK H k z = z := by
  have := hasK_false h
  unfold atK
  rw [List.find?_eq_none.2 (fun p hp => by simpa using this p hp)]
  rfl
theorem atK_mem {H : List (Nat × Value)} {k : Nat} {z : Value} (h : hasK H k = true) : (k, atK H k z) ∈ H := by
  unfold hasK at h
  unfold atK
  cases hf : H.find? (fun q => q.1 == k) with
  | none =>
    rw [List.find?_eq_none] at hf
    rw [List.any_eq_true] at h
    obtain ⟨q, h1, h2⟩ := h
    exact absurd h2 (hf q h1)
  | some q =>
    have h1 := List.find?_some hf
    have h2 := List.mem_of_find?_eq_some hf
    obtain ⟨a, v⟩ := q
    have : a = k := by simpa using h1
    subst this
    simpa using h2
theorem cutK_none {H : List (Nat × Value)} {k : Nat} (h : hasK H k = false) : cutK H k = H := by
  have := hasK_false h
  unfold cutK
  rw [List.filter_eq_self]
  intro p hp
  simpa using this p hp
theorem hasK_cut {H : List (Nat × Value)} {k j : Nat} : hasK (cutK H k) j = (hasK H j && decide (j ≠ k)) := by
  unfold hasK cutK
  rw [List.any_filter]
  rw [Bool.eq_iff_iff]
  simp only [List.any_eq_true, Bool.and_eq_true, decide_eq_true_eq, bne_iff_ne, beq_iff_eq]
  constructor
  · rintro ⟨q, h1, h2, h3⟩
    exact ⟨⟨q, h1, h3⟩, h3 ▸ h2⟩
  · rintro ⟨⟨q, h1, h3⟩, h2⟩
    exact ⟨q, h1, h3 ▸ h2, h3⟩
theorem hasK_snoc {H : List (Nat × Value)} {k j : Nat} {v : Value} : hasK (H ++ [(k, v)]) j = (hasK H j || decide (j = k)) := by
  unfold hasK
  rw [List.any_append]
  rw [Bool.eq_iff_iff]
  simp only [Bool.or_eq_true, List.any_cons, List.any_nil, Bool.or_false, beq_iff_eq, decide_eq_true_eq]
  exact ⟨fun h => h.imp id (fun e => e.symm), fun h => h.imp id (fun e => e.symm)⟩
theorem cutK_split {H : List (Nat × Value)} {k : Nat} (ho : H.Pairwise (fun a b => a.1 ≠ b.1)) (h : hasK H k = true) : ∃ L1 v L2, H = L1 ++ (k, v) :: L2 ∧ cutK H k = L1 ++ L2 ∧ ∀ p ∈ L1 ++ L2, p.1 ≠ k := by
  obtain ⟨v, hm⟩ := hasK_true h
  obtain ⟨L1, L2, rfl⟩ := List.append_of_mem hm
  have hp := List.pairwise_append.1 ho
  have hq := List.pairwise_cons.1 hp.2.1
  have hn : ∀ p ∈ L1 ++ L2, p.1 ≠ k := by
    intro p h
    rcases List.mem_append.1 h with h | h
    · exact hp.2.2 p h (k, v) (by simp)
    · exact fun e => hq.1 p h e.symm
  refine ⟨L1, v, L2, rfl, ?_, hn⟩
  unfold cutK
  rw [List.filter_append, List.filter_cons]
  have e : ∀ L : List (Nat × Value), (∀ p ∈ L, p.1 ≠ k) → L.filter (fun q => q.1 != k) = L := fun L hL => by
    rw [List.filter_eq_self]
    intro p hp
    simpa using hL p hp
  rw [e L1 (fun p h => hn p (List.mem_append.2 (.inl h))), e L2 (fun p h => hn p (List.mem_append.2 (.inr h)))]
  simp

theorem iputE_ok {p : Ib} {n : Int} (h : iputE p n = 0) : 1 ≤ n ∧ n ≤ 4096 ∧ (p.c : Int) < n ∧ n ≤ p.c + p.R ∧ hasK p.H n.toNat = false := by
  unfold iputE at h
  split at h
  · omega
  · split at h
    · omega
    · split at h
      · omega
      · next h1 h2 h3 =>
        refine ⟨by omega, by omega, by omega, by omega, ?_⟩
        cases hh : hasK p.H n.toNat
        · rfl
        · exact absurd (.inr hh) h2
theorem iputS_ok {p : Ib} (h : p.ok) (n : Int) (v : Value) : (iputS p n v).ok := by
  unfold iputS
  split
  · next he =>
    obtain ⟨h1, h2, h3, h4, h5⟩ := iputE_ok he
    refine ⟨h.r1, h.r2, h.c2, fun q hq => ?_, ?_⟩
    · simp at hq
      rcases hq with hq | rfl
      · exact h.key q hq
      · simp only; omega
    · refine List.pairwise_append.2 ⟨h.once, by simp, fun a ha b hb => ?_⟩
      simp at hb
      subst hb
      exact hasK_false h5 a ha
  · exact h
theorem cut_mem {H : List (Nat × Value)} {k : Nat} {q : Nat × Value} (h : q ∈ cutK H k) : q ∈ H ∧ q.1 ≠ k := by
  unfold cutK at h
  rw [List.mem_filter] at h
  exact ⟨h.1, by simpa using h.2⟩
theorem itossS_ok {p : Ib} (h : p.ok) : (itossS p).ok :=
  ⟨h.r1, h.r2, h.c2, fun q hq => h.key q (cut_mem hq).1, List.Pairwise.filter _ h.once⟩
theorem ipopS_ok {p : Ib} (h : p.ok) : (ipopS p).ok := by
  unfold ipopS
  split
  · next hh =>
    obtain ⟨v, hv⟩ := hasK_true hh
    have := h.key _ hv
    refine ⟨h.r1, h.r2, by simp only at this ⊢; omega, fun q hq => ?_, List.Pairwise.filter _ h.once⟩
    obtain ⟨h1, h2⟩ := cut_mem hq
    have := h.key q h1
    simp only at this ⊢
    omega
  · exact h
theorem iresetS_ok {p : Ib} (h : p.ok) : (iresetS p).ok := ⟨h.r1, h.r2, by simp [iresetS], by simp [iresetS], by simp [iresetS]⟩

/-- Numbers without a repetition, each from c + 1 to c + n, are at most n. -/
theorem few_keys (n c : Nat) (L : List Nat) (hk : ∀ q ∈ L, c < q ∧ q ≤ c + n) (ho : L.Nodup) : L.length ≤ n := by
  have hs : L ⊆ (List.range' (c + 1) n) := fun q hq => by
    have := hk q hq
    rw [List.mem_range'_1]
    omega
  have := List.Nodup.length_le_of_subset ho hs
  simpa using this
theorem Ib.ok.keys {p : Ib} (h : p.ok) : (p.H.map (fun q => q.1)).Nodup := List.pairwise_map.2 h.once
theorem Ib.ok.len {p : Ib} (h : p.ok) : p.H.length ≤ p.R := by
  have := few_keys p.R p.c (p.H.map (fun q => q.1)) (fun q hq => by
    obtain ⟨a, h1, rfl⟩ := List.mem_map.1 hq
    have := h.key a h1
    omega) h.keys
  simpa using this

/-- The inbox at block x, of type t, its map at block b. -/
structure IK (t : TypeId) (w : World) (x b : Nat) (p : Ib) : Prop where
  box : w.heap[x]? = some (.cells #[.int .i64 p.R, .int .i64 p.c, .map (some b)] t (0, 0))
  mp : MP w b p.H
  ok : p.ok

/-- The inbox at block x; its blocks are among S. -/
def InAt (t : TypeId) (w : World) (x : Nat) (p : Ib) (S : Nat → Prop) : Prop := ∃ b, IK t w x b p ∧ S x ∧ S b ∧ ∀ k, S k → k < w.heap.size

section
variable {t : TypeId} {w w' : World} {x b : Nat} {p : Ib} {S T : Nat → Prop}
theorem IK.fr (h : IK t w x b p) (hF : Fr S w w') (hx : ¬ S x) (hb : ¬ S b) : IK t w' x b p := ⟨hF.keeps h.box hx, h.mp.fr hF hb, h.ok⟩
theorem IK.below (h : IK t w x b p) (hb : Below w.heap.size w w') : IK t w' x b p := h.fr (S := fun _ => False) (Fr.of_below hb) (fun h => h) (fun h => h)
theorem IK.ne (h : IK t w x b p) : x ≠ b := by
  rintro rfl
  obtain ⟨es, ck, h2⟩ := h.mp.map
  rw [h.box] at h2
  simp at h2
theorem InAt.fr (h : InAt t w x p S) (hF : Fr T w w') (hS : ∀ k, S k → ¬ T k) : InAt t w' x p S := by
  obtain ⟨b, h, h1, h2, h3⟩ := h
  exact ⟨b, h.fr hF (hS x h1) (hS b h2), h1, h2, fun k hk => Nat.lt_of_lt_of_le (h3 k hk) hF.size⟩
theorem InAt.below (h : InAt t w x p S) (hb : Below w.heap.size w w') : InAt t w' x p S := h.fr (T := fun _ => False) (Fr.of_below hb) (fun _ _ h => h)
theorem InAt.ok (h : InAt t w x p S) : p.ok := by
  obtain ⟨b, h, -⟩ := h
  exact h.ok
theorem InAt.old (h : InAt t w x p S) : ∀ k, S k → k < w.heap.size := by
  obtain ⟨b, h, -, -, h3⟩ := h
  exact h3
end

/-- What a call leaves of an inbox: its blocks stay the same. -/
def INow (t : TypeId) (w w' : World) (x : Nat) (p : Ib) (S : Nat → Prop) : Prop := InAt t w' x p S ∧ Fr S w w'
theorem INow.after {t : TypeId} {w w1 w' : World} {x : Nat} {p : Ib} {S : Nat → Prop} (h : INow t w1 w' x p S) (hb : Below w.heap.size w w1) : INow t w w' x p S :=
  ⟨h.1, (Fr.of_below hb).trans h.2⟩
theorem InAt.now {t : TypeId} {w w' : World} {x : Nat} {p : Ib} {S : Nat → Prop} (h : InAt t w x p S) (hb : Below w.heap.size w w') : INow t w w' x p S := ⟨h.below hb, Fr.of_below hb⟩

end Go.Proofs.Ytpjnhjijipcjkaa
