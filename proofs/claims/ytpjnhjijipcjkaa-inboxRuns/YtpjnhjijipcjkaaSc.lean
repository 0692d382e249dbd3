/-
  Scripts that came in; what Held answers.
-/
import Derived.Test.YtpjnhjijipcjkaaMb
namespace Go.Proofs.Ytpjnhjijipcjkaa
open Go.RowKit
set_option linter.unusedVariables false

/-- A step of a script. -/
structure OpV where
  kind : Int
  slot : Int
  n : Int
  v : Int
  ia : Option Addr
  il : Nat
  ic : Nat
/-- The cells of a step at a place. -/
def OpAt (w : World) (b o : Nat) (q : OpV) : Prop :=
  w.cell? ⟨b, o, none⟩ = some (.int .i64 q.kind) ∧ w.cell? ⟨b, o + 1, none⟩ = some (.int .i64 q.slot) ∧ w.cell? ⟨b, o + 2, none⟩ = some (.int .i64 q.n) ∧ w.cell? ⟨b, o + 3, none⟩ = some (.int .i64 q.v) ∧ w.cell? ⟨b, o + 4, none⟩ = some (.slice q.ia q.il q.ic)
def IsS (w : World) (a : Option Addr) (n c : Nat) (O : Nat → OpV) : Prop :=
  n ≤ c ∧ c ≤ 9223372036854775807 ∧ (0 < n → ∃ b off, a = some ⟨b, off, none⟩ ∧ b < w.heap.size ∧ ∀ i, i < n → OpAt w b (off + i * 5) (O i))
theorem OpAt.below {w w' : World} {B b o : Nat} {q : OpV} (h : OpAt w b o q) (hb : RowKit.Below B w w') (hB : b < B) : OpAt w' b o q := by
  obtain ⟨h0, h1, h2, h3, h4⟩ := h
  exact ⟨(hb.cell (p := ⟨b, o, none⟩) hB).trans h0, (hb.cell (p := ⟨b, o + 1, none⟩) hB).trans h1, (hb.cell (p := ⟨b, o + 2, none⟩) hB).trans h2, (hb.cell (p := ⟨b, o + 3, none⟩) hB).trans h3, (hb.cell (p := ⟨b, o + 4, none⟩) hB).trans h4⟩
theorem IsS.below {w w' : World} {B : Nat} {a : Option Addr} {n c : Nat} {O : Nat → OpV} (h : IsS w a n c O) (hb : RowKit.Below B w w') (hB : w.heap.size ≤ B) : IsS w' a n c O := by
  obtain ⟨h2, h3, h4⟩ := h
  refine ⟨h2, h3, fun hn => ?_⟩
  obtain ⟨b, off, e, hlt, hc⟩ := h4 hn
  exact ⟨b, off, e, Nat.lt_of_lt_of_le hlt hb.size, fun i hi => (hc i hi).below hb (Nat.lt_of_lt_of_le hlt hB)⟩
theorem IsS.cell {w : World} {a : Option Addr} {n c : Nat} {O : Nat → OpV} (h : IsS w a n c O) {i : Nat} (hi : i < n) : ∃ b off, a = some ⟨b, off, none⟩ ∧ OpAt w b (off + i * 5) (O i) := by
  obtain ⟨-, -, h3⟩ := h
  obtain ⟨b, off, rfl, -, hc⟩ := h3 (by omega)
  exact ⟨b, off, rfl, hc i hi⟩

theorem leI_trans : ∀ a b c : Int, leI a b = true → leI b c = true → leI a c = true := fun a b c h1 h2 => by simp only [leI, decide_eq_true_eq] at *; omega
theorem leI_total : ∀ a b : Int, (leI a b || leI b a) = true := fun a b => by simp only [leI, Bool.or_eq_true, decide_eq_true_eq]; omega

theorem held_len (p : Ib) : (heldL p).length = p.H.length := by simp [heldL]
theorem held_mem {p : Ib} {x : Int} : x ∈ heldL p ↔ ∃ k : Nat, x = k ∧ hasK p.H k = true := by
  unfold heldL
  rw [(List.mergeSort_perm _ _).mem_iff, List.mem_map]
  constructor
  · rintro ⟨q, hq, rfl⟩
    exact ⟨q.1, rfl, hasK_mem (v := q.2) hq⟩
  · rintro ⟨k, rfl, hk⟩
    obtain ⟨v, hv⟩ := hasK_true hk
    exact ⟨_, hv, rfl⟩
theorem held_sorted {p : Ib} (h : p.ok) : (heldL p).Pairwise (fun a b => a < b) := by
  have h1 : (heldL p).Pairwise (fun a b => leI a b = true) := List.pairwise_mergeSort leI_trans leI_total _
  have h2 : (heldL p).Nodup := by
    unfold heldL
    rw [(List.mergeSort_perm _ _).nodup_iff]
    exact List.pairwise_map.2 (h.once.imp (fun h e => h (by omega)))
  refine (h1.and h2).imp ?_
  rintro a b ⟨h3, h4⟩
  simp only [leI, decide_eq_true_eq] at h3
  omega
theorem held_at {p : Ib} (h : p.ok) {i : Nat} (hi : i < (heldL p).length) : ∃ k : Nat, (heldL p)[i] = k ∧ hasK p.H k = true ∧ p.c < k ∧ k ≤ p.c + p.R ∧ k ≤ 4096 := by
  obtain ⟨k, h1, h2⟩ := held_mem.1 (List.getElem_mem hi)
  obtain ⟨v, hv⟩ := hasK_true h2
  have := h.key _ hv
  exact ⟨k, h1, h2, this.1, this.2.1, this.2.2⟩
theorem held_lt {p : Ib} (h : p.ok) {i j : Nat} (hij : i < j) (hj : j < (heldL p).length) : (heldL p)[i] < (heldL p)[j] := List.pairwise_iff_getElem.1 (held_sorted h) i j (by omega) hj hij

end Go.Proofs.Ytpjnhjijipcjkaa
