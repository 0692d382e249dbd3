/-
  Two spaces; scripts; a queue kept anew.
-/
import Derived.Test.YtmbnimlibnheeabDoorLooks
namespace Go.Proofs.YtmbnimlibnheeabDoor
open Go.RowKit
set_option linter.unusedVariables false

structure LV where
  kind : Int
  which : Bool
  mark : Int
  op : OpE
/-- A script that came in. -/
def IsL (w : World) (a : Option Addr) (n c : Nat) (X : Nat → LV) : Prop :=
  n ≤ c ∧ c ≤ 9223372036854775807 ∧ (0 < n → ∃ b off, a = some ⟨b, off, none⟩ ∧ b < w.heap.size ∧ ∀ i, i < n →
    w.cell? ⟨b, off + i * 8, none⟩ = some (.int .i64 (X i).kind) ∧ w.cell? ⟨b, off + i * 8 + 1, none⟩ = some (.bool (X i).which) ∧ w.cell? ⟨b, off + i * 8 + 2, none⟩ = some (.int .i64 (X i).mark) ∧
    w.cell? ⟨b, off + i * 8 + 3, none⟩ = some (.int .i64 (X i).op.kind) ∧ w.cell? ⟨b, off + i * 8 + 4, none⟩ = some (.int .i64 (X i).op.pos) ∧ w.cell? ⟨b, off + i * 8 + 5, none⟩ = some (.int .u8 (X i).op.ch) ∧ w.cell? ⟨b, off + i * 8 + 6, none⟩ = some (.int .i64 (X i).op.cl) ∧ w.cell? ⟨b, off + i * 8 + 7, none⟩ = some (.int .i64 (X i).op.sq))
def OkL (X : Nat → LV) : Prop := ∀ i, OkOp (X i).op

def F2 (x : Nat) (p : Sp) (y : Nat) (r : Sp) : Nat → Thg := fun i =>
  match i with
  | 0 => spO x p
  | 1 => spO y r
  | _ => noObj
section
variable {x y : Nat} {p p' r r' : Sp}
theorem F2_0 : setO (F2 x p y r) 0 (spO x p') = F2 x p' y r := by
  funext i; unfold setO F2; rcases i with _ | _ | i <;> simp
theorem F2_1 : setO (F2 x p y r) 1 (spO y r') = F2 x p y r' := by
  funext i; unfold setO F2; rcases i with _ | _ | i <;> simp
theorem F2_start : setO (setO (fun _ => noObj) 0 (spO x p)) 1 (spO y r) = F2 x p y r := by
  funext i; unfold setO F2; rcases i with _ | _ | i <;> simp
end

/-- Marks that rise. -/
structure Rs (f : Bool) (p : Sp) : Prop where
  f : p.f = f
  up : p.ms.Pairwise (· < ·)
  le : ∀ m ∈ p.ms, 0 < m ∧ m ≤ p.last
  l0 : 0 ≤ p.last
  l4 : p.last ≤ 4096
theorem Rs.keep {f : Bool} {p : Sp} (h : Rs f p) (m : Int) (o : OpE) : Rs f (keepS p m o) := by
  unfold keepS
  split
  · next hk =>
    obtain ⟨-, h1, h2⟩ := keepE_zero hk
    have := h.l0
    refine ⟨h.f, ?_, ?_, by simp only; omega, h2⟩
    · simp only [Sp.ms, List.map_append, List.pairwise_append]
      refine ⟨h.up, by simp, fun a ha b hb => ?_⟩
      simp at hb
      subst hb
      have := h.le a ha
      omega
    · intro a ha
      simp only [Sp.ms, List.map_append, List.mem_append] at ha
      rcases ha with ha | ha
      · have := h.le a ha
        simp only
        omega
      · simp at ha
        subst ha
        simp only
        omega
  · exact h
theorem Rs.drop {f : Bool} {p : Sp} (h : Rs f p) (m : Int) : Rs f (dropS p m) := by
  refine ⟨h.f, ?_, fun a ha => h.le a ?_, h.l0, h.l4⟩
  · rw [dropS_ms]
    exact h.up.sublist (List.drop_sublist _ _)
  · rw [dropS_ms] at ha
    exact List.mem_of_mem_drop ha
theorem crossS_ms (p : Sp) (o : OpE) : (crossS p o).ms = p.ms ∧ (crossS p o).f = p.f ∧ (crossS p o).last = p.last := by
  by_cases hv : validP o = 0
  · rw [(crossS_good hv).1]
    exact ⟨thrQ_m _ _ _, rfl, rfl⟩
  · rw [(crossS_bad hv).1]
    exact ⟨rfl, rfl, rfl⟩
theorem Rs.cross {f : Bool} {p : Sp} (h : Rs f p) (o : OpE) : Rs f (crossS p o) := by
  obtain ⟨h1, h2, h3⟩ := crossS_ms p o
  exact ⟨h2.trans h.f, by rw [h1]; exact h.up, by rw [h1, h3]; exact h.le, by rw [h3]; exact h.l0, by rw [h3]; exact h.l4⟩

/-- So much of the queue is kept anew. -/
structure Kn (f : Bool) (p : Sp) (k : Nat) (r : Sp) : Prop where
  f : r.f = f
  q : r.q = p.q.take k
  l0 : 0 ≤ r.last
  lt : ∀ i (h : i < p.q.length), k ≤ i → r.last < p.q[i].1
theorem Kn.start {f : Bool} {p : Sp} (h : Rs f p) : Kn f p 0 ⟨f, [], 0⟩ := by
  refine ⟨rfl, by simp, by simp, fun i hi _ => ?_⟩
  exact (h.le p.q[i].1 (List.mem_map_of_mem (List.getElem_mem hi))).1
theorem Kn.step {f : Bool} {p r : Sp} {k : Nat} (hp : Rs f p) (h : Kn f p k r) (hk : k < p.q.length) : keepE r p.q[k].1 p.q[k].2 = validP p.q[k].2 ∧ (validP p.q[k].2 = 0 → Kn f p (k + 1) (keepS r p.q[k].1 p.q[k].2)) := by
  have h1 := h.lt k hk (Nat.le_refl _)
  have h2 := hp.le p.q[k].1 (List.mem_map_of_mem (List.getElem_mem hk))
  have h3 := hp.l4
  have hE : keepE r p.q[k].1 p.q[k].2 = validP p.q[k].2 := by
    unfold keepE
    split
    · rfl
    · rw [if_neg (by omega)]
      omega
  refine ⟨hE, fun hv => ?_⟩
  unfold keepS
  rw [if_pos (by rw [hE]; exact hv)]
  refine ⟨h.f, ?_, by simp only; omega, fun i hi hki => ?_⟩
  · simp only
    rw [h.q, List.take_succ_eq_append_getElem hk]
  · simp only
    have hup := hp.up
    unfold Sp.ms at hup
    rw [List.pairwise_map] at hup
    exact List.pairwise_iff_getElem.1 hup k i hk hi (by omega)

/-- Both answer alike. -/
def Alk (p r : Sp) : Prop := r.f = p.f ∧ r.q = p.q
theorem Alk.cross {p r : Sp} (h : Alk p r) (o : OpE) : crossO r o = crossO p o ∧ Alk (crossS p o) (crossS r o) := by
  obtain ⟨h1, h2⟩ := h
  unfold crossO crossS Alk
  split
  · simp only [h1, h2]
    exact ⟨trivial, trivial, trivial⟩
  · exact ⟨rfl, h1, h2⟩
theorem Alk.drop {p r : Sp} (h : Alk p r) (m : Int) : dropN r m = dropN p m ∧ Alk (dropS p m) (dropS r m) := by
  obtain ⟨h1, h2⟩ := h
  unfold dropN dropS Alk
  simp only [h1, h2]
  exact ⟨trivial, trivial, trivial⟩

end Go.Proofs.YtmbnimlibnheeabDoor
