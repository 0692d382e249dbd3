/-
  SpaceWhole: the end, without memory.
-/
import Derived.Test.YtmbnimlibnheeabDoorWf
import Derived.Test.YtmbnimlibnheeabDoorMW
namespace Go.Proofs.YtmbnimlibnheeabDoor
open Go.RowKit Go.Lib
set_option linter.unusedVariables false

/-- What was put in: the elements of the list that bear a character. -/
def put1 (L : List El) : List El := L.filter (fun z => decide (z.1 ≠ 0))
theorem put1_app (L : List El) (z : El) : put1 (L ++ [z]) = put1 L ++ (if z.1 = 0 then [] else [z]) := by
  unfold put1
  rw [List.filter_append]
  by_cases h : z.1 = 0 <;> simp [h]

theorem nodup_keys {d : List El} (hn : d.Nodup) (hu : ∀ z ∈ d, ∀ z' ∈ d, z.2 = z'.2 → z = z') : (d.map (·.2)).Nodup := by
  induction d with
  | nil => simp
  | cons a d ih =>
    rw [List.nodup_cons] at hn
    rw [List.map_cons, List.nodup_cons]
    refine ⟨fun h => ?_, ih hn.2 (fun z hz z' hz' => hu z (List.mem_cons_of_mem _ hz) z' (List.mem_cons_of_mem _ hz'))⟩
    obtain ⟨z, hz, e⟩ := List.mem_map.1 h
    have := hu z (List.mem_cons_of_mem _ hz) a List.mem_cons_self e
    exact hn.1 (this ▸ hz)

theorem same_ord {T d Ins : List El} (hs : Same T d) (hn : d.Nodup) (hT : ∀ z ∈ T, z ∈ Ins) (hd : ∀ z ∈ d, z ∈ Ins) (hu : ∀ z ∈ Ins, ∀ z' ∈ Ins, z.2 = z'.2 → z = z') : Ord T d := by
  refine ⟨nodup_keys hn (fun z hz z' hz' => hu z (hd z hz) z' (hd z' hz')), fun x hx y hy e => hu x (hT x hx) y (hd y hy) e, ?_⟩
  have : T.filter (fun z => decide (z ∈ d)) = d.filter (fun z => decide (z ∈ T)) := hs
  rw [this]
  exact List.filter_sublist

/-- How many of the first k stay. -/
def cnt (d L : List El) (k : Nat) : Nat := ((L.take k).filter (fun z => decide (z.1 ≠ 0) && decide (z ∈ d))).length
theorem cnt_zero (d L : List El) : cnt d L 0 = 0 := by simp [cnt]
theorem cnt_succ (d L : List El) (k : Nat) (hk : k < L.length) : cnt d L (k + 1) = cnt d L k + (if L[k].1 ≠ 0 ∧ L[k] ∈ d then 1 else 0) := by
  unfold cnt
  rw [List.take_succ_eq_append_getElem hk, List.filter_append, List.length_append]
  congr 1
  by_cases h1 : L[k].1 = 0 <;> by_cases h2 : L[k] ∈ d <;> simp [h1, h2]
theorem cnt_le (d L : List El) (k : Nat) : cnt d L k ≤ k := by
  unfold cnt
  refine Nat.le_trans (List.length_filter_le _ _) ?_
  simp
  omega
theorem cnt_all {d L : List El} (hn : d.Nodup) (hL : (put1 L).Nodup) (hd : ∀ z ∈ d, z ∈ put1 L) : cnt d L L.length = d.length := by
  unfold cnt
  rw [List.take_length]
  have e : L.filter (fun z => decide (z.1 ≠ 0) && decide (z ∈ d)) = (put1 L).filter (fun z => decide (z ∈ d)) := by
    unfold put1
    rw [List.filter_filter]
    apply List.filter_congr
    intro z hz
    exact Bool.and_comm _ _
  rw [e]
  have p : ((put1 L).filter (fun z => decide (z ∈ d))).Perm d := by
    apply (List.perm_ext_iff_of_nodup (hL.filter _) hn).2
    intro z
    simp only [List.mem_filter, decide_eq_true_eq]
    exact ⟨fun h => h.2, fun h => ⟨hd z h, h⟩⟩
  exact p.length_eq

end Go.Proofs.YtmbnimlibnheeabDoor
