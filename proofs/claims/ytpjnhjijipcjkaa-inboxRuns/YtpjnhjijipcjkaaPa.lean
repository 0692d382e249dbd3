/-
  The inbox of operations beside the one of the document; op.
-/
import Derived.Test.YtpjnhjijipcjkaaRk
import Derived.Test.YtpjnhjijipcjkaaKe
import Derived.Test.YtpjnhjijipcjkaaKd
namespace Go.Proofs.Ytpjnhjijipcjkaa
open Go.RowKit
set_option linter.unusedVariables false

/-- The operation that stands for a number. -/
def opV (z : Int) : Value := .agg #[.int .i64 (Int.tmod z 3), .int .i64 z, .int .u8 0, .int .i64 0, .int .i64 (wrap64 (-z))]
theorem opV_ok (z : Int) : OOk (opV z) := ⟨_, _, _, _, _, rfl⟩
def oH (L : List (Nat × Int)) : List (Nat × Value) := L.map (fun q => (q.1, opV q.2))
def Rb.ob (p : Rb) : Ib := ⟨p.R, p.c, oH p.L⟩
theorem has_oH (L : List (Nat × Int)) (k : Nat) : hasK (oH L) k = hasK (iH L) k := by
  unfold hasK oH iH
  rw [List.any_map, List.any_map]
  rfl
theorem oH_ok (L : List (Nat × Int)) : ∀ q ∈ oH L, OOk q.2 := by
  intro q hq
  obtain ⟨r, -, rfl⟩ := List.mem_map.1 hq
  exact opV_ok _
theorem ob_hd (p : Rb) : p.ob.hd = p.ib.hd := has_oH _ _
theorem ob_putE (p : Rb) (n : Int) : iputE p.ob n = iputE p.ib n := by
  unfold iputE
  show (if _ then _ else if n ≤ (p.c : Int) ∨ hasK (oH p.L) n.toNat = true then _ else _) = _
  rw [has_oH]
  rfl
theorem ob_tossE (p : Rb) : itossE p.ob = itossE p.ib := by unfold itossE; rw [ob_hd]
theorem ob_putS (p : Rb) (n z : Int) : (rputS p n z).ob = iputS p.ob n (opV z) := by
  unfold rputS iputS
  rw [ob_putE]
  split
  · simp [Rb.ob, oH]
  · rfl
theorem iH_inj {L M : List (Nat × Int)} (h : iH L = iH M) : L = M := by
  unfold iH at h
  refine (List.map_inj_right (fun a b hab => ?_)).1 h
  obtain ⟨a1, a2⟩ := a
  obtain ⟨b1, b2⟩ := b
  simp at hab
  obtain ⟨rfl, rfl⟩ := hab
  rfl
theorem cut_iH (L : List (Nat × Int)) (k : Nat) : cutK (iH L) k = iH (L.filter (fun q => q.1 != k)) := by
  unfold cutK iH
  rw [List.filter_map]
  rfl
theorem cut_oH (L : List (Nat × Int)) (k : Nat) : cutK (oH L) k = oH (L.filter (fun q => q.1 != k)) := by
  unfold cutK oH
  rw [List.filter_map]
  rfl
theorem cutL_oH {L : List (Nat × Int)} {k : Nat} (ho : (iH L).Pairwise (fun a b => a.1 ≠ b.1)) : oH (cutL L k) = cutK (oH L) k := by
  have h := cutL_iH (k := k) ho
  rw [cut_iH] at h
  rw [iH_inj h, cut_oH]
theorem ob_tossS {p : Rb} (h : p.ib.ok) : (rtossS p).ob = itossS p.ob := by
  unfold rtossS itossS
  simp only [Rb.ob]
  rw [cutL_oH h.once]
theorem ob_popS {p : Rb} (h : p.ib.ok) : (rpopS p).ob = ipopS p.ob := by
  unfold rpopS ipopS
  rw [ob_hd]
  split
  · simp only [Rb.ob]
    rw [cutL_oH h.once]
  · rfl
theorem ob_held (p : Rb) : heldL p.ob = heldL p.ib := by
  unfold heldL
  show List.mergeSort ((oH p.L).map _) _ = List.mergeSort ((iH p.L).map _) _
  unfold oH iH
  rw [List.map_map, List.map_map]
  rfl
theorem find_oH (L : List (Nat × Int)) (k : Nat) : (atK (iH L) k iz = iz ∧ hasK (iH L) k = false ∧ atK (oH L) k oz = oz) ∨ ∃ z, hasK (iH L) k = true ∧ atK (iH L) k iz = .int .i64 z ∧ atK (oH L) k oz = opV z := by
  unfold atK
  have h1 : (iH L).find? (fun q => q.1 == k) = (L.find? (fun q => q.1 == k)).map (fun q => (q.1, .int .i64 q.2)) := by
    unfold iH; rw [List.find?_map]; rfl
  have h2 : (oH L).find? (fun q => q.1 == k) = (L.find? (fun q => q.1 == k)).map (fun q => (q.1, opV q.2)) := by
    unfold oH; rw [List.find?_map]; rfl
  rw [h1, h2]
  have h3 : hasK (iH L) k = (L.find? (fun q => q.1 == k)).isSome := by
    unfold hasK iH
    rw [List.any_map, Bool.eq_iff_iff, List.find?_isSome, List.any_eq_true]
    rfl
  rw [h3]
  cases L.find? (fun q => q.1 == k) with
  | none => exact .inl ⟨rfl, rfl, rfl⟩
  | some q => exact .inr ⟨q.2, rfl, rfl, rfl⟩

set_option maxHeartbeats 1000000 in
theorem op_any (z : Int) (w : World) : Calls Try.prog 48 #[.int .i64 z] w fun e w' => e = .returned (opV z) ∧ ∃ o, w' = w.alloc o := by
  unfold opV
  go_enter Try.func48, Try.ntmps48
  go_wp2
  refine bodyPost_ret (v := .agg #[.int .i64 (Int.tmod z 3), .int .i64 z, .int .u8 0, .int .i64 0, .int .i64 (wrap64 (-z))]) (by simp [results, Try.results48, go_sem]) rfl ?_
  exact ⟨rfl, _, rfl⟩

end Go.Proofs.Ytpjnhjijipcjkaa
