/-
  The laws' needle.
-/
import Derived.Test.YtlmgogonghafeabBt
import Derived.Test.YtlmgogonghafeabEa
namespace Go.Proofs.Ytlmgogonghafeab
open Go.RowKit Go.Lib
set_option linter.unusedVariables false

def ndC (c : UInt8) : UInt8 := if c.toNat < 32 ∨ 126 < c.toNat then UInt8.ofNat (32 + c.toNat % 95) else c
def ndP (b : By) : By := if b = [] then [97] else (b.take 64).map ndC
theorem ndC_nat (c : UInt8) : 32 ≤ (ndC c).toNat ∧ (ndC c).toNat ≤ 126 := by
  unfold ndC
  split
  · rename_i h
    rw [UInt8.toNat_ofNat', Nat.mod_eq_of_lt (by omega)]
    omega
  · rename_i h
    omega
theorem ndP_len (b : By) : 1 ≤ (ndP b).length ∧ (ndP b).length ≤ 64 := by
  unfold ndP
  split
  · simp
  · rename_i h
    have : 0 < b.length := List.length_pos_iff.2 h
    simp
    omega
theorem ndP_chars (b : By) : ∀ c ∈ ndP b, 32 ≤ c.toNat ∧ c.toNat ≤ 126 := by
  intro c hc
  unfold ndP at hc
  split at hc
  · simp at hc
    subst hc
    decide
  · obtain ⟨x, -, rfl⟩ := List.mem_map.1 hc
    exact ndC_nat x

/-- How far the loop has come. -/
def ndK (b : By) (k : Nat) : By := (b.take k).map ndC ++ b.drop k
theorem ndK_len (b : By) (k : Nat) : (ndK b k).length = b.length := by simp [ndK]; omega
theorem ndK_zero (b : By) : ndK b 0 = b := by simp [ndK]
theorem ndK_get (b : By) (k : Nat) (h : k < b.length) : (ndK b k)[k]? = some b[k] := by
  unfold ndK
  rw [List.getElem?_append_right (by simp; omega)]
  simp [Nat.min_eq_left (Nat.le_of_lt h), h]
theorem ndK_succ (b : By) (k : Nat) (h : k < b.length) : ndK b (k + 1) = (ndK b k).set k (ndC b[k]) := by
  unfold ndK
  rw [List.set_append_right _ _ (by simp; omega), List.take_succ_eq_append_getElem h, List.map_append, List.append_assoc]
  congr 1
  have e : k - (List.map ndC (List.take k b)).length = 0 := by simp; omega
  rw [e, List.drop_eq_getElem_cons h]
  rfl
theorem ndK_same (b : By) (k : Nat) (h : k < b.length) (hc : ndC b[k] = b[k]) : ndK b (k + 1) = ndK b k := by
  rw [ndK_succ b k h, hc]
  apply List.ext_getElem?
  intro i
  rw [List.getElem?_set]
  split
  · rename_i e
    subst e
    rw [ndK_get b k h]
    simp [ndK_len, h]
  · rfl
theorem ndK_take (b : By) (n : Nat) (h : n ≤ b.length) : (ndK b n).take n = (b.take n).map ndC := by
  unfold ndK
  have e : ((b.take n).map ndC).length = n := by simp; omega
  rw [List.take_append_of_le_length (by omega), List.take_of_length_le (by omega)]

/-- Within the loop. -/
def NdS (w : World) (b : By) (z k : Nat) (W : World) : Prop := BRow W w.heap.size (ndK b k) z ∧ Below w.heap.size w W
theorem NdS.step {w W : World} {b : By} {z k : Nat} (h : NdS w b z k W) (hk : k < b.length) (c : UInt8) (hc : ndC b[k] = c) : NdS w b z (k + 1) (W.setCell ⟨w.heap.size, k, none⟩ (ub c)) := by
  refine ⟨?_, h.2.setCell (Nat.le_refl _) _⟩
  rw [ndK_succ b k hk, hc]
  exact h.1.set k (by rw [ndK_len]; exact hk) c

theorem nd_val (C : Nat) (h : C < 256) : IntKind.u8.wrap (32 + (C : Int) % 95) = ((32 + C % 95 : Nat) : Int) := by
  simp [IntKind.wrap, IntKind.bits, IntKind.signed]
  omega

end Go.Proofs.Ytlmgogonghafeab
