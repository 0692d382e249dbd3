/-
  The law's without.
-/
import Derived.Test.YtlmgogonghafeaaSk
namespace Go.Proofs.Ytlmgogonghafeaa
open Go.RowKit Go.Lib
set_option linter.unusedVariables false

def woP (s : By) (c : Nat) : By := s.filter (fun x => decide (x.toNat ≠ c))
theorem woP_succ {s : By} {c i : Nat} (h : i < s.length) : woP (s.take (i + 1)) c = if s[i].toNat = c then woP (s.take i) c else woP (s.take i) c ++ [s[i]] := by
  unfold woP
  rw [List.take_succ_eq_append_getElem h, List.filter_append]
  by_cases e : s[i].toNat = c
  · rw [if_pos e, List.filter_cons_of_neg (by simp [e])]
    simp
  · rw [if_neg e, List.filter_cons_of_pos (by simpa using e)]
    simp

set_option maxRecDepth 100000 in
set_option maxHeartbeats 4000000 in
theorem without_any (s : ByteArray) (c : Nat) (w : World) (hs : s.size ≤ 1000000000) :
    Calls Try.prog 23 #[.string s, .int .u8 (c : Int)] w fun e w' => e = .returned (.string (bsA (woP s.data.toList c))) ∧ Below w.heap.size w w' := by
  have TL : Hid (s.data.toList.length = s.size) := by show _ = _; simp
  go_enter Try.func23, Try.ntmps23
  go_upto_region 3 with fail
  go_loopw [5, 6] (fun v iv wr => ∃ i : Nat, i ≤ s.size ∧ iv = .int .i64 i ∧ Hid (BsI w wr v (woP (s.data.toList.take i) c))) (fun _ iv _ => s.size - (intOf iv).toNat)
  case atStart => exact ⟨0, Nat.zero_le _, rfl, BsI.nil w⟩
  case round =>
    obtain ⟨i, hi, rfl, HB⟩ := hrel
    by_cases hlt : i < s.size
    · have hil : i < s.data.toList.length := by rw [TL.out]; exact hlt
      have WS := hd (woP_succ (c := c) hil)
      rw [gets s i hlt] at WS
      have hbl : (woP (s.data.toList.take i) c).length ≤ 1000000000 := by
        have h1 := List.length_filter_le (fun x : UInt8 => decide (x.toNat ≠ c)) (s.data.toList.take i)
        rw [List.length_take] at h1
        unfold woP
        omega
      obtain ⟨v', w', hr, hB'⟩ := HB.out.byte (s[i]'hlt) hbl
      obtain ⟨X, hX⟩ : ∃ X : Nat, (s[i]'hlt).toNat = X := ⟨_, rfl⟩
      rw [hX] at WS hr
      by_cases hc : X = c
      · rw [if_pos hc] at WS
        rw [← WS.out] at HB
        have hc2 : (X : Int) = (c : Int) := by omega
        clear hB' hr WS hbl hc
        go_wp2
        exact ⟨⟨i + 1, by omega, by go_num, HB⟩, by simp only [intOf]; omega⟩
      · rw [if_neg hc] at WS
        have Z : Hid (BsI w w' v' (woP (s.data.toList.take (i + 1)) c)) := by
          show BsI _ _ _ _
          rw [WS.out]
          exact hB'
        have hc2 : ¬ (X : Int) = (c : Int) := by omega
        clear hB' HB WS hbl hc
        go_wp2_with (at_builtin; refine wpList_append_k _ rfl _ _ 41 41 rfl _ _ rfl rfl (hr _) ?_)
        exact ⟨⟨i + 1, by omega, by go_num, Z⟩, by simp only [intOf]; omega⟩
    · obtain rfl : i = s.size := by omega
      have hst := HB.out.text
      have B := hd HB.out.2
      rw [← TL.out, List.take_length] at hst
      clear HB
      go_wp2_with (simp only [hst])
      go_ret
      exact ⟨rfl, B.out⟩
end Go.Proofs.Ytlmgogonghafeaa
