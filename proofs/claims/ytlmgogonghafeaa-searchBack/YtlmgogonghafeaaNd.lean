/-
  The laws' needle.
-/
import Derived.Test.YtlmgogonghafeaaBt
import Derived.Test.YtlmgogonghafeaaEa
namespace Go.Proofs.Ytlmgogonghafeaa
open Go.RowKit Go.Lib
set_option linter.unusedVariables false

def ndC (c : UInt8) : UInt8 := if c.toNat < 32 ∨ 126 < c.toNat then UInt8.ofNat (32 + c.toNat % 95) else c
def ndP (b : By) : By := if b = [] then [97] else (b.take 64).map ndC
theorem ndC_nat (c : UInt8) : 32 ≤ (ndC c).toNat ∧ (ndC c).toNat ≤ 126 := by
  unfold ndC
  split
  · rename_i h
    rw [UInt8.toNat_ofNat', Nat.mod_eq_of_lt (by omega)]
    omega
  · rename_i h
    omega
theorem ndP_len (b : By) : 1 ≤ (ndP b).length ∧ (ndP b).length ≤ 64 := by
  unfold ndP
  split
  · simp
  · rename_i h
    have : 0 < b.length := List.length_pos_iff.2 h
    simp
    omega
theorem ndP_chars (b : By) : ∀ c ∈ ndP b, 32 ≤ c.toNat ∧ c.toNat ≤ 126 := by
  intro c hc
  unfold ndP at hc
  split at hc
  · simp at hc
    subst hc
    decide
  · obtain ⟨x, -, rfl⟩ := List.mem_map.1 hc
    exact ndC_nat x

/-- How far the loop has come. -/
def ndK (b : By) (k : Nat) : By := (b.take k).map ndC ++ b.drop k
theorem ndK_len (b : By) (k : Nat) : (ndK b k).length = b.length := by simp [ndK]; omega
theorem ndK_zero (b : By) : ndK b 0 = b := by simp [ndK]
theorem ndK_get (b : By) (k : Nat) (h : k < b.length) : (ndK b k)[k]? = some b[k] := by
  unfold ndK
  rw [List.getElem?_append_right (by simp; omega)]
  simp [Nat.min_eq_left (Nat.le_of_lt h), h]
theorem ndK_succ (b : By) (k : Nat) (h : k < b.length) : ndK b (k + 1) = (ndK b k).set k (ndC b[k]) := by
  unfold ndK
  rw [List.set_append_right _ _ (by simp; omega), List.take_succ_eq_append_getElem h, List.map_append, List.append_assoc]
  congr 1
  have e : k - (List.map ndC (List.take k b)).length = 0 := by simp; omega
  rw [e, List.drop_eq_getElem_cons h]
  rfl
theorem ndK_same (b : By) (k : Nat) (h : k < b.length) (hc : ndC b[k] = b[k]) : ndK b (k + 1) = ndK b k := by
  rw [ndK_succ b k h, hc]
  apply List.ext_getElem?
  intro i
  rw [List.getElem?_set]
  split
  · rename_i e
    subst e
    rw [ndK_get b k h]
    simp [ndK_len, h]
  · rfl
theorem ndK_take (b : By) (n : Nat) (h : n ≤ b.length) : (ndK b n).take n = (b.take n).map ndC := by
  unfold ndK
  have e : ((b.take n).map ndC).length = n := by simp; omega
  rw [List.take_append_of_le_length (by omega), List.take_of_length_le (by omega)]

/-- Within the loop. -/
def NdS (w : World) (b : By) (z k : Nat) (W : World) : Prop := BRow W w.heap.size (ndK b k) z ∧ Below w.heap.size w W
theorem NdS.step {w W : World} {b : By} {z k : Nat} (h : NdS w b z k W) (hk : k < b.length) (c : UInt8) (hc : ndC b[k] = c) : NdS w b z (k + 1) (W.setCell ⟨w.heap.size, k, none⟩ (ub c)) := by
  refine ⟨?_, h.2.setCell (Nat.le_refl _) _⟩
  rw [ndK_succ b k hk, hc]
  exact h.1.set k (by rw [ndK_len]; exact hk) c

theorem nd_val (C : Nat) (h : C < 256) : IntKind.u8.wrap (32 + (C : Int) % 95) = ((32 + C % 95 : Nat) : Int) := by
  simp [IntKind.wrap, IntKind.bits, IntKind.signed]
  omega

set_option maxRecDepth 100000 in
set_option maxHeartbeats 4000000 in
theorem needle_any (s : ByteArray) (w : World) (hs : s.size ≤ 9223372036854775807) : Calls Try.prog 11 #[.string s] w fun e w' => e = .returned (.string (bsA (ndP s.data.toList))) ∧ Below w.heap.size w w' := by
  have hcv := Go.Lib.run_convert_string_bytes (P := Try.prog) w 9 41 5 s Try.underlying9 Try.underlying41 Try.underlying5
  have hg1 : s.size ≤ grownCap w s.size 0 5 := grownCap_ge w s.size 0 5
  have hg2 : grownCap w s.size 0 5 ≤ 9223372036854775807 := grownCap_le_maxLen w s.size 0 5 hs
  have R0 := bytes_row w s
  have B0 := bytes_below w s
  have HL : Hid (s.data.toList.length = s.size) := by show _ = _; simp
  generalize grownCap w s.size 0 5 = G at *
  generalize bytesWorld w 5 s = w1 at *
  have S0 : Hid (NdS w s.data.toList (G - s.size) 0 w1) := ⟨by rw [ndK_zero]; exact R0, B0⟩
  clear R0 B0
  obtain ⟨n, hn⟩ : ∃ n, Hid (n = min s.size 64) := ⟨_, rfl⟩
  go_enter Try.func11, Try.ntmps11
  go_upto_if 9 with (simp only [hcv])
  go_cut [3] (fun v wx => v = .slice (some ⟨w.heap.size, 0, none⟩) n G ∧ wx = w1)
  case first =>
    clear hcv S0
    by_cases h : 64 < s.size
    · have hn2 : n = 64 := by have := hn.out; omega
      have h64 : (64 : Int) < (s.size : Int) := by omega
      have hG : 64 ≤ G := by omega
      have hG2 : (64 : Int) ≤ (G : Int) := by omega
      have HN := hd hn2
      clear hn2
      go_wp2
      go_meet
      exact ⟨by rw [HN.out], rfl⟩
    · have hn2 : n = s.size := by have := hn.out; omega
      have h64 : (s.size : Int) ≤ 64 := by omega
      have HN := hd hn2
      clear hn2
      go_wp2
      go_meet
      exact ⟨by rw [HN.out], rfl⟩
  case rest =>
    obtain ⟨rfl, rfl⟩ := hcut
    have hnG : n ≤ G := by have := hn.out; omega
    have hns : Hid (n ≤ s.data.toList.length) := by show _ ≤ _; have := hn.out; have := HL.out; omega
    have hn64 : n ≤ 64 := by have := hn.out; omega
    clear hcv hg1
    have HS := hd hs
    have HG2 := hd hg2
    clear hs hg2
    go_wp2
    go_loopw [4] (fun i wr => ∃ k : Nat, k ≤ n ∧ i = .int .i64 k ∧ Hid (NdS w s.data.toList (G - s.size) k wr)) (fun i _ => n - (intOf i).toNat)
    case atStart => exact ⟨0, Nat.zero_le _, rfl, S0⟩
    case round =>
      obtain ⟨k, hk, rfl, hS⟩ := hrel
      clear S0
      by_cases hlt : k < n
      · have hkl : k < s.data.toList.length := by have := hns.out; omega
        obtain ⟨c, hc⟩ : ∃ c : UInt8, s.data.toList[k] = c := ⟨_, rfl⟩
        have ck := hS.out.1.cell k (by rw [ndK_len]; exact hkl)
        have fk := hS.out.1.frozen k (by rw [ndK_len]; exact hkl)
        have e1 : (ndK s.data.toList k)[k]'(by rw [ndK_len]; exact hkl) = c := by
          have h := ndK_get s.data.toList k hkl
          rw [List.getElem?_eq_getElem (by rw [ndK_len]; exact hkl), hc] at h
          exact Option.some.inj h
        rw [e1] at ck
        have HC := hd hc
        unfold ub at ck
        obtain ⟨C, hC⟩ : ∃ C : Nat, c.toNat = C := ⟨_, rfl⟩
        have hC2 : C < 256 := by rw [← hC]; exact UInt8.toNat_lt _
        rw [hC] at ck
        have HCC := hd hC
        have i1 : (k : Int) < (n : Int) := by omega
        have nv := nd_val C hC2
        clear hc hC e1
        by_cases hb : C < 32 ∨ 126 < C
        · have Z : Hid (NdS w s.data.toList (G - s.size) (k + 1) (wr.setCell ⟨w.heap.size, k, none⟩ (.int .u8 ((32 + C % 95 : Nat) : Int)))) := by
            have hb2 : ndC c = UInt8.ofNat (32 + C % 95) := by
              unfold ndC
              rw [HCC.out, if_pos hb]
            have := hS.out.step (by have := hns.out; omega) (UInt8.ofNat (32 + C % 95)) (by rw [HC.out]; exact hb2)
            have e : ub (UInt8.ofNat (32 + C % 95)) = .int .u8 ((32 + C % 95 : Nat) : Int) := by
              unfold ub
              rw [UInt8.toNat_ofNat', Nat.mod_eq_of_lt (by omega)]
            rw [e] at this
            exact this
          generalize hV : 32 + C % 95 = V at *
          rcases hb with hb | hb
          · have hb' : (C : Int) < 32 := by omega
            clear hS
            go_wp2
            exact ⟨⟨k + 1, by omega, by go_num, Z⟩, by simp [intOf]; omega⟩
          · have hb' : (126 : Int) < (C : Int) := by omega
            have hb'' : ¬ (C : Int) < 32 := by omega
            clear hS
            go_wp2
            exact ⟨⟨k + 1, by omega, by go_num, Z⟩, by simp [intOf]; omega⟩
        · have Z : Hid (NdS w s.data.toList (G - s.size) (k + 1) wr) := by
            have hb2 : ndC c = c := by
              unfold ndC
              rw [HCC.out, if_neg hb]
            refine ⟨?_, hS.out.2⟩
            rw [ndK_same _ _ (by have := hns.out; omega) (by rw [HC.out]; exact hb2)]
            exact hS.out.1
          have hb' : ¬ (C : Int) < 32 := by omega
          have hb'' : ¬ (126 : Int) < (C : Int) := by omega
          clear hS
          go_wp2
          exact ⟨⟨k + 1, by omega, by go_num, Z⟩, by simp [intOf]; omega⟩
      · obtain rfl : k = n := by omega
        have B := hd hS.out.2
        have et : s.data.toList.take k = s.data.toList.take 64 := by
          have h1 := hn.out
          have h2 := HL.out
          by_cases h : s.size ≤ 64
          · rw [List.take_of_length_le (by omega), List.take_of_length_le (by omega)]
          · rw [show k = 64 by omega]
        by_cases h0 : k = 0
        · have hb : s.data.toList = [] := List.length_eq_zero_iff.1 (by have h1 := hn.out; have h2 := HL.out; omega)
          have e : Hid (bsA (ndP s.data.toList) = { data := #[97] }) := by
            show _ = _
            rw [hb]
            rfl
          subst h0
          clear hS et hb
          go_wp2
          go_ret
          exact ⟨by show Ending.returned (Value.string { data := #[97] }) = _; rw [e.out], B.out⟩
        · have hst := run_str wr w.heap.size 0 k G ((s.data.toList.take k).map ndC) (by rw [List.length_map, List.length_take]; have := hns.out; omega) (fun j hj => by
            have hjk : j < k := by simp at hj; omega
            have hjl : j < s.data.toList.length := by have := hns.out; omega
            rw [Nat.zero_add, hS.out.1.cell j (by rw [ndK_len]; exact hjl)]
            congr 2
            have h := ndK_take s.data.toList k hns.out
            have h2 : ((ndK s.data.toList k).take k)[j]? = (((s.data.toList.take k).map ndC))[j]? := by rw [h]
            rw [List.getElem?_take, if_pos hjk, List.getElem?_eq_getElem (by rw [ndK_len]; exact hjl), List.getElem?_eq_getElem hj] at h2
            exact Option.some.inj h2)
          have e : Hid (bsA ((s.data.toList.take k).map ndC) = bsA (ndP s.data.toList)) := by
            show _ = _
            unfold ndP
            rw [if_neg (fun h => h0 (by have h1 := hn.out; have h2 := HL.out; rw [h] at h2; simp at h2; omega)), et]
          have hk0 : ¬ ((k : Int) = 0) := by omega
          clear hS et
          generalize bsA ((s.data.toList.take k).map ndC) = SS at *
          go_wp2_with (simp only [hst])
          go_ret
          exact ⟨by show Ending.returned (Value.string SS) = _; rw [e.out], B.out⟩
end Go.Proofs.Ytlmgogonghafeaa
