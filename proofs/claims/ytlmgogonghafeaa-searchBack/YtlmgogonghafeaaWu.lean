/-
  The law's without, of a text of any length.
-/
import Derived.Test.YtlmgogonghafeaaWt
namespace Go.Proofs.Ytlmgogonghafeaa
open Go.RowKit Go.Lib
set_option linter.unusedVariables false

theorem BsI.byteL {w wr : World} {v : Value} {bs : By} (h : BsI w wr v bs) (x : UInt8) (hs : bs.length ≤ 140737488351232) :
    ∃ v' w', (∀ ty, (Builtin.append_ #[41, 41] ty #[v, .slice (some ⟨wr.heap.size, 0, none⟩) 1 1]).run Try.prog (wr.alloc (.cells #[.int .u8 ((x.toNat : Nat) : Int)] 5)) = .ok v' w') ∧ BsI w w' v' (bs ++ [x]) := by
  obtain ⟨i0, hi0, hz0, hz1, hz2⟩ := info_parts Try.infoB
  have b1 : Below wr.heap.size wr (wr.alloc (.cells #[.int .u8 ((x.toNat : Nat) : Int)] 5)) := (Below.refl _ _).alloc (Nat.le_refl _) _
  have hB : Below w.heap.size w (wr.alloc (.cells #[.int .u8 ((x.toNat : Nat) : Int)] 5)) := h.2.trans (b1.mono h.2.size)
  have hO : (wr.alloc (.cells #[.int .u8 ((x.toNat : Nat) : Int)] 5)).ownsRow w.heap.size 5 1 v bs.length (bs.map ub) := by
    obtain ⟨h1, h2⟩ := h.1
    refine ⟨h1, ?_⟩
    rcases h2 with h2 | ⟨g, cap, cur, e, hg, hh, r⟩
    · exact .inl h2
    · exact .inr ⟨g, cap, cur, e, hg, by rw [b1.block g (block_lt hh)]; exact hh, r⟩
  obtain ⟨v', w', hr, h2, h3, -⟩ := run_append_own (P := Try.prog) (wr.alloc (.cells #[.int .u8 ((x.toNat : Nat) : Int)] 5)) w.heap.size 41 0 5 i0 _ 1 1 Try.underlying41 hi0 hz0 hz1 hz2 rfl (by omega) v bs.length (bs.map ub) hO ⟨wr.heap.size, 0, none⟩ 1 1 [ub x] rfl (fun j u hj => by
    rw [add_lit, Nat.zero_add, cell_row (heap_alloc_new wr _)]
    cases j with
    | zero => simpa [ub] using hj
    | succ j => simp at hj) (fun u hu => by simp at hu; subst hu; rfl) (by unfold maxLen; omega) (by omega) hB.size
  refine ⟨v', w', fun ty => hr, ?_, hB.grown h3 hB.size (fun k hk => (World.ownsRow.lt hO k hk).1)⟩
  rw [List.length_append, List.map_append]
  exact h2

set_option maxRecDepth 100000 in
set_option maxHeartbeats 4000000 in
theorem without_big (s : ByteArray) (c : Nat) (w : World) (hs : s.size ≤ 140737488351232) :
    Calls Try.prog 23 #[.string s, .int .u8 (c : Int)] w fun e w' => e = .returned (.string (bsA (woP s.data.toList c))) ∧ Below w.heap.size w w' := by
  have TL : Hid (s.data.toList.length = s.size) := by show _ = _; simp
  go_enter Try.func23, Try.ntmps23
  go_upto_region 3 with fail
  go_loopw [5, 6] (fun v iv wr => ∃ i : Nat, i ≤ s.size ∧ iv = .int .i64 i ∧ Hid (BsI w wr v (woP (s.data.toList.take i) c))) (fun _ iv _ => s.size - (intOf iv).toNat)
  case atStart => exact ⟨0, Nat.zero_le _, rfl, BsI.nil w⟩
  case round =>
    obtain ⟨i, hi, rfl, HB⟩ := hrel
    by_cases hlt : i < s.size
    · have hil : i < s.data.toList.length := by rw [TL.out]; exact hlt
      have WS := hd (woP_succ (c := c) hil)
      rw [gets s i hlt] at WS
      have hbl : (woP (s.data.toList.take i) c).length ≤ 140737488351232 := by
        have h1 := List.length_filter_le (fun x : UInt8 => decide (x.toNat ≠ c)) (s.data.toList.take i)
        rw [List.length_take] at h1
        unfold woP
        omega
      obtain ⟨v', w', hr, hB'⟩ := HB.out.byteL (s[i]'hlt) hbl
      obtain ⟨X, hX⟩ : ∃ X : Nat, (s[i]'hlt).toNat = X := ⟨_, rfl⟩
      rw [hX] at WS hr
      by_cases hc : X = c
      · rw [if_pos hc] at WS
        rw [← WS.out] at HB
        have hc2 : (X : Int) = (c : Int) := by omega
        clear hB' hr WS hbl hc
        go_wp2
        exact ⟨⟨i + 1, by omega, by go_num, HB⟩, by simp only [intOf]; omega⟩
      · rw [if_neg hc] at WS
        have Z : Hid (BsI w w' v' (woP (s.data.toList.take (i + 1)) c)) := by
          show BsI _ _ _ _
          rw [WS.out]
          exact hB'
        have hc2 : ¬ (X : Int) = (c : Int) := by omega
        clear hB' HB WS hbl hc
        go_wp2_with (at_builtin; refine wpList_append_k _ rfl _ _ 41 41 rfl _ _ rfl rfl (hr _) ?_)
        exact ⟨⟨i + 1, by omega, by go_num, Z⟩, by simp only [intOf]; omega⟩
    · obtain rfl : i = s.size := by omega
      have hst := HB.out.text
      have B := hd HB.out.2
      rw [← TL.out, List.take_length] at hst
      clear HB
      go_wp2_with (simp only [hst])
      go_ret
      exact ⟨rfl, B.out⟩
end Go.Proofs.Ytlmgogonghafeaa
