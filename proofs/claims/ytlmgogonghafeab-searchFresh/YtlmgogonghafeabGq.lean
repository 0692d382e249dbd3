/-
  New: an index of one's own.
-/
import Derived.Test.YtlmgogonghafeabGf
namespace Go.Proofs.Ytlmgogonghafeab
open Go.RowKit Go.Lib
set_option linter.unusedVariables false

/-- The pieces that lay makes are one's own. -/
theorem lay_own {w W : World} {g z k : Nat} {b : By} {v : Value} (h : LyS w g b z k v W) (hb : b.length ≤ 9000000000000000000) (hk : 128 * k ≤ b.length + 127) :
    ∃ β, SF pcv 1 W 35 β v (pcsG g b k) ∧ (∀ h, β = some h → w.heap.size ≤ h) ∧ (∀ q ∈ pcsG g b k, PcO W q ∧ (0 < q.bs.length ∧ q.bs.length ≤ 128) ∧ w.heap.size ≤ q.b) ∧ (pcsG g b k).Pairwise Aprt := by
  obtain ⟨β, h1, h2, h3, h4, h5⟩ := h
  refine ⟨β, h1, fun h hh => (h2 h hh).1, ?_, ?_⟩
  · intro q hq
    obtain ⟨j, hj, rfl⟩ := List.mem_map.1 hq
    have hj' : j < k := List.mem_range.1 hj
    have hlen : ((b.drop (128 * j)).take 128).length = min 128 (b.length - 128 * j) := by simp
    refine ⟨⟨(b.length + z, b.length + z + 1), (b.take (128 * j)).map ub, [], (b.drop (128 * j + 128)).map ub ++ List.replicate z (Value.int .u8 0), ⟨?_, ?_⟩, ?_, ?_, ?_⟩, ⟨?_, ?_⟩, h5⟩
    · show W.heap[g]? = _
      rw [h3]
      congr 3
      rw [List.nil_append, ← List.append_assoc, ← List.append_assoc]
      congr 1
      rw [← List.map_append, ← List.map_append]
      congr 1
      show b = b.take (128 * j) ++ (b.drop (128 * j)).take 128 ++ b.drop (128 * j + 128)
      rw [List.append_assoc, ← List.drop_drop, List.take_append_drop, List.take_append_drop]
    · right
      show _ ≤ b.length + z
      simp only [List.length_append, List.length_map, List.length_nil, List.length_replicate, List.length_drop]
      show (List.take (128 * j) b).length + (((b.drop (128 * j)).take 128).length + (0 + (b.length - (128 * j + 128) + z))) ≤ b.length + z
      rw [hlen, List.length_take]
      omega
    · show ((b.take (128 * j)).map ub).length = 128 * j
      simp
      omega
    · show ((b.drop (128 * j)).take 128).length + 0 = ((b.drop (128 * j)).take 128).length
      omega
    · show ((b.drop (128 * j)).take 128).length ≤ _
      omega
    · show 0 < ((b.drop (128 * j)).take 128).length
      omega
    · show ((b.drop (128 * j)).take 128).length ≤ 128
      omega
  · unfold pcsG
    rw [List.pairwise_map]
    refine List.Pairwise.imp (R := fun a b => a < b) ?_ List.pairwise_lt_range
    intro i j hij
    right
    left
    show 128 * i + ((b.drop (128 * i)).take 128).length ≤ 128 * j
    simp
    omega

set_option maxRecDepth 100000 in
set_option maxHeartbeats 4000000 in
theorem lay_mine (a : Option Addr) (n c : Nat) (xs : List El) (w : World) (hE : IsE w a n c xs) (hn : n * 24 ≤ 140737488351232) :
    Calls Try.prog 20 #[.slice a n c] w fun e w' => ∃ a' k c' ps β, e = .returned (.slice a' k c') ∧ SF pcv 1 w' 35 β (.slice a' k c') ps ∧ (∀ h, β = some h → w.heap.size ≤ h) ∧ (∀ q ∈ ps, PcO w' q ∧ (0 < q.bs.length ∧ q.bs.length ≤ 128) ∧ w.heap.size ≤ q.b) ∧ ps.Pairwise Aprt ∧ txP ps = tB xs ∧ Below w.heap.size w w' := by
  have CT := hd (text_any a n c xs w hE hn)
  have HL : Hid ((bsA (tB xs)).size = n ∧ (tB xs).length = n) := by
    have := hE.1
    rw [bsA_size]
    simp [tB, this, Hid]
  rw [bstr_tB] at CT
  have HN := hd hn
  clear hE hn
  go_enter Try.func20, Try.ntmps20
  go_wp2_with (go_at_call 6; refine CT.out.mono ?_; rintro e w1 ⟨rfl, hb1⟩)
  have hb1' := hd hb1
  have hcv := Go.Lib.run_convert_string_bytes (P := Try.prog) w1 9 35 5 (bsA (tB xs)) Try.underlying9 Try.underlying35 Try.underlying5
  have hg1 : (bsA (tB xs)).size ≤ grownCap w1 (bsA (tB xs)).size 0 5 := grownCap_ge w1 _ 0 5
  have hg2 : grownCap w1 (bsA (tB xs)).size 0 5 ≤ 9223372036854775807 := grownCap_le_maxLen w1 _ 0 5 (by unfold maxLen; have := HL.out.1; have := HN.out; omega)
  have R0 := bytes_row w1 (bsA (tB xs))
  have B0 := bytes_below w1 (bsA (tB xs))
  rw [bsA_list] at R0
  have hs := HL.out.1
  rw [hs] at hcv hg1 hg2 R0
  clear hs
  generalize grownCap w1 n 0 5 = G at *
  generalize bytesWorld w1 5 (bsA (tB xs)) = w2 at *
  have S0 : Hid (LyS w w1.heap.size (tB xs) (G - n) 0 (.slice none 0 0) w2) := ⟨none, ⟨rfl, rfl⟩, fun h hh => (by cases hh), R0, hb1.trans (B0.mono hb1.size), hb1.size⟩
  clear R0 B0 hb1 CT
  go_wp2_with (simp only [hcv])
  generalize w1.heap.size = g at *
  have hn63 : n ≤ 5864062014634 := by have := HN.out; omega
  have HG1 := hd hg1
  clear hcv hg1 hb1'
  go_loopw [3, 5] (fun v f wr => ∃ k F : Nat, 128 * k = F ∧ F ≤ n + 127 ∧ f = .int .i64 ((F : Nat) : Int) ∧ Hid (LyS w g (tB xs) (G - n) k v wr)) (fun _ f _ => n + 127 - (intOf f).toNat)
  case atStart => exact ⟨0, 0, rfl, by omega, rfl, S0⟩
  case round =>
    obtain ⟨k, F, hF, hFn, rfl, hS⟩ := hrel
    clear S0
    by_cases hlt : F < n
    · obtain ⟨t, ht⟩ : ∃ t, t = min (F + 128) n := ⟨_, rfl⟩
      obtain ⟨v', w', hrun, hS2⟩ := hS.out.push (by omega)
      have ev : (pcG g (tB xs) k).val = .slice (some ⟨g, F, none⟩) (t - F) (t - F) := by
        unfold pcG Pc.val
        have e : (((tB xs).drop (128 * k)).take 128).length = t - F := by
          rw [List.length_take, List.length_drop, HL.out.2]
          omega
        rw [hF] at e
        simp only [hF, e]
      rw [ev] at hrun
      have HS2 := hd hS2
      have HF := hd hF
      have h1 : F < t := by omega
      have h2 : t ≤ n := by omega
      have hne : ¬ F = t := by omega
      have h3 : t ≤ G := by have := HG1.out; omega
      have h4 : ((if (F : Int) + 128 ≤ (n : Int) then (F : Int) + 128 else (n : Int))) = (t : Int) := by split <;> omega
      clear ev hS hS2 hF
      by_cases hc : F + 128 ≤ n
      · have ht2 : t = F + 128 := by omega
        subst ht2
        have hc2 : (F : Int) + 128 ≤ (n : Int) := by omega
        rw [show F + 128 - F = 128 by omega] at hrun
        clear h4 ht
        go_wp2_with (at_builtin; refine wpList_append_k _ rfl _ _ 57 57 rfl _ _ rfl rfl (hrun _) ?_)
        exact ⟨⟨k + 1, F + 128, by have := HF.out; omega, by omega, by go_num, HS2⟩, by simp [intOf]; omega⟩
      · have ht2 : t = n := by omega
        subst ht2
        have hc2 : ¬ (F : Int) + 128 ≤ (t : Int) := by omega
        clear h4 ht
        go_wp2_with (at_builtin; refine wpList_append_k _ rfl _ _ 57 57 rfl _ _ rfl rfl (hrun _) ?_)
        exact ⟨⟨k + 1, F + 128, by have := HF.out; omega, by omega, by go_num, HS2⟩, by simp [intOf]; omega⟩
    · obtain ⟨a', c', hv, hP⟩ := hS.out.isP (by rw [HL.out.2]; omega) (by rw [HL.out.2]; omega)
      subst hv
      have HOW := hd (lay_own hS.out (by rw [HL.out.2]; omega) (by rw [HL.out.2]; omega))
      have Z : Hid (txP (pcsG g (tB xs) k) = tB xs ∧ Below w.heap.size w wr) := by
        obtain ⟨β, q1, q2, q3, q4, q5⟩ := hS.out
        exact ⟨by rw [pcsG_tx, hF, List.take_of_length_le (by rw [HL.out.2]; omega)], q4⟩
      clear hS hP
      go_wp2
      go_ret
      obtain ⟨β, o1, o2, o3, o4⟩ := HOW.out
      exact ⟨_, _, _, _, β, rfl, o1, o2, o3, o4, Z.out⟩

set_option maxRecDepth 100000 in
set_option maxHeartbeats 4000000 in
theorem new_own (a : Option Addr) (n c : Nat) (xs : List El) (w : World) (hE : IsE w a n c xs) (hn : n * 24 ≤ 140737488351232) :
    Calls Try.prog 7 #[.slice a n c] w fun e w' => ∃ x, e = .returned (.pointer (some ⟨x, 0, none⟩)) ∧ IM w' (fun k => w.heap.size ≤ k ∧ k < w'.heap.size) x (tB xs) ∧ w.heap.size ≤ x ∧ Below w.heap.size w w' := by
  have CL := hd (lay_mine a n c xs w hE hn)
  have HL : Hid ((tB xs).length = n) := by
    have := hE.1
    simp [tB, this, Hid]
  clear hE hn
  go_enter Try.func7, Try.ntmps7
  go_wp2_with (go_at_call 20; refine CL.out.mono ?_; rintro e w1 ⟨a', k, c', ps, β, rfl, hS, hβ, hP, hT2, hT, hb⟩)
  obtain ⟨W2, hW2⟩ : ∃ W2, W2 = w1.alloc (.cells #[.slice a' k c', .int .i64 ((n : Nat) : Int)] 60) := ⟨_, rfl⟩
  have Z : Hid (IM W2 (fun k => w.heap.size ≤ k ∧ k < W2.heap.size) w1.heap.size (tB xs) ∧ Below w.heap.size w W2) := by
    have b1 : Below w1.heap.size w1 W2 := by rw [hW2]; exact (Below.refl _ _).alloc (Nat.le_refl _) _
    have F1 : Fr (fun _ => False) w1 W2 := Fr.of_below b1
    have hidx : W2.heap[w1.heap.size]? = some (.cells #[.slice a' k c', .int .i64 ((tB xs).length : Int)] 60 (0, 0)) := by
      rw [hW2, HL.out]
      exact heap_alloc_new _ _
    refine ⟨⟨β, _, ps, ⟨hidx, hS.fr F1 (fun _ _ h => h), fun q hq => (hP q hq).1.fr F1 (fun h => h), fun q hq => (hP q hq).2.1, hT2⟩, hT, ?_⟩, hb.trans (b1.mono hb.size)⟩
    intro j hj
    have hlt : j < W2.heap.size := by
      have h0 : PcS W2 w1.heap.size ((tB xs).length : Int) β (.slice a' k c') ps := ⟨hidx, hS.fr F1 (fun _ _ h => h), fun q hq => (hP q hq).1.fr F1 (fun h => h), fun q hq => (hP q hq).2.1, hT2⟩
      exact h0.own_lt j hj
    refine ⟨?_, hlt⟩
    rcases hj with rfl | hj | ⟨q, hq, rfl⟩
    · exact hb.size
    · exact hβ j hj
    · exact (hP q hq).2.2
  subst hW2
  have hsz := hd hb.size
  clear hP hT hb CL hS hβ hT2
  go_wp2
  go_ret
  exact ⟨_, rfl, Z.out.1, hsz.out, Z.out.2⟩
end Go.Proofs.Ytlmgogonghafeab
