/-
  DocFresh: changed.
-/
import Derived.Test.YtbgpmekjcepmaabFb
namespace Go.Proofs.Ytbgpmekjcepmaab
open Go.RowKit
set_option linter.unusedVariables false

def KRel (w wr : World) (v : Value) (X : List OpE) (B : Nat → OpE) (j : Nat) : Prop := HRel w wr v (X ++ (List.range j).map B) ∧ True

set_option maxRecDepth 100000 in
set_option maxHeartbeats 8000000 in
theorem changed_zero (ch c : Int) (w : World) (hc : c = 32 + ch % 95) (h0 : 0 ≤ ch) (h1 : ch ≤ 255) (av : Nat → Int) (a0 : av 0 = 0) (a1 : av 1 = 0) (a2 : av 2 = -1)
    (A B : Nat → OpE) (hA : ∀ i, A i = ⟨0, 0, 0, 1, 3⟩) (hB : ∀ i, B i = ⟨1, av i, c, 1, 4⟩) :
    Calls Try.prog 19 #[.int .i64 0, .int .u8 ch] w fun e w' => ∃ v, e = .returned v ∧ HRel w w' v ((List.range 3).map A ++ (List.range 2).map B) := by
  have hcc : 32 + ch % 95 = c := hc.symm
  have HA := hd hA
  have HBB := hd hB
  have bA : Below w.heap.size w (w.alloc (.cells #[.int .i64 0, .int .i64 0, .int .i64 (-1)] 3)) := (Below.refl _ _).alloc (Nat.le_refl _) _
  have CW : Hid (∀ i, i < 3 → (w.alloc (.cells #[.int .i64 0, .int .i64 0, .int .i64 (-1)] 3)).cell? ⟨w.heap.size, i, none⟩ = some (.int .i64 (av i))) := by
    intro i hi
    rw [cell_row (heap_alloc_new _ _)]
    match i, hi with
    | 0, _ => rw [a0]; rfl
    | 1, _ => rw [a1]; rfl
    | 2, _ => rw [a2]; rfl
  have BA := hd bA
  have S0 : Hid (HRel (w.alloc (.cells #[.int .i64 0, .int .i64 0, .int .i64 (-1)] 3)) (w.alloc (.cells #[.int .i64 0, .int .i64 0, .int .i64 (-1)] 3)) (.slice none 0 0) []) := ⟨none, ⟨rfl, rfl⟩, fun g h => (by cases h), Below.refl _ _⟩
  have SZ : Hid ((w.alloc (.cells #[.int .i64 0, .int .i64 0, .int .i64 (-1)] 3)).heap.size = w.heap.size + 1) := by
    show _ = _
    simp
  clear hc hA hB bA a0 a1 a2
  go_enter Try.func19, Try.ntmps19
  go_wp2
  generalize w.alloc (.cells #[.int .i64 0, .int .i64 0, .int .i64 (-1)] 3) = w1 at *
  go_loopw [5, 7] (fun l i wr => ∃ k : Nat, k ≤ 3 ∧ i = .int .i64 k ∧ Hid (HRel w1 wr l ((List.range k).map A))) (fun _ i _ => 3 - (intOf i).toNat)
  case atStart => exact ⟨0, Nat.zero_le _, rfl, S0⟩
  case round =>
    obtain ⟨k, hk, rfl, hr⟩ := hrel
    clear S0
    obtain ⟨β, r1, r2, r3⟩ := hr.out
    obtain ⟨la, lc, rfl, -⟩ := r1.formN (n := k) (by simp)
    by_cases hlt : k < 3
    · have i1 : (k : Int) < 3 := by omega
      have c0 := (r3.cell (p := ⟨w.heap.size, k, none⟩) (show w.heap.size < w1.heap.size by have := SZ.out; omega)).trans (CW.out k hlt)
      have gk : w.heap.size < wr.heap.size := by have := SZ.out; have := r3.size; omega
      clear r1 r2 r3
      obtain ⟨v', w3, hap, hH, -⟩ := (hr.out.below ((Below.refl wr.heap.size wr).alloc (Nat.le_refl _) (.cells (opc (A k)).toArray 29))).push (A k) (by simp; omega)
      rw [range_snoc] at hH
      have H3 := hd hH
      have eA : A k = ⟨0, 0, 0, 1, 3⟩ := HA.out k
      rw [eA] at hap
      simp only [opc, World.size_alloc] at hap
      clear hr hH eA HA HBB CW
      go_wp2_with (at_builtin; refine wpList_append_k _ rfl _ _ 23 23 rfl _ _ rfl rfl (hap _) ?_)
      exact ⟨⟨k + 1, by omega, by go_num, H3⟩, by simp [intOf]; omega⟩
    · have hk3 : k = 3 := by omega
      have HK3 := hd hk3
      have i1 : ¬ (k : Int) < 3 := by omega
      have HR := hd hr.out
      have CW0 := hd CW.out
      generalize hX : (List.range k).map A = X at *
      have LX : Hid (X.length = k) := by
        show _ = _
        rw [← hX]; simp
      have HX : Hid (X = (List.range 3).map A) := by rw [← hX, hk3]; exact (rfl : _ = _)
      have T0 : Hid (KRel w1 wr (.slice la k lc) X B 0) := ⟨by simpa using HR.out, trivial⟩
      clear hr r1 r2 r3 HR CW hX HA hk3
      go_wp2
      go_loopw [5, 9] (fun l i wq => ∃ j : Nat, j ≤ 2 ∧ i = .int .i64 j ∧ Hid (KRel w1 wq l X B j)) (fun _ i _ => 2 - (intOf i).toNat)
      case atStart => exact ⟨0, Nat.zero_le _, rfl, T0⟩
      case round =>
        obtain ⟨j, hj, rfl, hq⟩ := hrel
        clear T0
        obtain ⟨β, r1, r2, r3⟩ := hq.out.1
        obtain ⟨qa, qc, rfl, -⟩ := r1.formN (n := k + j) (by have := LX.out; simp; omega)
        by_cases hjl : j < 2
        · have i1 : (j : Int) < 2 := by omega
          have i3 : (j : Int) < 3 := by omega
          have c0 := (r3.cell (p := ⟨w.heap.size, j, none⟩) (show w.heap.size < w1.heap.size by have := SZ.out; omega)).trans (CW0.out j (by omega))
          have gk : w.heap.size < wr.heap.size := by have := SZ.out; have := r3.size; omega
          clear r1 r2 r3
          obtain ⟨v', w3, hap, hH, -⟩ := hq.out.1.push (B j) (by have := LX.out; simp; omega)
          have H3 : Hid (HRel w1 w3 v' (X ++ (List.range (j + 1)).map B)) := by
            rw [List.append_assoc, range_snoc] at hH
            exact hH
          have eB : B j = ⟨1, av j, c, 1, 4⟩ := HBB.out j
          rw [eB] at hap
          simp only [opc] at hap
          clear hq hH eB HBB CW0
          go_wp2_with (at_builtin; refine wpList_append_k _ rfl _ _ 23 23 rfl _ _ rfl rfl (hap _) ?_)
          have K3 : Hid (KRel w1 w3 v' X B (j + 1)) := ⟨H3.out, trivial⟩
          clear H3
          exact ⟨⟨j + 1, by omega, by go_num, K3⟩, by simp [intOf]; omega⟩
        · have i2 : ¬ (j : Int) < 2 := by omega
          have R : Hid (HRel w wr (.slice qa (k + j) qc) ((List.range 3).map A ++ (List.range 2).map B)) := by
            have h := hq.out.1.of BA.out
            have e : X ++ (List.range j).map B = (List.range 3).map A ++ (List.range 2).map B := by rw [HX.out, show j = 2 by omega]
            rw [e] at h
            exact h
          clear hq r1 r2 r3
          go_wp2
          go_ret
          exact ⟨.slice qa (k + j) qc, rfl, R.out⟩


set_option maxRecDepth 100000 in
set_option maxHeartbeats 8000000 in
theorem changed_pos (n h : Nat) (m : Int) (ch c : Int) (w : World) (hc : c = 32 + ch % 95) (h0 : 0 ≤ ch) (h1 : ch ≤ 255) (hn : n ≤ 300) (hp : 0 < n) (hh : (n : Int) / 2 = (h : Int)) (hm : (n : Int) - 1 = m) (av : Nat → Int) (a0 : av 0 = 0) (a1 : av 1 = (h : Int)) (a2 : av 2 = m)
    (A B : Nat → OpE) (hA : ∀ i, A i = ⟨2, av i, 0, 1, 3⟩) (hB : ∀ i, B i = ⟨1, av i, c, 1, 4⟩) :
    Calls Try.prog 19 #[.int .i64 n, .int .u8 ch] w fun e w' => ∃ v, e = .returned v ∧ HRel w w' v ((List.range 3).map A ++ (List.range 2).map B) := by
  have hcc : 32 + ch % 95 = c := hc.symm
  have HA := hd hA
  have HBB := hd hB
  have bA : Below w.heap.size w (w.alloc (.cells #[.int .i64 0, .int .i64 h, .int .i64 m] 3)) := (Below.refl _ _).alloc (Nat.le_refl _) _
  have CW : Hid (∀ i, i < 3 → (w.alloc (.cells #[.int .i64 0, .int .i64 h, .int .i64 m] 3)).cell? ⟨w.heap.size, i, none⟩ = some (.int .i64 (av i))) := by
    intro i hi
    rw [cell_row (heap_alloc_new _ _)]
    match i, hi with
    | 0, _ => rw [a0]; rfl
    | 1, _ => rw [a1]; rfl
    | 2, _ => rw [a2]; rfl
  have BA := hd bA
  have S0 : Hid (HRel (w.alloc (.cells #[.int .i64 0, .int .i64 h, .int .i64 m] 3)) (w.alloc (.cells #[.int .i64 0, .int .i64 h, .int .i64 m] 3)) (.slice none 0 0) []) := ⟨none, ⟨rfl, rfl⟩, fun g h => (by cases h), Below.refl _ _⟩
  have SZ : Hid ((w.alloc (.cells #[.int .i64 0, .int .i64 h, .int .i64 m] 3)).heap.size = w.heap.size + 1) := by
    show _ = _
    simp
  clear hc hA hB bA a0 a1 a2
  go_enter Try.func19, Try.ntmps19
  go_wp2
  generalize w.alloc (.cells #[.int .i64 0, .int .i64 h, .int .i64 m] 3) = w1 at *
  go_loopw [5, 7] (fun l i wr => ∃ k : Nat, k ≤ 3 ∧ i = .int .i64 k ∧ Hid (HRel w1 wr l ((List.range k).map A))) (fun _ i _ => 3 - (intOf i).toNat)
  case atStart => exact ⟨0, Nat.zero_le _, rfl, S0⟩
  case round =>
    obtain ⟨k, hk, rfl, hr⟩ := hrel
    clear S0
    obtain ⟨β, r1, r2, r3⟩ := hr.out
    obtain ⟨la, lc, rfl, -⟩ := r1.formN (n := k) (by simp)
    by_cases hlt : k < 3
    · have i1 : (k : Int) < 3 := by omega
      have c0 := (r3.cell (p := ⟨w.heap.size, k, none⟩) (show w.heap.size < w1.heap.size by have := SZ.out; omega)).trans (CW.out k hlt)
      have gk : w.heap.size < wr.heap.size := by have := SZ.out; have := r3.size; omega
      clear r1 r2 r3
      have hz : ¬ n = 0 := by omega
      obtain ⟨v', w3, hap, hH, -⟩ := (hr.out.below ((Below.refl wr.heap.size wr).alloc (Nat.le_refl _) (.cells (opc (A k)).toArray 29))).push (A k) (by simp; omega)
      rw [range_snoc] at hH
      have H3 := hd hH
      have eA : A k = ⟨2, av k, 0, 1, 3⟩ := HA.out k
      rw [eA] at hap
      simp only [opc, World.size_alloc] at hap
      have hz' : ((n : Int) == 0) = false := by simp; omega
      clear hr hH eA HA HBB CW
      go_wp2_with (at_builtin; refine wpList_append_k _ rfl _ _ 23 23 rfl _ _ rfl rfl (hap _) ?_)
      exact ⟨⟨k + 1, by omega, by go_num, H3⟩, by simp [intOf]; omega⟩
    · have hk3 : k = 3 := by omega
      have HK3 := hd hk3
      have i1 : ¬ (k : Int) < 3 := by omega
      have HR := hd hr.out
      have CW0 := hd CW.out
      generalize hX : (List.range k).map A = X at *
      have LX : Hid (X.length = k) := by
        show _ = _
        rw [← hX]; simp
      have HX : Hid (X = (List.range 3).map A) := by rw [← hX, hk3]; exact (rfl : _ = _)
      have T0 : Hid (KRel w1 wr (.slice la k lc) X B 0) := ⟨by simpa using HR.out, trivial⟩
      clear hr r1 r2 r3 HR CW hX HA hk3
      go_wp2
      go_loopw [5, 9] (fun l i wq => ∃ j : Nat, j ≤ 2 ∧ i = .int .i64 j ∧ Hid (KRel w1 wq l X B j)) (fun _ i _ => 2 - (intOf i).toNat)
      case atStart => exact ⟨0, Nat.zero_le _, rfl, T0⟩
      case round =>
        obtain ⟨j, hj, rfl, hq⟩ := hrel
        clear T0
        obtain ⟨β, r1, r2, r3⟩ := hq.out.1
        obtain ⟨qa, qc, rfl, -⟩ := r1.formN (n := k + j) (by have := LX.out; simp; omega)
        by_cases hjl : j < 2
        · have i1 : (j : Int) < 2 := by omega
          have i3 : (j : Int) < 3 := by omega
          have c0 := (r3.cell (p := ⟨w.heap.size, j, none⟩) (show w.heap.size < w1.heap.size by have := SZ.out; omega)).trans (CW0.out j (by omega))
          have gk : w.heap.size < wr.heap.size := by have := SZ.out; have := r3.size; omega
          clear r1 r2 r3
          obtain ⟨v', w3, hap, hH, -⟩ := hq.out.1.push (B j) (by have := LX.out; simp; omega)
          have H3 : Hid (HRel w1 w3 v' (X ++ (List.range (j + 1)).map B)) := by
            rw [List.append_assoc, range_snoc] at hH
            exact hH
          have eB : B j = ⟨1, av j, c, 1, 4⟩ := HBB.out j
          rw [eB] at hap
          simp only [opc] at hap
          clear hq hH eB HBB CW0
          go_wp2_with (at_builtin; refine wpList_append_k _ rfl _ _ 23 23 rfl _ _ rfl rfl (hap _) ?_)
          have K3 : Hid (KRel w1 w3 v' X B (j + 1)) := ⟨H3.out, trivial⟩
          clear H3
          exact ⟨⟨j + 1, by omega, by go_num, K3⟩, by simp [intOf]; omega⟩
        · have i2 : ¬ (j : Int) < 2 := by omega
          have R : Hid (HRel w wr (.slice qa (k + j) qc) ((List.range 3).map A ++ (List.range 2).map B)) := by
            have h := hq.out.1.of BA.out
            have e : X ++ (List.range j).map B = (List.range 3).map A ++ (List.range 2).map B := by rw [HX.out, show j = 2 by omega]
            rw [e] at h
            exact h
          clear hq r1 r2 r3
          go_wp2
          go_ret
          exact ⟨.slice qa (k + j) qc, rfl, R.out⟩


theorem changed_any (n : Nat) (ch : Int) (w : World) (h0 : 0 ≤ ch) (h1 : ch ≤ 255) (hn : n ≤ 300) :
    Calls Try.prog 19 #[.int .i64 n, .int .u8 ch] w fun e w' => ∃ v, e = .returned v ∧ HRel w w' v (chgP n (32 + ch % 95)) := by
  by_cases hz : n = 0
  · subst hz
    exact changed_zero ch _ w rfl h0 h1 (avP 0) rfl rfl rfl (chgA 0) (chgB 0 (32 + ch % 95)) (fun _ => rfl) (fun _ => rfl)
  · exact changed_pos n (n / 2) ((n : Int) - 1) ch _ w rfl h0 h1 hn (by omega) (by omega) rfl (avP n) rfl rfl rfl (chgA n) (chgB n (32 + ch % 95)) (fun i => by unfold chgA; rw [if_neg hz]) (fun _ => rfl)

end Go.Proofs.Ytbgpmekjcepmaab
