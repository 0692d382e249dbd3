/-
  The words of a line.
-/
import Derived.Test.YtplmhilkehkeiaaDoorSj
namespace Go.Proofs.YtplmhilkehkeiaaDoor
open Go.RowKit
set_option linter.unusedVariables false

theorem flF_le (m : Int) : (flF m).length ≤ 3 := by
  unfold flF
  repeat' split
  all_goals simp

/-- At most so many pieces. -/
def mostP (m : Int) : Nat := if m = 1 then 4 else 2 + (flF m).length

theorem words_of_row {w : World} {h N : Nat} {ps : List ByteArray} (hR : RowF es 1 w h ps.length N 9 ps) (base : Nat) (hb : base ≤ h) (h1 : 1 ≤ ps.length) (hN : N ≤ 100) : IsW w base (.slice (some ⟨h, 1, none⟩) (ps.length - 1) (N - 1)) ps.tail := by
  have hc : ps.length ≤ N := by obtain ⟨cur, -, -, -, h4, -⟩ := hR; exact h4
  refine ⟨h, 1, N - 1, by simp, hb, hR.lt, by simp; omega, by omega, fun i hi => ?_⟩
  have hi' : i + 1 < ps.length := by simp at hi; omega
  have := hR.cell sz_es (i + 1) 0 hi' (by omega)
  simp only [Nat.mul_one, Nat.add_zero] at this
  rw [show 1 + i = i + 1 by omega, this]
  simp [es]

theorem splitZ_any (s : ByteArray) (n : Nat) (z : Int) (w : World) (hz : s.size ≤ 2000000) (h1 : 1 ≤ n) (h5 : n ≤ 5) (hzn : z = n) :
    Calls Tryd.prog 44 #[.string s, .string ⟨#[32]⟩, .int .i64 z] w fun e w' => ∃ (ps : List ByteArray) (N : Nat), Hid (N = min n (s.size + 1)) ∧ e = .returned (.slice (some ⟨w.heap.size, 0, none⟩) ps.length N) ∧ Hid (ps.map tl = spl (n - 1) (tl s) ∧ RowF es 1 w' w.heap.size ps.length N 9 ps ∧ Below w.heap.size w w') := by
  subst hzn
  exact splitN_any s n w hz h1 h5

set_option maxRecDepth 100000 in
set_option maxHeartbeats 4000000 in
theorem wordsOf_any (s : ByteArray) (m : Int) (w : World) (hz : s.size ≤ 2000000) (h1 : 1 ≤ s.size) (hm0 : 0 ≤ m) (hm7 : m ≤ 7) :
    Calls Tryd.prog 23 #[.string s, .int .i64 m] w fun e w' => ∃ (ws : List ByteArray) (v : Value), e = .returned v ∧ IsW w' w.heap.size v ws ∧ ws.map tl = (spl (mostP m - 1) (tl s)).tail ∧ (∀ x ∈ ws, x.size ≤ 2000000) ∧ Below w.heap.size w w' := by
  have hfl := flF_le m
  obtain ⟨k, hk⟩ : ∃ k, (flF m).length = k := ⟨_, rfl⟩
  rw [hk] at hfl
  have HK := hd hk
  have fin : ∀ (n : Nat) (w1 w2 : World) (ps : List ByteArray) (N : Nat), n = mostP m → Below w.heap.size w w1 → w.heap.size ≤ w1.heap.size → N = min n (s.size + 1) → ps.map tl = spl (n - 1) (tl s) → RowF es 1 w2 w1.heap.size ps.length N 9 ps → Below w1.heap.size w1 w2 →
      1 ≤ ps.length ∧ 2 ≤ N ∧ ps.length ≤ N ∧ Hid (IsW w2 w.heap.size (.slice (some ⟨w1.heap.size, 1, none⟩) (ps.length - 1) (N - 1)) ps.tail ∧ ps.tail.map tl = (spl (mostP m - 1) (tl s)).tail ∧ (∀ x ∈ ps.tail, x.size ≤ 2000000) ∧ Below w.heap.size w w2) := by
    intro n w1 w2 ps N hn hB1 hs1 hN hps hR hB2
    have hn2 : 2 ≤ n ∧ n ≤ 5 := by
      rw [hn]; unfold mostP
      have := HK.out
      split <;> omega
    have hp : 1 ≤ ps.length := by
      have := spl_pos (n - 1) (tl s)
      rw [← hps, List.length_map] at this
      exact this
    have hpN : ps.length ≤ N := by obtain ⟨cur, -, -, -, h4, -⟩ := hR; exact h4
    refine ⟨hp, by omega, hpN, words_of_row hR _ hs1 hp (by omega), ?_, ?_, hB1.trans (hB2.mono hs1)⟩
    · rw [← hn, ← hps]; simp
    · intro x hx
      have hx' : tl x ∈ spl (n - 1) (tl s) := by
        rw [← hps]
        exact List.mem_map_of_mem (List.mem_of_mem_tail hx)
      have := spl_mem hx'
      have h2 := tl_size x
      have h3 := tl_size s
      omega
  have FIN := hd fin
  clear fin hk
  by_cases hm1 : m = 1
  · obtain rfl : k = 3 := by rw [← HK.out, hm1]; rfl
    have em : 4 = mostP m := by rw [hm1]; rfl
    have EM := hd em
    clear em
    subst hm1
    go_enter Tryd.func23, Tryd.ntmps23
    go_wp2_with (first
      | (go_at_call 24; refine (fieldsOf_any 1 _ hm0 hm7).mono ?_; rintro e w1 ⟨v, rfl, hNL, hB1⟩; obtain ⟨va, vc, hv⟩ := hNL.form; rw [HK.out] at hv; subst hv; have HB1 := hd hB1; clear hB1 hNL)
      | (go_at_call 44; refine (splitZ_any s 4 4 _ hz (by omega) (by omega) rfl).mono ?_; rintro e w2 ⟨ps, N, HN, rfl, HP⟩; obtain ⟨q1, q2, q3, Z⟩ := FIN.out 4 w1 w2 ps N EM.out HB1.out HB1.out.size HN.out HP.out.1 HP.out.2.1 HP.out.2.2; clear HN HP; have j1 : (1 : Int) ≤ (ps.length : Int) := (by omega); have j2 : ¬ (1 : Int) = (N : Int) := (by omega); have j3 : ¬ 1 = N := (by omega)))
    go_ret
    exact ⟨_, _, rfl, Z.out⟩
  · have em : 2 + k = mostP m := by unfold mostP; rw [if_neg hm1, HK.out]
    have EM := hd em
    clear em
    have hw2 : wrap64 (2 + (k : Int)) = 2 + (k : Int) := by rw [wrap64]; omega
    have hz2 : 2 + (k : Int) = ((2 + k : Nat) : Int) := by omega
    have HZ2 := hd hz2
    clear hz2
    go_enter Tryd.func23, Tryd.ntmps23
    go_wp2_with (first
      | (go_at_call 24; refine (fieldsOf_any m _ hm0 hm7).mono ?_; rintro e w1 ⟨v, rfl, hNL, hB1⟩; obtain ⟨va, vc, hv⟩ := hNL.form; rw [HK.out] at hv; subst hv; have HB1 := hd hB1; clear hB1 hNL)
      | (go_at_call 44; refine (splitZ_any s (2 + k) (2 + (k : Int)) _ hz (by omega) (by omega) HZ2.out).mono ?_; rintro e w2 ⟨ps, N, HN, rfl, HP⟩; obtain ⟨q1, q2, q3, Z⟩ := FIN.out (2 + k) w1 w2 ps N EM.out HB1.out HB1.out.size HN.out HP.out.1 HP.out.2.1 HP.out.2.2; clear HN HP; have j1 : (1 : Int) ≤ (ps.length : Int) := (by omega); have j2 : ¬ (1 : Int) = (N : Int) := (by omega); have j3 : ¬ 1 = N := (by omega)))
    go_ret
    exact ⟨_, _, rfl, Z.out⟩

end Go.Proofs.YtplmhilkehkeiaaDoor
