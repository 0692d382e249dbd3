/-
  The law's kept.
-/
import Derived.Test.YtlmgogonghafeaaSk
import Derived.Deep.QuietTactic
import Derived.BigQuiet
namespace Go.Proofs.Ytlmgogonghafeaa
open Go.RowKit Go.Lib
set_option linter.unusedVariables false

def keyE (x : El) : Int := (x.2.1 - 1) * 64 + x.2.2 - 1
def oldK (xs : List El) : List Int := (xs.filter (fun x => decide (x.2.1 ≠ 64))).map keyE
theorem oldK_succ {xs : List El} {i : Nat} (h : i < xs.length) : oldK (xs.take (i + 1)) = if xs[i].2.1 = 64 then oldK (xs.take i) else oldK (xs.take i) ++ [keyE xs[i]] := by
  unfold oldK
  rw [List.take_succ_eq_append_getElem h, List.filter_append, List.map_append]
  by_cases e : xs[i].2.1 = 64
  · rw [if_pos e, List.filter_cons_of_neg (by simp [e])]
    simp
  · rw [if_neg e, List.filter_cons_of_pos (by simpa using e)]
    simp
def lastK (l : List Int) : Int := l.getLastD (-1)
theorem lastK_snoc (l : List Int) (k : Int) : lastK (l ++ [k]) = k := by simp [lastK]
theorem oldK_lt {xs : List El} (hs : (oldK xs).Pairwise (· < ·)) (h0 : ∀ k ∈ oldK xs, 0 ≤ k) {i : Nat} (h : i < xs.length) (hc : ¬ xs[i].2.1 = 64) : lastK (oldK (xs.take i)) < keyE xs[i] := by
  have e1 : oldK xs = oldK (xs.take i) ++ keyE xs[i] :: oldK (xs.drop (i + 1)) := by
    have e2 : xs = xs.take i ++ xs[i] :: xs.drop (i + 1) := by rw [← List.drop_eq_getElem_cons h, List.take_append_drop]
    conv => lhs; rw [e2]
    unfold oldK
    rw [List.filter_append, List.map_append, List.filter_cons_of_pos (by simpa using hc)]
    rfl
  rw [e1] at hs h0
  rw [List.pairwise_append] at hs
  have hk := h0 (keyE xs[i]) (by simp)
  cases hq : (oldK (xs.take i)).getLast? with
  | none =>
    rw [List.getLast?_eq_none_iff] at hq
    rw [hq]
    show (-1 : Int) < _
    omega
  | some z =>
    have hz := List.mem_of_getLast? hq
    have : lastK (oldK (xs.take i)) = z := by
      unfold lastK
      rw [List.getLastD_eq_getLast?, hq]
      rfl
    rw [this]
    exact hs.2.2 z hz _ (by simp)

set_option maxRecDepth 100000 in
set_option maxHeartbeats 4000000 in
theorem kept_true (a : Option Addr) (n c : Nat) (xs : List El) (N G : Int) (w : World) (hE : IsE w a n c xs) (hn : n ≤ 1000000) (hb : ∀ x ∈ xs, 1 ≤ x.2.1 ∧ x.2.1 ≤ 64 ∧ 1 ≤ x.2.2 ∧ x.2.2 ≤ 64)
    (hs : (oldK xs).Pairwise (· < ·)) (hN : N - G = ((oldK xs).length : Int)) (hN1 : 0 ≤ N) (hN2 : N ≤ 1000000) (hG1 : 0 ≤ G) (hG2 : G ≤ 1000000) :
    Calls Try.prog 22 #[.slice a n c, .int .i64 N, .int .i64 G] w fun e w' => e = .returned (.bool true) ∧ ∃ m, w' = w.drewN m := by
  have h0 : ∀ k ∈ oldK xs, 0 ≤ k := by
    intro k hk
    unfold oldK at hk
    rw [List.mem_map] at hk
    obtain ⟨x, hx, rfl⟩ := hk
    have := hb x (List.mem_filter.1 hx).1
    unfold keyE
    omega
  have LT := hd (fun i (h : i < xs.length) (hc : ¬ xs[i].2.1 = 64) => oldK_lt hs h0 h hc)
  have hlen : xs.length = n := hE.1
  have HE := hd hE
  have HB := hd hb
  have HL := hd hlen
  have HO : Hid (∀ i, (oldK (xs.take i)).length ≤ i) := by
    intro i
    unfold oldK
    rw [List.length_map]
    have h1 := List.length_filter_le (fun x : El => decide (x.2.1 ≠ 64)) (xs.take i)
    rw [List.length_take] at h1
    omega
  have HN := hd hN
  have hnc : n ≤ c := hE.2.1
  have hc63 : c ≤ 9223372036854775807 := hE.2.2.1
  clear hE hb hlen hs h0 hN
  go_enter Try.func22, Try.ntmps22
  go_upto_region 4 with fail
  go_loopw [7, 8, 9] (fun ov lv iv wr => ∃ i o m : Nat, ∃ la : Int, i ≤ n ∧ o ≤ i ∧ iv = .int .i64 i ∧ ov = .int .i64 o ∧ lv = .int .i64 la ∧ Hid (o = (oldK (xs.take i)).length ∧ la = lastK (oldK (xs.take i))) ∧ wr = w.drewN m) (fun _ _ iv _ => n - (intOf iv).toNat)
  case atStart => exact ⟨0, 0, 0, -1, Nat.zero_le _, Nat.le_refl _, rfl, rfl, rfl, ⟨rfl, rfl⟩, rfl⟩
  case round =>
    obtain ⟨i, o, m, la, hi, ho, rfl, rfl, rfl, HS, rfl⟩ := hrel
    by_cases hlt : i < n
    · have hix : i < xs.length := by rw [HL.out]; exact hlt
      obtain ⟨b, off, rfl, hbl⟩ := HE.out.addr (by omega)
      obtain ⟨c0, c1, c2⟩ := HE.out.at i hlt hix
      have OS := hd (oldK_succ hix)
      have LI := hd (LT.out i hix)
      obtain ⟨q1, q2, q3, q4⟩ := HB.out _ (List.getElem_mem hix)
      unfold keyE at OS LI
      obtain ⟨C, hC⟩ : ∃ C, xs[i].2.1 = C := ⟨_, rfl⟩
      obtain ⟨Q, hQ⟩ : ∃ Q, xs[i].2.2 = Q := ⟨_, rfl⟩
      rw [hC] at c1 OS LI q1 q2
      rw [hQ] at c2 OS LI q3 q4
      clear hC hQ c0
      by_cases hc : C = 64
      · have OS2 := OS.out
        rw [if_pos hc] at OS2
        rw [← OS2] at HS
        clear OS2 OS LI
        go_wp2
        exact ⟨⟨i + 1, o, _, la, by omega, by omega, by go_num, rfl, rfl, HS, rfl⟩, by simp only [intOf]; omega⟩
      · have OS2 := OS.out
        rw [if_neg hc] at OS2
        have li := LI.out hc
        rw [← HS.out.2] at li
        have Z : Hid (o + 1 = (oldK (xs.take (i + 1))).length ∧ (C - 1) * 64 + Q - 1 = lastK (oldK (xs.take (i + 1)))) := by
          rw [OS2, lastK_snoc, List.length_append, ← HS.out.1]
          exact ⟨rfl, rfl⟩
        have li2 : ¬ (C - 1) * 64 + Q - 1 ≤ la := by omega
        clear OS2 OS LI li
        go_upto_region 7 with fail
        go_big_quiet (fail)
        go_wp2
        go_roundw
        case rel => exact ⟨i + 1, o + 1, _, (C - 1) * 64 + Q - 1, by omega, by omega, by go_num, by go_num, by go_num, Z, rfl⟩
        case measure => simp only [intOf]; omega
    · obtain rfl : i = n := by omega
      have e : N - G = (o : Int) := by rw [HN.out, HS.out.1, ← HL.out, List.take_length]
      clear HS
      go_wp2
      go_ret
      exact ⟨by simp, _, rfl⟩
end Go.Proofs.Ytlmgogonghafeaa
