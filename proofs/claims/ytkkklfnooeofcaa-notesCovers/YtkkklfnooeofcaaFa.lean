/-
  The laws' within, text, turned.
-/
import Derived.Test.YtkkklfnooeofcaaLb
import Derived.Test.YtkkklfnooeofcaaApp
namespace Go.Proofs.Ytkkklfnooeofcaa
open Go.RowKit Go.Maps Go.ChangeMaps Go.MapKept Go.WideMaps
set_option linter.unusedVariables false

theorem tmod_bd (v m : Int) (hm : 0 < m) : -m < v.tmod m ∧ v.tmod m < m := by
  have h1 := Int.tmod_lt_of_pos v hm
  have h2 := Int.tmod_lt_of_pos (-v) hm
  rw [Int.neg_tmod] at h2
  omega

/-- What within tells. -/
def WiP (v lo hi x : Int) : Prop := lo ≤ x ∧ x ≤ hi ∧ (lo ≤ v → v ≤ hi → x = v)
set_option maxHeartbeats 1000000 in
theorem lwithin_any (v lo hi : Int) (w : World) (h0 : 0 ≤ lo) (h1 : lo ≤ hi) (h2 : hi ≤ 1000000000000000) : Calls Try.prog 10 #[.int .i64 v, .int .i64 lo, .int .i64 hi] w fun e w' => ∃ x : Int, e = .returned (.int .i64 x) ∧ WiP v lo hi x ∧ w' = w := by
  by_cases h3 : lo ≤ v
  · by_cases h4 : v ≤ hi
    · have Z : Hid (WiP v lo hi v) := ⟨h3, h4, fun _ _ => rfl⟩
      go_enter Try.func10, Try.ntmps10
      go_wp2
      go_ret
      exact ⟨v, rfl, Z.out, rfl⟩
    · have hb := tmod_bd v (hi - lo + 1) (by omega)
      have h5 : 0 ≤ v.tmod (hi - lo + 1) := Int.tmod_nonneg _ (by omega)
      have hz : ¬ hi - lo + 1 = 0 := by omega
      have Z : Hid (WiP v lo hi (lo + v.tmod (hi - lo + 1))) := ⟨by omega, by omega, fun _ h => absurd h h4⟩
      generalize hq : v.tmod (hi - lo + 1) = q at *
      go_enter Try.func10, Try.ntmps10
      go_wp2
      go_ret
      exact ⟨_, rfl, Z.out, rfl⟩
  · have hb := tmod_bd v (hi - lo + 1) (by omega)
    have hz : ¬ hi - lo + 1 = 0 := by omega
    by_cases h5 : v.tmod (hi - lo + 1) < 0
    · have Z : Hid (WiP v lo hi (lo + (v.tmod (hi - lo + 1) + hi - lo + 1))) := ⟨by omega, by omega, fun h => absurd h h3⟩
      generalize hq : v.tmod (hi - lo + 1) = q at *
      go_enter Try.func10, Try.ntmps10
      go_wp2
      go_ret
      exact ⟨_, rfl, Z.out, rfl⟩
    · have Z : Hid (WiP v lo hi (lo + v.tmod (hi - lo + 1))) := ⟨by omega, by omega, fun h => absurd h h3⟩
      generalize hq : v.tmod (hi - lo + 1) = q at *
      go_enter Try.func10, Try.ntmps10
      go_wp2
      go_ret
      exact ⟨_, rfl, Z.out, rfl⟩

/-- The i-th element of text. -/
def tE (i : Nat) : El := (((97 + i % 26 : Nat) : Int), ((1 + i / 64 : Nat) : Int), ((1 + i % 64 : Nat) : Int))
def txt (n : Nat) : List El := (List.range n).map tE
theorem txt_succ (n : Nat) : txt (n + 1) = txt n ++ [tE n] := by simp [txt, List.range_succ]
theorem txt_len (n : Nat) : (txt n).length = n := by simp [txt]
theorem wf_tE (i : Nat) (h : i ≤ 100000) : wfE (tE i) := by
  unfold wfE tE
  refine ⟨⟨by simp only; omega, by simp only; omega⟩, ⟨by simp only; omega, by simp only; omega⟩, by simp only; omega, by simp only; omega⟩
theorem wf_txt (n : Nat) (h : n ≤ 100000) : ∀ x ∈ txt n, wfE x := by
  intro x hx
  obtain ⟨i, hi, rfl⟩ := List.mem_map.1 hx
  have := List.mem_range.1 hi
  exact wf_tE i (by omega)

theorem push_el (w : World) (β : Option Nat) (v : Value) (xs : List El) (hS : SF elc 3 w 57 β v xs) (x0 x1 x2 : Int) (hroom : roomy (xs.length + 1) 24) :
    ∃ v' w', (∀ ty, (Builtin.append_ #[23, 23] ty #[v, .slice (some ⟨w.heap.size, 0, none⟩) 1 1]).run Try.prog (w.alloc (.cells #[.int .u8 x0, .int .i64 x1, .int .i64 x2] 57)) = .ok v' w') ∧ NowF elc 3 (w.alloc (.cells #[.int .u8 x0, .int .i64 x1, .int .i64 x2] 57)) w' 57 β v' (xs ++ [(x0, x1, x2)]) := by
  obtain ⟨i0, hi0, hz0, hz1, hz2⟩ := info_parts Try.infoE
  have hz := heap_alloc_new w (.cells #[.int .u8 x0, .int .i64 x1, .int .i64 x2] 57)
  obtain ⟨v', w', hr, hN⟩ := run_pushF sz_elc (P := Try.prog) (w.alloc (.cells #[.int .u8 x0, .int .i64 x1, .int .i64 x2] 57)) 23 0 57 i0 _ 24 Try.underlying23 hi0 hz0 hz1 rfl hz2 β v xs (hS.fr (Fr.alloc (fun _ => False) _ _) (fun _ _ h => h)) ⟨w.heap.size, 0, none⟩ 1 1 [(x0, x1, x2)] rfl (fun j u hj => by
    rw [add_lit, Nat.zero_add, cell_row hz]
    simp only [cl_one, elc] at hj
    simpa using hj) (by omega) hroom.2 hroom.1
  exact ⟨v', w', fun ty => hr, hN⟩

/-- A text in memory of one's own. -/
def TxI (w wr : World) (v : Value) (xs : List El) : Prop := ∃ β, SF elc 3 wr 57 β v xs ∧ (∀ k, β = some k → w.heap.size ≤ k) ∧ Below w.heap.size w wr
theorem TxI.push {w wr : World} {v : Value} {xs : List El} (h : TxI w wr v xs) (x0 x1 x2 : Int) (hroom : roomy (xs.length + 1) 24) :
    ∃ v' w', (∀ ty, (Builtin.append_ #[23, 23] ty #[v, .slice (some ⟨wr.heap.size, 0, none⟩) 1 1]).run Try.prog (wr.alloc (.cells #[.int .u8 x0, .int .i64 x1, .int .i64 x2] 57)) = .ok v' w') ∧ TxI w w' v' (xs ++ [(x0, x1, x2)]) := by
  obtain ⟨β, h1, h2, h3⟩ := h
  obtain ⟨v', w', hr, g, hS, hN⟩ := push_el wr β v xs h1 x0 x1 x2 hroom
  have hB : Below w.heap.size w (wr.alloc (.cells #[.int .u8 x0, .int .i64 x1, .int .i64 x2] 57)) := h3.alloc h3.size _
  refine ⟨v', w', hr, some g, hS, fun k hk => ?_, ?_⟩
  · cases hk
    rcases hN with ⟨e, -⟩ | ⟨e, -⟩
    · exact h2 _ e
    · rw [e]; exact hB.size
  · rcases hN with ⟨e, hf⟩ | ⟨e, hf⟩
    · exact hB.trans (hf.below hB.size (fun k hk => by rw [hk]; exact h2 g e))
    · exact hB.trans (hf.below hB.size (fun k hk => hk.elim))

set_option maxRecDepth 100000 in
set_option maxHeartbeats 2000000 in
theorem text_any (n : Nat) (w : World) (hn : n ≤ 2048) : Calls Try.prog 11 #[.int .i64 (n : Int)] w fun e w' => ∃ v, e = .returned v ∧ TxI w w' v (txt n) := by
  go_enter Try.func11, Try.ntmps11
  go_wp2
  go_loopw [3, 4] (fun v i wr => ∃ k : Nat, k ≤ n ∧ i = .int .i64 k ∧ Hid (TxI w wr v (txt k))) (fun _ i _ => n - (intOf i).toNat)
  case atStart => exact ⟨0, Nat.zero_le _, rfl, hd ⟨none, ⟨rfl, rfl⟩, fun k hk => (by cases hk), Below.refl _ _⟩⟩
  case round =>
    obtain ⟨k, hk, rfl, HI⟩ := hrel
    by_cases hlt : k < n
    · obtain ⟨v', w', hr, hT⟩ := HI.out.push (97 + (k : Int) % 26) (1 + (k : Int) / 64) (1 + (k : Int) % 64) (by rw [txt_len]; unfold roomy; omega)
      have Z : Hid (TxI w w' v' (txt (k + 1))) := by
        rw [txt_succ]
        have e : tE k = (97 + (k : Int) % 26, 1 + (k : Int) / 64, 1 + (k : Int) % 64) := by
          unfold tE
          push_cast
          rfl
        rw [e]
        exact hT
      clear hT HI
      go_wp2_with (at_builtin; refine wpList_append_k _ rfl _ _ 23 23 rfl _ _ rfl rfl (hr _) ?_)
      exact ⟨⟨k + 1, by omega, by trivial, Z⟩, by simp [intOf]; omega⟩
    · obtain rfl : k = n := by omega
      go_wp2
      go_ret
      exact ⟨_, rfl, HI.out⟩

end Go.Proofs.Ytkkklfnooeofcaa
