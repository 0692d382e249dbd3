/-
  The laws' elems.
-/
import Derived.Test.YtlmgogonghafeabApp
import Derived.WalkMore
import Derived.Deep.DeepCutAuto
namespace Go.Proofs.Ytlmgogonghafeab
open Go.RowKit
set_option linter.unusedVariables false

def roomy (n bytes : Nat) : Prop := (n + n / 4 + 192) * bytes ≤ 281474976710656 ∧ n ≤ 9223372036854775807
theorem sz_elc : Sz elc 3 := fun x => ⟨rfl, fun v hv => by simp [elc] at hv; rcases hv with rfl | rfl | rfl <;> rfl⟩
theorem se_sf {w : World} {β : Option Nat} {v : Value} {xs : List El} (h : SE w β v xs) : SF elc 3 w 25 β v xs := by
  cases β with
  | none => exact h
  | some g => exact h
theorem sf_se {w : World} {β : Option Nat} {v : Value} {xs : List El} (h : SF elc 3 w 25 β v xs) : SE w β v xs := by
  cases β with
  | none => exact h
  | some g => exact h
theorem push_el (w : World) (β : Option Nat) (v : Value) (xs : List El) (hS : SF elc 3 w 25 β v xs) (x0 x1 x2 : Int) (hroom : roomy (xs.length + 1) 24) :
    ∃ v' w', (∀ ty, (Builtin.append_ #[22, 22] ty #[v, .slice (some ⟨w.heap.size, 0, none⟩) 1 1]).run Try.prog (w.alloc (.cells #[.int .u8 x0, .int .i64 x1, .int .i64 x2] 25)) = .ok v' w') ∧ NowF elc 3 (w.alloc (.cells #[.int .u8 x0, .int .i64 x1, .int .i64 x2] 25)) w' 25 β v' (xs ++ [(x0, x1, x2)]) := by
  obtain ⟨i0, hi0, hz0, hz1, hz2⟩ := info_parts Try.infoE
  have hz := heap_alloc_new w (.cells #[.int .u8 x0, .int .i64 x1, .int .i64 x2] 25)
  obtain ⟨v', w', hr, hN⟩ := run_pushF sz_elc (P := Try.prog) (w.alloc (.cells #[.int .u8 x0, .int .i64 x1, .int .i64 x2] 25)) 22 0 25 i0 _ 24 Try.underlying22 hi0 hz0 hz1 rfl hz2 β v xs (hS.fr (Fr.alloc (fun _ => False) _ _) (fun _ _ h => h)) ⟨w.heap.size, 0, none⟩ 1 1 [(x0, x1, x2)] rfl (fun j u hj => by
    rw [add_lit, Nat.zero_add, cell_row hz]
    simp only [cl_one, elc] at hj
    simpa using hj) (by omega) hroom.2 hroom.1
  exact ⟨v', w', fun ty => hr, hN⟩

/-- A text in memory of one's own. -/
def TxI (w wr : World) (v : Value) (xs : List El) : Prop := ∃ β, SF elc 3 wr 25 β v xs ∧ (∀ k, β = some k → w.heap.size ≤ k) ∧ Below w.heap.size w wr
theorem TxI.push {w wr : World} {v : Value} {xs : List El} (h : TxI w wr v xs) (x0 x1 x2 : Int) (hroom : roomy (xs.length + 1) 24) :
    ∃ v' w', (∀ ty, (Builtin.append_ #[22, 22] ty #[v, .slice (some ⟨wr.heap.size, 0, none⟩) 1 1]).run Try.prog (wr.alloc (.cells #[.int .u8 x0, .int .i64 x1, .int .i64 x2] 25)) = .ok v' w') ∧ TxI w w' v' (xs ++ [(x0, x1, x2)]) := by
  obtain ⟨β, h1, h2, h3⟩ := h
  obtain ⟨v', w', hr, g, hS, hN⟩ := push_el wr β v xs h1 x0 x1 x2 hroom
  have hB : Below w.heap.size w (wr.alloc (.cells #[.int .u8 x0, .int .i64 x1, .int .i64 x2] 25)) := h3.alloc h3.size _
  refine ⟨v', w', hr, some g, hS, fun k hk => ?_, ?_⟩
  · cases hk
    rcases hN with ⟨e, -⟩ | ⟨e, -⟩
    · exact h2 _ e
    · rw [e]; exact hB.size
  · rcases hN with ⟨e, hf⟩ | ⟨e, hf⟩
    · exact hB.trans (hf.below hB.size (fun k hk => by rw [hk]; exact h2 g e))
    · exact hB.trans (hf.below hB.size (fun k hk => hk.elim))
theorem TxI.isE {w wr : World} {v : Value} {xs : List El} (h : TxI w wr v xs) : ∃ a c, v = .slice a xs.length c ∧ IsE wr a xs.length c xs ∧ ∀ b off, a = some ⟨b, off, none⟩ → w.heap.size ≤ b := by
  obtain ⟨β, h1, h2, h3⟩ := h
  obtain ⟨a, c, hv, hE, hb⟩ := (sf_se h1).form
  exact ⟨a, c, hv, hE, fun b off e => h2 _ (hb b off e)⟩
theorem TxI.below {w wr wx : World} {v : Value} {xs : List El} (h : TxI w wr v xs) (hb : Below wr.heap.size wr wx) : TxI w wx v xs := by
  obtain ⟨β, h1, h2, h3⟩ := h
  exact ⟨β, h1.fr (S := fun _ => False) (Fr.of_below hb) (fun _ _ h => h), h2, h3.trans (hb.mono h3.size)⟩

/-- The i-th element that elems makes of a string. -/
def eS (b : By) (i : Nat) : El := (((b.getD i 0).toNat : Int), ((1 + i / 64 % 64 : Nat) : Int), ((1 + i % 64 : Nat) : Int))
def elS (b : By) (n : Nat) : List El := (List.range n).map (eS b)
theorem elS_succ (b : By) (n : Nat) : elS b (n + 1) = elS b n ++ [eS b n] := by simp [elS, List.range_succ]
theorem elS_len (b : By) (n : Nat) : (elS b n).length = n := by simp [elS]

theorem and_lt_tt {k n m : Nat} (h : k < n) (h2 : k < m) : ((k : Int) < (n : Int)) ∧ ((k : Int) < (m : Int)) := by omega

set_option maxRecDepth 100000 in
set_option maxHeartbeats 4000000 in
theorem elems_any (s : ByteArray) (m : Nat) (w : World) (hm : m ≤ 2048) (hs : s.size ≤ 9223372036854775807) : Calls Try.prog 5 #[.string s, .int .i64 (m : Int)] w fun e w' => ∃ v, e = .returned v ∧ TxI w w' v (elS s.data.toList (min s.size m)) := by
  have HS := hd hs
  have HM := hd hm
  clear hs hm
  go_enter Try.func5, Try.ntmps5
  go_wp2
  go_loopw [5, 6] (fun v i wr => ∃ k : Nat, k ≤ min s.size m ∧ i = .int .i64 k ∧ Hid (TxI w wr v (elS s.data.toList k))) (fun _ i _ => min s.size m - (intOf i).toNat)
  case atStart => exact ⟨0, Nat.zero_le _, rfl, hd ⟨none, ⟨rfl, rfl⟩, fun k hk => (by cases hk), Below.refl _ _⟩⟩
  case round =>
    obtain ⟨k, hk, rfl, HI⟩ := hrel
    have HK := hd hk
    clear hk
    by_cases hlt : k < min s.size m
    · have h1 : k < s.size := by omega
      have h2 : k < m := by omega
      have hmm := HM.out
      obtain ⟨v', w', hr, hT⟩ := HI.out.push ((s[k]'h1).toNat : Int) (1 + (k : Int) / 64 % 64) (1 + (k : Int) % 64) (by rw [elS_len]; unfold roomy; omega)
      have Z : Hid (TxI w w' v' (elS s.data.toList (k + 1))) := by
        rw [elS_succ]
        have e : eS s.data.toList k = (((s[k]'h1).toNat : Int), 1 + (k : Int) / 64 % 64, 1 + (k : Int) % 64) := by
          unfold eS
          have : s.data.toList.getD k 0 = s[k]'h1 := by
            simp [List.getD, h1]
            rfl
          rw [this]
          push_cast
          rfl
        rw [e]
        exact hT
      have ME : Hid (min s.size m - (k + 1) < min s.size m - k) := by show _ < _; omega
      clear hT HI hlt
      go_wp2_with (at_builtin; refine wpList_append_k _ rfl _ _ 22 22 rfl _ _ rfl rfl (hr _) ?_)
      exact ⟨⟨k + 1, by omega, by go_num, Z⟩, by simp only [intOf]; exact ME.out⟩
    · have ek : k = min s.size m := by have := HK.out; omega
      have Z := hd HI.out
      rw [ek] at Z
      have HE := hd ek
      by_cases h1 : k < s.size
      · have h2 : ¬ k < m := by omega
        clear hlt ek HI
        go_wp2
        go_ret
        exact ⟨_, rfl, Z.out⟩
      · clear hlt ek HI
        go_wp2
        go_ret
        exact ⟨_, rfl, Z.out⟩
end Go.Proofs.Ytlmgogonghafeab
