/-
  The law Refuses: what it needs besides.
-/
import Derived.Test.YtlmgogonghafeaaFo
import Derived.Test.YtlmgogonghafeaaSp
import Derived.Test.YtlmgogonghafeaaSk
import Derived.Test.YtlmgogonghafeaaIp
namespace Go.Proofs.Ytlmgogonghafeaa
open Go.RowKit Go.Lib
set_option linter.unusedVariables false

def fiE (p : By) : Int := if patB p = true then 0 else 240
theorem find_err (x : Nat) (T : By) (s : ByteArray) (w : World) (hI : IX w x T) (hT : T.length ≤ 1000000) (hs : s.size ≤ 9223372036854775807) :
    Calls Try.prog 12 #[.pointer (some ⟨x, 0, none⟩), .string s] w fun e w' => ∃ v, e = .returned (.tuple #[v, .int .i64 (fiE s.data.toList)]) ∧ Below w.heap.size w w' := by
  unfold fiE
  cases h : patB s.data.toList with
  | true =>
    refine (find_good x T s w hI (by omega) h).mono ?_
    rintro e w' ⟨v, rfl, -, hb⟩
    exact ⟨v, by simp, hb⟩
  | false =>
    refine (find_bad x s w hs h).mono ?_
    rintro e w' ⟨rfl, hb⟩
    exact ⟨_, by simp; rfl, hb⟩
theorem next_err (x : Nat) (T : By) (s : ByteArray) (pos : Int) (w : World) (hI : IX w x T) (hT : T.length ≤ 1000000) (hs : s.size ≤ 9223372036854775807) (hp : pos ≤ 9223372036854775807) :
    Calls Try.prog 15 #[.pointer (some ⟨x, 0, none⟩), .string s, .int .i64 pos] w fun e w' => ∃ v, e = .returned (.tuple #[v, .int .i64 (fiE s.data.toList)]) ∧ Below w.heap.size w w' := by
  unfold fiE
  cases h : patB s.data.toList with
  | true =>
    refine (next_good x T s pos w hI (by omega) h hp).mono ?_
    rintro e w' ⟨rfl, hb⟩
    exact ⟨_, by simp; rfl, hb⟩
  | false =>
    refine (next_bad x s pos w hs h).mono ?_
    rintro e w' ⟨rfl, hb⟩
    exact ⟨_, by simp; rfl, hb⟩
def sgE (T p b : By) (cl fs : Int) : Int := if (patB p && fillB b) = true then swE T p b cl fs else 240
theorem swap_err (x : Nat) (T : By) (s b : ByteArray) (cl fs : Int) (w : World) (hI : IX w x T) (hT : T.length ≤ 1000000) (hs : s.size ≤ 9223372036854775807) (hb : b.size ≤ 9223372036854775807) (hf : fs ≤ 9223372036854775807) :
    Calls Try.prog 17 #[.pointer (some ⟨x, 0, none⟩), .string s, .string b, .int .i64 cl, .int .i64 fs] w fun e w' => ∃ v, e = .returned (.tuple #[v, .int .i64 (sgE T s.data.toList b.data.toList cl fs)]) ∧ Below w.heap.size w w' := by
  unfold sgE
  cases h : (patB s.data.toList && fillB b.data.toList) with
  | true =>
    rw [Bool.and_eq_true] at h
    refine (swap_good x T s b cl fs w hI hT h.1 h.2 hf).mono ?_
    rintro e w' ⟨hb, h | ⟨h, v, β, rfl, -⟩⟩
    · exact ⟨_, by rw [if_pos rfl]; exact h.2, hb⟩
    · exact ⟨v, by rw [if_pos rfl, h], hb⟩
  | false =>
    refine (swap_bad x s b cl fs w hs hb h).mono ?_
    rintro e w' ⟨rfl, hb⟩
    exact ⟨_, by simp; rfl, hb⟩
theorem swE_240 (T p b : By) (cl fs : Int) : swE T p b cl fs ≠ 240 := by
  unfold swE
  split
  · decide
  · split <;> decide
theorem rep_fill (n : Nat) : fillB (List.replicate n 98) = decide (n ≤ 64) := by
  unfold fillB
  rw [List.length_replicate]
  have : (List.replicate n (98 : UInt8)).all okC = true := by
    rw [List.all_eq_true]
    intro c hc
    rw [List.eq_of_mem_replicate hc]
    decide
  rw [this, Bool.true_and]
theorem rep_pat (n : Nat) : patB (List.replicate n 98) = decide (1 ≤ n ∧ n ≤ 64) := by
  unfold patB
  rw [rep_fill]
  cases n with
  | zero => simp
  | succ n => simp
theorem two_fill (c : UInt8) : fillB [98, c] = okC c := by
  unfold fillB
  simp
  intro _
  decide
theorem two_pat (c : UInt8) : patB [98, c] = okC c := by
  unfold patB
  rw [two_fill]
  simp
theorem ap_b (r : By) : 1 ≤ (apP (98 :: r) [98]).length := by
  have h0 : 0 ∈ plc (98 :: r) [98] := by
    unfold plc
    rw [fnd_mem]
    left
    refine ⟨Nat.zero_le _, by simp, ?_⟩
    rw [stB_iff]
    simp
  have mono : ∀ (l : List Nat) (s : Nat × List Nat), s.2.length ≤ (l.foldl (apN [(98 : UInt8)].length) s).2.length := by
    intro l
    induction l with
    | nil => intro s; exact Nat.le_refl _
    | cons p l ih =>
      intro s
      rw [List.foldl_cons]
      refine Nat.le_trans ?_ (ih _)
      unfold apN
      split
      · simp
      · exact Nat.le_refl _
  unfold apP apS
  cases hl : plc (98 :: r) [98] with
  | nil =>
    rw [hl] at h0
    cases h0
  | cons p l =>
    rw [List.foldl_cons]
    refine Nat.le_trans ?_ (mono _ _)
    unfold apN
    rw [if_pos (Nat.zero_le _)]
    simp
theorem sgE_maker (r : By) (cl fs : Int) (h : cl < 1 ∨ 64 < cl ∨ fs < 1 ∨ fs = 65) : sgE (98 :: r) [98] [] cl fs = 222 := by
  unfold sgE
  have h1 : (patB [98] && fillB []) = true := by decide
  rw [if_pos h1]
  unfold swE
  rw [if_pos]
  rcases h with h | h | h | h
  · exact .inl h
  · exact .inr (.inl h)
  · exact .inr (.inr (.inl h))
  · refine .inr (.inr (.inr ?_))
    have := ap_b r
    unfold cntP
    subst h
    simp only [List.length_cons, List.length_nil]
    omega
theorem BsI.below {w wr wx : World} {v : Value} {bs : By} (h : BsI w wr v bs) (hb : Below wr.heap.size wr wx) : BsI w wx v bs := by
  obtain ⟨⟨h1, h2⟩, h3⟩ := h
  refine ⟨⟨h1, ?_⟩, h3.trans (hb.mono h3.size)⟩
  rcases h2 with h2 | ⟨g, cap, cur, e, hg, hh, r⟩
  · exact .inl h2
  · exact .inr ⟨g, cap, cur, e, hg, (hb.block g (block_lt hh)).trans hh, r⟩
end Go.Proofs.Ytlmgogonghafeaa
