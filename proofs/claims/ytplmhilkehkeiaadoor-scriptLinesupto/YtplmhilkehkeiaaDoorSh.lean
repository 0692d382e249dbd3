/-
  SplitN at a space; the words of a line.
-/
import Derived.Test.YtplmhilkehkeiaaDoorSg
namespace Go.Proofs.YtplmhilkehkeiaaDoor
open Go.RowKit
set_option linter.unusedVariables false

theorem splitB_spl (k : Nat) (s : ByteArray) : (Lib.splitB ⟨#[32]⟩ 0 k s).map tl = spl k (tl s) := by
  rw [show (Lib.splitB ⟨#[32]⟩ 0 k s).map tl = Lib.splitK [32] 0 k (tl s) from Lib.splitB_data ⟨#[32]⟩ 0 k s]
  generalize tl s = l
  induction k generalizing l with
  | zero => rfl
  | succ k ih =>
    unfold Lib.splitK
    rw [Lib.index_one]
    rcases cut1_index l with ⟨h1, h2⟩ | ⟨i, h1, h2, h3⟩
    · rw [h2, spl_none h1]; rfl
    · have hne : ((i : Int) == -1) = false := by simp
      rw [h1, hne, spl_some h3]
      simp [ih]

theorem splitB_row (w : World) (L : List ByteArray) (N : Nat) (hL : L.length ≤ N) (hN : N ≤ 100) : RowF es 1 (w.alloc (.cells (Lib.cellsOf L N) 9)) w.heap.size L.length N 9 L := by
  refine ⟨(Lib.cellsOf L N).toList, by rw [Array.toArray_toList]; exact heap_alloc_new _ _, ?_, rfl, hL, by omega, ?_⟩
  · unfold Lib.cellsOf
    rw [List.toList_toArray, Nat.mul_one]
    have : cl es L = L.map Value.string := by
      induction L with
      | nil => rfl
      | cons x r ih => rw [cl_cons, ih (by simp at hL; omega)]; rfl
    rw [this]
    have hl : L.length = (L.map Value.string).length := by simp
    rw [hl, List.take_left]
  · have := Lib.cellsOf_size hL
    rw [Array.length_toList, this, Nat.mul_one]

theorem genSplit_any (s : ByteArray) (n : Nat) (w : World) (hz : s.size ≤ 2000000) (h1 : 1 ≤ n) (h5 : n ≤ 5) :
    Calls Tryd.prog 59 #[.string s, .string ⟨#[32]⟩, .int .i64 0, .int .i64 n] w fun e w' => ∃ (ps : List ByteArray) (N : Nat), N = min n (s.size + 1) ∧ e = .returned (.slice (some ⟨w.heap.size, 0, none⟩) ps.length N) ∧ ps.map tl = spl (n - 1) (tl s) ∧ RowF es 1 w' w.heap.size ps.length N 9 ps ∧ Below w.heap.size w w' := by
  have hl := tl_size s
  obtain ⟨N, hN⟩ : ∃ N : Nat, N = min n (s.size + 1) := ⟨_, rfl⟩
  have hc := Any.strings_genSplit_core laysSplit Tryd.infoS s ⟨#[32]⟩ 0 (n : Int) N w (by omega) (by decide) (by decide)
    (fun x c hx => by
      have := index_any x (w.alloc (.cells c 9))
      rw [← Lib.index_one] at this
      exact this)
    (by
      have := count_any s w
      rw [show Lib.countByte (tl s) 32 = Lib.count (tl s) [32] from (Lib.count_one 32 _).symm] at this
      exact this)
    (by omega) (by omega) (by rw [if_neg (by omega)]; omega)
  refine hc.mono ?_
  rintro e w' ⟨rfl, rfl⟩
  have hle := Lib.splitB_length_le ⟨#[32]⟩ 0 (N - 1) s
  refine ⟨_, N, hN, rfl, ?_, splitB_row w _ N (by omega) (by omega), (Below.refl _ _).alloc (Nat.le_refl _) _⟩
  rw [splitB_spl]
  by_cases hm : n ≤ s.size + 1
  · rw [show N = n by omega]
  · rw [show N - 1 = s.size by omega, spl_more _ _ (by omega), spl_more _ _ (by omega)]

theorem splitN_any (s : ByteArray) (n : Nat) (w : World) (hz : s.size ≤ 2000000) (h1 : 1 ≤ n) (h5 : n ≤ 5) :
    Calls Tryd.prog 44 #[.string s, .string ⟨#[32]⟩, .int .i64 n] w fun e w' => ∃ (ps : List ByteArray) (N : Nat), N = min n (s.size + 1) ∧ e = .returned (.slice (some ⟨w.heap.size, 0, none⟩) ps.length N) ∧ ps.map tl = spl (n - 1) (tl s) ∧ RowF es 1 w' w.heap.size ps.length N 9 ps ∧ Below w.heap.size w w' := by
  go_enter Tryd.func44, Tryd.ntmps44
  go_wp2_with (go_at_call 59; refine (genSplit_any s n _ hz h1 h5).mono ?_; rintro e w' ⟨ps, N, hN, rfl, hr⟩; have HN := hd hN; clear hN)
  go_ret
  exact ⟨ps, N, HN.out, rfl, hr⟩

end Go.Proofs.YtplmhilkehkeiaaDoor
