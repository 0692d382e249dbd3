/-
  made, short, and rows of operations that grow.
-/
import Derived.Test.YtbgpmekjcepmaaaRep
import Derived.Test.YtbgpmekjcepmaaaPl
import Derived.Test.YtbgpmekjcepmaaaVd
import Derived.Laws.NewDeep
namespace Go.Proofs.Ytbgpmekjcepmaaa
open Go.RowKit
set_option linter.unusedVariables false

/-- The i-th operation, one that fits a text of n characters. -/
def MadeOp (n i : Nat) (o : OpE) : Prop :=
  ((o.kind = 2 ∧ (∃ p : Nat, o.pos = p ∧ p < n) ∧ o.ch = 0) ∨ (o.kind = 1 ∧ (∃ p : Nat, o.pos = p ∧ p ≤ n) ∧ 32 ≤ o.ch ∧ o.ch ≤ 126)) ∧ o.cl = 1 ∧ o.sq = 1 + (i : Int)

theorem MadeOp.fits {n i : Nat} {o : OpE} (h : MadeOp n i o) (hn : n < 4096) (hi : i < 64) : fitsP n o = 0 := by
  obtain ⟨k, p, c, l, s⟩ := o
  obtain ⟨h1, h2, h3⟩ := h
  simp only at h1 h2 h3
  subst h2 h3
  rcases h1 with ⟨rfl, ⟨p, rfl, hp⟩, rfl⟩ | ⟨rfl, ⟨p, rfl, hp⟩, hc, hc'⟩
  · exact fits_del (by omega) (by omega) (by omega) (by omega) hp (by omega)
  · exact fits_ins hc hc' (by omega) (by omega) (by omega) (by omega) hp hn

set_option maxRecDepth 100000 in
set_option maxHeartbeats 2000000 in
theorem made_any (out : Bool) (N ch : Int) (i n : Nat) (w : World) (hi : i < 64) (hn : n < 4096) (h0 : 0 ≤ ch) (h1 : ch ≤ 255) :
    Calls Try.prog 23 #[.agg #[.bool out, .int .i64 N, .int .u8 ch], .int .i64 i, .int .i64 n] w fun e w' =>
      ∃ k p c l s, e = .returned (.agg #[.int .i64 k, .int .i64 p, .int .u8 c, .int .i64 l, .int .i64 s]) ∧ MadeOp n i ⟨k, p, c, l, s⟩ ∧ 0 ≤ c ∧ c ≤ 255 ∧ Below w.heap.size w w' := by
  have d1 : (i : Int) / 64 = 0 := by omega
  have d2 : (i : Int) % 64 = (i : Int) := by omega
  have HC := hd (char_range h0)
  by_cases ho : out = true ∧ 0 < n
  · obtain ⟨rfl, hn0⟩ := ho
    have i1 : (n : Int) > 0 := by omega
    go_enter Try.func23, Try.ntmps23
    go_wp2_with fail
    refine (place_any N n _ (by omega) (by omega)).mono ?_
    rintro e w2 ⟨p, rfl, hp, rfl⟩
    have HP := hd hp
    clear hp
    go_wp2
    refine bodyPost_ret (v := .agg #[.int .i64 2, .int .i64 p, .int .u8 0, .int .i64 1, .int .i64 (1 + i)]) (by simp [results, Try.results23, go_sem]) rfl ?_
    exact ⟨_, _, _, _, _, rfl, ⟨.inl ⟨rfl, ⟨p, rfl, HP.out⟩, rfl⟩, rfl, rfl⟩, by omega, by omega, by exact (((Below.refl _ _).alloc (Nat.le_refl _) _).alloc (by simp) _).alloc (by simp; omega) _⟩
  · cases out with
    | false =>
      go_enter Try.func23, Try.ntmps23
      go_wp2_with fail
      refine (place_any N (n + 1) _ (by omega) (by omega)).mono ?_
      rintro e w2 ⟨p, rfl, hp, rfl⟩
      have HP := hd hp
      clear hp
      go_wp2
      refine bodyPost_ret (v := .agg #[.int .i64 1, .int .i64 p, .int .u8 (32 + ch % 95), .int .i64 1, .int .i64 (1 + i)]) (by simp [results, Try.results23, go_sem]) rfl ?_
      exact ⟨_, _, _, _, _, rfl, ⟨.inr ⟨rfl, ⟨p, rfl, by have := HP.out; omega⟩, HC.out.1, HC.out.2⟩, rfl, rfl⟩, by have := HC.out; omega, by have := HC.out; omega, by exact (((Below.refl _ _).alloc (Nat.le_refl _) _).alloc (by simp) _).alloc (by simp; omega) _⟩
    | true =>
      obtain rfl : n = 0 := by
        by_cases h : 0 < n
        · exact absurd ⟨rfl, h⟩ ho
        · omega
      go_enter Try.func23, Try.ntmps23
      go_wp2_with fail
      refine (place_any N 1 _ (by omega) (by omega)).mono ?_
      rintro e w2 ⟨p, rfl, hp, rfl⟩
      have HP := hd hp
      clear hp
      go_wp2
      refine bodyPost_ret (v := .agg #[.int .i64 1, .int .i64 p, .int .u8 (32 + ch % 95), .int .i64 1, .int .i64 (1 + i)]) (by simp [results, Try.results23, go_sem]) rfl ?_
      exact ⟨_, _, _, _, _, rfl, ⟨.inr ⟨rfl, ⟨p, rfl, by have := HP.out; omega⟩, HC.out.1, HC.out.2⟩, rfl, rfl⟩, by have := HC.out; omega, by have := HC.out; omega, by exact (((Below.refl _ _).alloc (Nat.le_refl _) _).alloc (by simp) _).alloc (by simp; omega) _⟩

end Go.Proofs.Ytbgpmekjcepmaaa
