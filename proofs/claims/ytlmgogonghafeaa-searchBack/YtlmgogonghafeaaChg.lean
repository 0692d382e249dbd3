/-
  change, and Apply.
-/
import Derived.Test.YtlmgogonghafeaaDel
import Derived.Test.YtlmgogonghafeaaVb
namespace Go.Proofs.Ytlmgogonghafeaa
open Go.RowKit Go.Lib
set_option linter.unusedVariables false

/-- The text behind an operation that fits. -/
def applyP (xs : List El) (o : OpE) : List El :=
  if o.kind = 1 then xs.take o.pos.toNat ++ (o.ch, o.cl, o.sq) :: xs.drop o.pos.toNat
  else if o.kind = 2 then xs.take o.pos.toNat ++ xs.drop (o.pos.toNat + 1)
  else xs

theorem NowE.base {w w1 w2 : World} {β : Option Nat} {v : Value} {ys : List El} (hN : NowE w1 w2 β v ys) (hb : Below w.heap.size w w1) (hβ : ∀ g, β = some g → g < w.heap.size) : NowE w w2 β v ys := by
  obtain ⟨β', h1, h2, h3⟩ := hN
  refine ⟨β', h1, ?_, (Fr.of_below hb).trans h3⟩
  rcases h2 with h2 | ⟨g, h2, h4⟩
  · exact .inl h2
  · exact .inr ⟨g, h2, Nat.le_trans hb.size h4⟩

set_option maxHeartbeats 1000000 in
theorem change_ins (β : Option Nat) (v : Value) (i : Nat) (c l s : Int) (xs : List El) (w : World) (hS : SE w β v xs) (hi : i ≤ xs.length) (hn : xs.length < 4096) :
    Calls Try.prog 39 #[v, .agg #[.int .i64 1, .int .i64 i, .int .u8 c, .int .i64 l, .int .i64 s]] w fun e w' => ∃ v', e = .returned v' ∧ NowE w w' β v' (xs.take i ++ (c, l, s) :: xs.drop i) := by
  obtain ⟨a, cc, rfl, -, -⟩ := hS.form
  have HS := hd hS
  have HI := hd hi
  have HN := hd hn
  clear hS hi hn
  go_enter Try.func39, Try.ntmps39
  go_wp2_with fail
  generalize hW : World.alloc _ _ = W1
  have B1 : Below w.heap.size w W1 := by
    rw [← hW]
    exact ((Below.refl _ _).alloc (Nat.le_refl _) _).alloc (by simp) _
  refine (insert_any β _ i (w.heap.size + 1) (c, l, s) xs W1 (HS.out.below B1) HI.out HN.out (by rw [← hW, show w.heap.size + 1 = (w.alloc _).heap.size from by simp, heap_alloc_new]; rfl) (fun h => by have := HS.out.lt _ h; omega)).mono ?_
  rintro e w2 ⟨v', rfl, hN⟩
  have N2 := hd (hN.base B1 HS.out.lt)
  clear hN hW B1
  go_wp2
  go_ret
  exact ⟨_, rfl, N2.out⟩

set_option maxHeartbeats 1000000 in
theorem change_del (β : Option Nat) (v : Value) (i : Nat) (c l s : Int) (xs : List El) (w : World) (hS : SE w β v xs) (hi : i < xs.length) (hn : xs.length ≤ 4096) :
    Calls Try.prog 39 #[v, .agg #[.int .i64 2, .int .i64 i, .int .u8 c, .int .i64 l, .int .i64 s]] w fun e w' => ∃ v', e = .returned v' ∧ NowE w w' β v' (xs.take i ++ xs.drop (i + 1)) := by
  obtain ⟨a, cc, rfl, -, -⟩ := hS.form
  have HS := hd hS
  have HI := hd hi
  have HN := hd hn
  have hw1 : IntKind.i64.wrap ((i : Int) + 1) = (i : Int) + 1 := by rw [IntKind.wrap_i64]; omega
  clear hS hi hn
  go_enter Try.func39, Try.ntmps39
  go_wp2_with fail
  generalize hW : World.alloc _ _ = W1
  have B1 : Below w.heap.size w W1 := by
    rw [← hW]
    exact (Below.refl _ _).alloc (Nat.le_refl _) _
  refine (delete_any β _ i xs W1 (HS.out.below B1) HI.out HN.out).mono ?_
  rintro e w2 ⟨v', rfl, hN⟩
  have N2 := hd (hN.base B1 HS.out.lt)
  clear hN hW B1
  go_wp2
  go_ret
  exact ⟨_, rfl, N2.out⟩

set_option maxHeartbeats 1000000 in
theorem change_nop (β : Option Nat) (v : Value) (p c l s : Int) (xs : List El) (w : World) (hS : SE w β v xs) :
    Calls Try.prog 39 #[v, .agg #[.int .i64 0, .int .i64 p, .int .u8 c, .int .i64 l, .int .i64 s]] w fun e w' => ∃ v', e = .returned v' ∧ NowE w w' β v' xs := by
  obtain ⟨a, cc, rfl, -, -⟩ := hS.form
  have B1 : Below w.heap.size w (w.alloc (.cells #[.int .i64 0, .int .i64 p, .int .u8 c, .int .i64 l, .int .i64 s] 39)) := (Below.refl _ _).alloc (Nat.le_refl _) _
  have R : Hid (NowE w (w.alloc (.cells #[.int .i64 0, .int .i64 p, .int .u8 c, .int .i64 l, .int .i64 s] 39)) β (.slice a xs.length cc) xs) := ⟨β, hS.below B1, .inl rfl, Fr.of_below B1⟩
  clear hS B1
  go_enter Try.func39, Try.ntmps39
  go_wp2
  go_ret
  exact ⟨_, rfl, R.out⟩

theorem change_any (β : Option Nat) (v : Value) (k p c l s : Int) (xs : List El) (w : World) (hS : SE w β v xs) (hf : fitsP xs.length ⟨k, p, c, l, s⟩ = 0) :
    Calls Try.prog 39 #[v, .agg #[.int .i64 k, .int .i64 p, .int .u8 c, .int .i64 l, .int .i64 s]] w fun e w' => ∃ v', e = .returned v' ∧ NowE w w' β v' (applyP xs ⟨k, p, c, l, s⟩) := by
  obtain ⟨hv, h0, h1, h2, h3⟩ := fitsP_zero hf
  simp only at h2 h3
  obtain ⟨i, rfl⟩ : ∃ i : Nat, p = (i : Int) := ⟨p.toNat, by omega⟩
  rcases h2 with rfl | ⟨rfl, h4, h5⟩ | ⟨rfl, h4⟩
  · simp only [applyP]
    exact change_nop β v i c l s xs w hS
  · simp only [applyP, Int.toNat_natCast]
    exact change_ins β v i c l s xs w hS (by omega) (by omega)
  · simp only [applyP, Int.toNat_natCast]
    exact change_del β v i c l s xs w hS (by omega) (by omega)

theorem applyP_len {xs : List El} {o : OpE} (hf : fitsP xs.length o = 0) : ((applyP xs o).length : Int) = if o.kind = 1 then (xs.length : Int) + 1 else if o.kind = 2 then (xs.length : Int) - 1 else (xs.length : Int) := by
  obtain ⟨hv, h0, h1, h2, h3⟩ := fitsP_zero hf
  unfold applyP
  rcases h2 with h2 | ⟨h2, h4, h5⟩ | ⟨h2, h4⟩ <;> simp [h2] <;> omega

theorem applyP_le {xs : List El} {o : OpE} (hf : fitsP xs.length o = 0) : (applyP xs o).length ≤ 4096 := by
  obtain ⟨hv, h0, h1, h2, h3⟩ := fitsP_zero hf
  have := applyP_len hf
  rcases h2 with h2 | ⟨h2, h4, h5⟩ | ⟨h2, h4⟩ <;> simp [h2] at this <;> omega

end Go.Proofs.Ytlmgogonghafeaa
