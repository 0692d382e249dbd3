/-
  wire: OnesCount16, size, put8, put16, putter, getter, op, with, ofItem, item.
-/
import Derived.Test.YtibnlfdnnlbeeaaDoorVa
namespace Go.Proofs.YtibnlfdnnlbeeaaDoor
open Go.RowKit
set_option linter.unusedVariables false

set_option maxHeartbeats 2000000 in
theorem op_any (V : Nat → Int) (w : World) (h11 : 0 ≤ V 11 ∧ V 11 ≤ 255) : Calls Tryd.prog 45 #[.agg #[.int .i64 (V 0), .int .i64 (V 1), .int .i64 (V 2), .int .i64 (V 3), .int .i64 (V 4), .int .i64 (V 5), .int .i64 (V 6), .int .i64 (V 7), .int .i64 (V 8), .int .i64 (V 9), .int .i64 (V 10), .int .i64 (V 11), .int .i64 (V 12), .int .i64 (V 13)]] w fun e w' => e = .returned (.agg #[.int .i64 (V 9), .int .i64 (V 10), .int .u8 (V 11), .int .i64 (V 12), .int .i64 (V 13)]) ∧ Below w.heap.size w w' := by
  have hm : V 11 % 256 = V 11 := by omega
  go_enter Tryd.func45, Tryd.ntmps45
  go_wp2
  refine bodyPost_ret (v := .agg #[.int .i64 (V 9), .int .i64 (V 10), .int .u8 (V 11), .int .i64 (V 12), .int .i64 (V 13)]) (by simp [results, Tryd.results45, go_sem]) rfl ?_
  exact ⟨rfl, by repeat (first | exact Below.refl _ _ | refine Below.alloc ?_ (by simp) _ | refine Below.setCell ?_ (by simp) _)⟩

theorem OwnB.but {w w' : World} {r base : Nat} {v : Value} {n : Nat} {xs : List Int} (h : OwnB w base v n xs) (hb : But r w w') (hr : r < base) : OwnB w' base v n xs := by
  refine ⟨h.1, ?_⟩
  rcases h.2 with h0 | ⟨g, cap, cur, e, hbg, hh, q⟩
  · exact .inl h0
  · exact .inr ⟨g, cap, cur, e, hbg, (hb.block g (block_lt hh) (by omega)).trans hh, q⟩

/-- The writer at block g holds the bytes xs. -/
def WR (w : World) (g : Nat) (xs : List Int) : Prop := ∃ a c, w.heap[g]? = some (.cells #[.slice a xs.length c] 83 (0, 0)) ∧ OwnB w (g + 1) (.slice a xs.length c) xs.length xs
theorem WR.lt {w : World} {g : Nat} {xs : List Int} (h : WR w g xs) : g < w.heap.size := by
  obtain ⟨a, c, h, -⟩ := h
  exact block_lt h
theorem WR.below {w w' : World} {g : Nat} {xs : List Int} (h : WR w g xs) (hb : Below w.heap.size w w') : WR w' g xs := by
  obtain ⟨a, c, h1, h2⟩ := h
  exact ⟨a, c, (hb.block g (block_lt h1)).trans h1, h2.below hb (Nat.le_refl _)⟩
theorem WR.new (w : World) : WR (w.alloc (.cells #[.slice none 0 0] 83)) w.heap.size [] := ⟨none, 0, heap_alloc_new _ _, World.ownsRow_nil _ _ _ _⟩

theorem store_wr {w w1 : World} {g : Nat} {xs ys : List Int} {v : Value} {m : Nat} (h : WR w g xs) (b : Below w.heap.size w w1) (ho : OwnB w1 w.heap.size v m ys) :
    ∃ a' c', v = .slice a' m c' ∧ WR (w1.setCell ⟨g, 0, none⟩ (.slice a' m c')) g ys ∧ But g w (w1.setCell ⟨g, 0, none⟩ (.slice a' m c')) := by
  have hg := h.lt
  obtain ⟨a, c, h1, -⟩ := h
  have h1' := (b.block g hg).trans h1
  obtain ⟨a', c', rfl, hB⟩ := ho.isB
  have bu : But g w1 (w1.setCell ⟨g, 0, none⟩ (.slice a' m c')) := But.setCell g w1 0 _
  obtain rfl : ys.length = m := hB.1
  exact ⟨a', c', rfl, ⟨a', c', set_row h1' 0 _, (ho.mono (by omega)).but bu (Nat.lt_succ_self _)⟩, (But.of_below b).trans bu⟩

set_option maxHeartbeats 1000000 in
theorem put8_any (g : Nat) (x : Int) (xs : List Int) (w : World) (h : WR w g xs) (hx : 0 ≤ x ∧ x ≤ 65535) (hl : xs.length ≤ 90) :
    Calls Tryd.prog 35 #[.pointer (some ⟨g, 0, none⟩), .int .i64 x] w fun e w' => e = .returned (.tuple #[]) ∧ WR w' g (xs ++ [x % 256]) ∧ But g w w' := by
  have H := hd h
  obtain ⟨a, c, h1, h2⟩ := h
  obtain ⟨n, hN⟩ : ∃ n, xs.length = n := ⟨_, rfl⟩
  rw [hN] at h1 h2 hl
  obtain ⟨_, _, e0, hB⟩ := h2.isB
  obtain ⟨rfl, -, rfl⟩ := Value.slice.inj e0
  have c0 : w.cell? ⟨g, 0, none⟩ = some (.slice a n c) := by rw [cell_row h1]; rfl
  have f0 : w.frozen? ⟨g, 0, none⟩ = false := frozen_row h1 0
  have HB := hd hB
  have hn : n ≤ 90 := hl
  have hx2 : x % 18446744073709551616 = x := by omega
  clear h1 h2 hB e0 hN hl
  go_enter Tryd.func35, Tryd.ntmps35
  go_wp2_with fail
  refine (prog1 a n c x xs _ HB.out (by omega) (by omega)).mono ?_
  rintro e w1 ⟨v, rfl, ho, hb⟩
  rw [bytes1] at ho
  have c1 := (hb.cell (p := ⟨g, 0, none⟩) H.out.lt).trans c0
  have f1 : w1.frozen? ⟨g, 0, none⟩ = false := by
    obtain ⟨_, _, h1, -⟩ := H.out.below hb
    exact frozen_row h1 0
  obtain ⟨a', c', rfl, hR⟩ := store_wr H.out hb ho
  have R := hd hR
  clear ho hb c0 f0 hR
  go_wp2
  refine bodyPost_end (v := .tuple #[]) (by simp [results, Tryd.results35, go_sem]) rfl ?_
  exact ⟨rfl, R.out⟩

set_option maxHeartbeats 1000000 in
theorem put16_any (g : Nat) (x : Int) (xs : List Int) (w : World) (h : WR w g xs) (hx : 0 ≤ x ∧ x ≤ 65535) (hl : xs.length ≤ 90) :
    Calls Tryd.prog 55 #[.pointer (some ⟨g, 0, none⟩), .int .i64 x] w fun e w' => e = .returned (.tuple #[]) ∧ WR w' g (xs ++ [x / 256 % 256, x % 256]) ∧ But g w w' := by
  have H := hd h
  obtain ⟨a, c, h1, h2⟩ := h
  obtain ⟨n, hN⟩ : ∃ n, xs.length = n := ⟨_, rfl⟩
  rw [hN] at h1 h2 hl
  obtain ⟨_, _, e0, hB⟩ := h2.isB
  obtain ⟨rfl, -, rfl⟩ := Value.slice.inj e0
  have c0 : w.cell? ⟨g, 0, none⟩ = some (.slice a n c) := by rw [cell_row h1]; rfl
  have f0 : w.frozen? ⟨g, 0, none⟩ = false := frozen_row h1 0
  have HB := hd hB
  have hn : n ≤ 90 := hl
  have hx2 : x % 18446744073709551616 = x := by omega
  clear h1 h2 hB e0 hN hl
  go_enter Tryd.func55, Tryd.ntmps55
  go_wp2_with fail
  refine (prog2 a n c x xs _ HB.out (by omega) (by omega)).mono ?_
  rintro e w1 ⟨v, rfl, ho, hb⟩
  rw [bytes2] at ho
  have c1 := (hb.cell (p := ⟨g, 0, none⟩) H.out.lt).trans c0
  have f1 : w1.frozen? ⟨g, 0, none⟩ = false := by
    obtain ⟨_, _, h1, -⟩ := H.out.below hb
    exact frozen_row h1 0
  obtain ⟨a', c', rfl, hR⟩ := store_wr H.out hb ho
  have R := hd hR
  clear ho hb c0 f0 hR
  go_wp2
  refine bodyPost_end (v := .tuple #[]) (by simp [results, Tryd.results55, go_sem]) rfl ?_
  exact ⟨rfl, R.out⟩

set_option maxHeartbeats 1000000 in
theorem putter_any (g f : Nat) (w : World) (hf : f < 14) :
    Calls Tryd.prog 38 #[.pointer (some ⟨g, 0, none⟩), .int .i64 f] w fun e w' => e = .returned (.func (Fn.func (if hasP 1512 f then 55 else 35)) #[.pointer (some ⟨g, 0, none⟩)] #[]) ∧ w' = w := by
  obtain ⟨b, hb⟩ : ∃ b, hasP 1512 f = b := ⟨_, rfl⟩
  have C := hd (has_any 1512 f w (by omega) hf)
  rw [hb] at C
  rw [hb]
  clear hb
  go_enter Tryd.func38, Tryd.ntmps38
  go_wp2_with fail
  refine C.out.mono ?_
  rintro e w1 ⟨rfl, rfl⟩
  cases b with
  | true =>
    go_wp2
    go_ret
    exact ⟨rfl, rfl⟩
  | false =>
    go_wp2
    go_ret
    exact ⟨rfl, rfl⟩

set_option maxHeartbeats 1000000 in
theorem getter_any (g f : Nat) (w : World) (hf : f < 14) :
    Calls Tryd.prog 44 #[.pointer (some ⟨g, 0, none⟩), .int .i64 f] w fun e w' => e = .returned (.func (Fn.func (if hasP 1512 f then 59 else 41)) #[.pointer (some ⟨g, 0, none⟩)] #[]) ∧ w' = w := by
  obtain ⟨b, hb⟩ : ∃ b, hasP 1512 f = b := ⟨_, rfl⟩
  have C := hd (has_any 1512 f w (by omega) hf)
  rw [hb] at C
  rw [hb]
  clear hb
  go_enter Tryd.func44, Tryd.ntmps44
  go_wp2_with fail
  refine C.out.mono ?_
  rintro e w1 ⟨rfl, rfl⟩
  cases b with
  | true =>
    go_wp2
    go_ret
    exact ⟨rfl, rfl⟩
  | false =>
    go_wp2
    go_ret
    exact ⟨rfl, rfl⟩

end Go.Proofs.YtibnlfdnnlbeeaaDoor
