/-
  Equal of the program.
-/
import Derived.Test.YtbgpmekjcepmaabFjB
namespace Go.Proofs.Ytbgpmekjcepmaab
open Go.RowKit
set_option linter.unusedVariables false

set_option maxRecDepth 100000 in
set_option maxHeartbeats 4000000 in
theorem equal_len (a b : Option Addr) (n c d : Nat) (xs ys : List El) (w : World) (hx : IsE w a n c xs) (hy : IsE w b n d ys) :
    Calls Try.prog 16 #[.slice a n c, .slice b n d] w fun e w' => e = .returned (.bool (decide (xs = ys))) ∧ Below w.heap.size w w' := by
  have hc := hx.2.1
  have hc' := hx.2.2.1
  have LX := hd hx.1
  have LY := hd hy.1
  have HX := hd hx
  have HY := hd hy
  clear hx hy
  go_enter Try.func16, Try.ntmps16
  go_wp2
  go_loopw [14] (fun i wr => ∃ k : Nat, k ≤ n ∧ i = .int .i64 k ∧ Hid (xs.take k = ys.take k) ∧ Hid (Below w.heap.size w wr)) (fun i _ => n - (intOf i).toNat)
  case atStart => exact ⟨0, Nat.zero_le _, rfl, (rfl : _ = _), Below.refl _ _⟩
  case round =>
    obtain ⟨k, hk, rfl, hT, hB⟩ := hrel
    by_cases hlt : k < n
    · have X2 := HX.out.below hB.out
      have Y2 := HY.out.below hB.out
      obtain ⟨b1, o1, rfl, l1⟩ := X2.addr (by omega)
      obtain ⟨b2, o2, rfl, l2⟩ := Y2.addr (by omega)
      have kx : k < xs.length := by have := LX.out; omega
      have ky : k < ys.length := by have := LY.out; omega
      obtain ⟨x0, x1, x2⟩ := X2.at k hlt kx
      obtain ⟨y0, y1, y2⟩ := Y2.at k hlt ky
      have i1 : (k : Int) < (n : Int) := by omega
      have ll : xs.length = ys.length := LX.out.trans LY.out.symm
      have EQ : Hid (xs[k] = ys[k] → xs.take (k + 1) = ys.take (k + 1)) := fun e => eq_more kx ll hT.out e
      have NE : Hid (¬ xs[k] = ys[k] → ¬ xs = ys) := fun e => ne_of_at kx ll e
      generalize xs[k] = x at *
      generalize ys[k] = y at *
      obtain ⟨xa, xb, xc⟩ := x
      obtain ⟨ya, yb, yc⟩ := y
      simp only [] at x0 x1 x2 y0 y1 y2
      have B2 : Hid (Below w.heap.size w (wr.alloc (.cells #[.int .u8 xa, .int .i64 xb, .int .i64 xc] 46))) := hB.out.alloc hB.out.size _
      have z0 : (wr.alloc (.cells #[.int .u8 xa, .int .i64 xb, .int .i64 xc] 46)).cell? ⟨b2, o2 + k * 3, none⟩ = some (.int .u8 ya) := by
        rw [World.cell?_alloc_past _ b2 _ l2]; exact y0
      have z1 : (wr.alloc (.cells #[.int .u8 xa, .int .i64 xb, .int .i64 xc] 46)).cell? ⟨b2, o2 + k * 3 + 1, none⟩ = some (.int .i64 yb) := by
        rw [World.cell?_alloc_past _ b2 _ l2]; exact y1
      have z2 : (wr.alloc (.cells #[.int .u8 xa, .int .i64 xb, .int .i64 xc] 46)).cell? ⟨b2, o2 + k * 3 + 2, none⟩ = some (.int .i64 yc) := by
        rw [World.cell?_alloc_past _ b2 _ l2]; exact y2
      have n2 : ¬ b2 = wr.heap.size := by omega
      clear hT kx ky ll X2 Y2 hB
      by_cases e0 : xa = ya
      · by_cases e1 : xb = yb
        · by_cases e2 : xc = yc
          · subst e0 e1 e2
            have T2 := hd (EQ.out rfl)
            clear EQ NE
            go_wp2
            go_quiet (fail)
            go_wp2
            exact ⟨⟨k + 1, by omega, by go_num, T2, below_drewN B2.out _⟩, by simp [intOf]; omega⟩
          · have R := hd (NE.out (fun h => e2 (by simpa using (Prod.mk.inj (Prod.mk.inj h).2).2)))
            subst e0 e1
            clear EQ NE
            have e2' : (xc == yc) = false := by simpa using e2
            go_wp2
            go_quiet (fail)
            go_wp2
            go_ret
            exact ⟨by rw [decide_eq_false R.out]; rfl, below_drewN B2.out _⟩
        · have R := hd (NE.out (fun h => e1 (Prod.mk.inj (Prod.mk.inj h).2).1))
          subst e0
          clear EQ NE
          have e2' : (xb == yb) = false := by simpa using e1
          go_wp2
          go_quiet (fail)
          go_wp2
          go_ret
          exact ⟨by rw [decide_eq_false R.out]; rfl, below_drewN B2.out _⟩
      · have R := hd (NE.out (fun h => e0 (Prod.mk.inj h).1))
        clear EQ NE
        have e2' : (xa == ya) = false := by simpa using e0
        go_wp2
        go_quiet (fail)
        go_wp2
        go_ret
        exact ⟨by rw [decide_eq_false R.out]; rfl, below_drewN B2.out _⟩
    · obtain rfl : k = n := by omega
      have R : Hid (xs = ys) := by
        have h := hT.out
        rw [List.take_of_length_le (by rw [LX.out]; exact Nat.le_refl _), List.take_of_length_le (by rw [LY.out]; exact Nat.le_refl _)] at h
        exact h
      clear hT
      go_wp2
      go_ret
      exact ⟨by rw [decide_eq_true R.out]; rfl, hB.out⟩

set_option maxHeartbeats 1000000 in
theorem equal_any (a b : Option Addr) (n n' c d : Nat) (xs ys : List El) (w : World) (hx : IsE w a n c xs) (hy : IsE w b n' d ys) :
    Calls Try.prog 16 #[.slice a n c, .slice b n' d] w fun e w' => e = .returned (.bool (decide (xs = ys))) ∧ Below w.heap.size w w' := by
  by_cases h : n = n'
  · subst h
    exact equal_len a b n c d xs ys w hx hy
  · have R : Hid (¬ xs = ys) := by
      rintro rfl
      exact h (hx.1.symm.trans hy.1)
    have h' : ((n : Int) != (n' : Int)) = true := by simp; omega
    clear hx hy
    go_enter Try.func16, Try.ntmps16
    go_wp2
    go_ret
    exact ⟨by rw [decide_eq_false R.out]; rfl, Below.refl _ _⟩

end Go.Proofs.Ytbgpmekjcepmaab
