/-
  Equal of the document, same, place.
-/
import Derived.Test.YtbgpmekjcepmaabParts
import Derived.Deep.QuietTactic
import Derived.BigQuiet
namespace Go.Proofs.Ytbgpmekjcepmaab
open Go.RowKit
set_option linter.unusedVariables false

theorem drewN2 (w : World) (m n : Nat) : (w.drewN m).drewN n = w.drewN (m + n) := by
  simp

theorem take_snocE (xs : List El) (k : Nat) (h : k < xs.length) : xs.take (k + 1) = xs.take k ++ [xs[k]] := List.take_succ_eq_append_getElem h

theorem eq_more {xs ys : List El} {k : Nat} (hk : k < xs.length) (hl : xs.length = ys.length) (h : xs.take k = ys.take k) (e : xs[k] = ys[k]'(by omega)) : xs.take (k + 1) = ys.take (k + 1) := by
  rw [take_snocE xs k hk, take_snocE ys k (by omega), h, e]

theorem ne_of_at {xs ys : List El} {k : Nat} (hk : k < xs.length) (hl : xs.length = ys.length) (e : ¬ xs[k] = ys[k]'(by omega)) : ¬ xs = ys := by
  rintro rfl
  exact e rfl

theorem IsE.drewN {w : World} {a : Option Addr} {n c : Nat} {xs : List El} (h : IsE w a n c xs) (m : Nat) : IsE (w.drewN m) a n c xs := h.fr (Fr.drewN (fun _ => False) w m) (fun _ _ _ _ h => h)

set_option maxRecDepth 100000 in
set_option maxHeartbeats 4000000 in
theorem requal_len (a b : Option Addr) (n c d : Nat) (xs ys : List El) (w : World) (hx : IsE w a n c xs) (hy : IsE w b n d ys) :
    Calls Try.prog 27 #[.slice a n c, .slice b n d] w fun e w' => e = .returned (.bool (decide (xs = ys))) ∧ ∃ m, w' = w.drewN m := by
  have hc := hx.2.1
  have hc' := hx.2.2.1
  have LX := hd hx.1
  have LY := hd hy.1
  have HX := hd hx
  have HY := hd hy
  clear hx hy
  go_enter Try.func27, Try.ntmps27
  go_wp2
  go_loopw [5] (fun i wr => ∃ k m : Nat, k ≤ n ∧ i = .int .i64 k ∧ Hid (xs.take k = ys.take k) ∧ wr = w.drewN m) (fun i _ => n - (intOf i).toNat)
  case atStart => exact ⟨0, 0, Nat.zero_le _, rfl, (rfl : _ = _), rfl⟩
  case round =>
    obtain ⟨k, m, hk, rfl, hT, rfl⟩ := hrel
    by_cases hlt : k < n
    · obtain ⟨b1, o1, rfl, -⟩ := HX.out.addr (by omega)
      obtain ⟨b2, o2, rfl, -⟩ := HY.out.addr (by omega)
      have kx : k < xs.length := by have := LX.out; omega
      have ky : k < ys.length := by have := LY.out; omega
      obtain ⟨x0, x1, x2⟩ := HX.out.at k hlt kx
      obtain ⟨y0, y1, y2⟩ := HY.out.at k hlt ky
      have i1 : (k : Int) < (n : Int) := by omega
      have ll : xs.length = ys.length := LX.out.trans LY.out.symm
      have EQ : Hid (xs[k] = ys[k] → xs.take (k + 1) = ys.take (k + 1)) := fun e => eq_more kx ll hT.out e
      have NE : Hid (¬ xs[k] = ys[k] → ¬ xs = ys) := fun e => ne_of_at kx ll e
      generalize xs[k] = x at *
      generalize ys[k] = y at *
      obtain ⟨xa, xb, xc⟩ := x
      obtain ⟨ya, yb, yc⟩ := y
      clear hT kx ky ll
      by_cases e0 : xa = ya
      · by_cases e1 : xb = yb
        · by_cases e2 : xc = yc
          · subst e0 e1 e2
            have T2 := hd (EQ.out rfl)
            clear EQ NE
            go_wp2
            go_quiet (fail)
            go_wp2
            exact ⟨⟨k + 1, _, by omega, by go_num, T2, rfl⟩, by simp [intOf]; omega⟩
          · have R := hd (NE.out (fun h => e2 (by simpa using (Prod.mk.inj (Prod.mk.inj h).2).2)))
            subst e0 e1
            clear EQ NE
            have e2' : (xc != yc) = true := by simpa using e2
            go_wp2
            go_quiet (fail)
            go_wp2
            go_ret
            exact ⟨by rw [decide_eq_false R.out]; rfl, _, drewN2 _ _ _⟩
        · have R := hd (NE.out (fun h => e1 (Prod.mk.inj (Prod.mk.inj h).2).1))
          subst e0
          clear EQ NE
          have e2' : (xb != yb) = true := by simpa using e1
          go_wp2
          go_quiet (fail)
          go_wp2
          go_ret
          exact ⟨by rw [decide_eq_false R.out]; rfl, _, drewN2 _ _ _⟩
      · have R := hd (NE.out (fun h => e0 (Prod.mk.inj h).1))
        clear EQ NE
        have e2' : (xa != ya) = true := by simpa using e0
        go_wp2
        go_quiet (fail)
        go_wp2
        go_ret
        exact ⟨by rw [decide_eq_false R.out]; rfl, _, drewN2 _ _ _⟩
    · obtain rfl : k = n := by omega
      have R : Hid (xs = ys) := by
        have h := hT.out
        rw [List.take_of_length_le (by rw [LX.out]; exact Nat.le_refl _), List.take_of_length_le (by rw [LY.out]; exact Nat.le_refl _)] at h
        exact h
      clear hT
      go_wp2
      go_ret
      exact ⟨by rw [decide_eq_true R.out]; rfl, _, rfl⟩

set_option maxHeartbeats 1000000 in
theorem requal_any (a b : Option Addr) (n n' c d : Nat) (xs ys : List El) (w : World) (hx : IsE w a n c xs) (hy : IsE w b n' d ys) :
    Calls Try.prog 27 #[.slice a n c, .slice b n' d] w fun e w' => e = .returned (.bool (decide (xs = ys))) ∧ ∃ m, w' = w.drewN m := by
  by_cases h : n = n'
  · subst h
    exact requal_len a b n c d xs ys w hx hy
  · have R : Hid (¬ xs = ys) := by
      rintro rfl
      exact h (hx.1.symm.trans hy.1)
    have h' : ((n : Int) != (n' : Int)) = true := by simp; omega
    have W : Hid (w = w.drewN 0) := (rfl : _ = _)
    clear hx hy
    go_enter Try.func27, Try.ntmps27
    go_wp2
    go_ret
    exact ⟨by rw [decide_eq_false R.out]; rfl, 0, W.out⟩

set_option maxHeartbeats 1000000 in
theorem same_any (a b : Option Addr) (n n' c d : Nat) (xs ys : List El) (w : World) (hx : IsE w a n c xs) (hy : IsE w b n' d ys) :
    Calls Try.prog 10 #[.slice a n c, .slice b n' d] w fun e w' => e = .returned (.bool (decide (xs = ys))) ∧ ∃ m, w' = w.drewN m := by
  have HX := hd hx
  have HY := hd hy
  clear hx hy
  go_enter Try.func10, Try.ntmps10
  go_wp2_with fail
  refine (requal_any a b n n' c d xs ys w HX.out HY.out).mono ?_
  rintro e w' ⟨rfl, m, rfl⟩
  go_wp2
  go_ret
  exact ⟨rfl, m, rfl⟩

end Go.Proofs.Ytbgpmekjcepmaab
