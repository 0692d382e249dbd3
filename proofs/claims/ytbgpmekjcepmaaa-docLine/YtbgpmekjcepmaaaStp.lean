/-
  stepped.
-/
import Derived.Test.YtbgpmekjcepmaaaEq
import Derived.Test.YtbgpmekjcepmaaaApp
import Derived.Deep.QuietTactic
import Derived.BigQuiet
namespace Go.Proofs.Ytbgpmekjcepmaaa
open Go.RowKit
set_option linter.unusedVariables false

theorem same_true (a b : Option Addr) (n c n' d : Nat) (xs ys : List El) (w : World) (hx : IsE w a n c xs) (hy : IsE w b n' d ys) (h : xs = ys) :
    Calls Try.prog 21 #[.slice a n c, .slice b n' d] w fun e w' => e = .returned (.bool true) ∧ ∃ m, w' = w.drewN m := by
  refine (same_any a b n n' c d xs ys w hx hy).mono ?_
  rintro e w' ⟨rfl, hm⟩
  exact ⟨by rw [decide_eq_true h], hm⟩

theorem isE_zero (w : World) (a : Option Addr) (c : Nat) (hc : c ≤ 9223372036854775807) : IsE w a 0 c [] := ⟨rfl, Nat.zero_le _, hc, fun h => by omega⟩

theorem isE_none {w : World} {a : Option Addr} {c : Nat} {xs : List El} (hl : xs.length = 0) (hc : c ≤ 9223372036854775807) : IsE w a 0 c xs := by
  rw [List.eq_nil_of_length_eq_zero hl]
  exact isE_zero w a c hc

theorem IsE.to {w : World} {a : Option Addr} {n n' c : Nat} {xs : List El} (h : IsE w a n c xs) (e : n = n') : IsE w a n' c xs := e ▸ h

set_option maxRecDepth 100000 in
set_option maxHeartbeats 8000000 in
theorem stepped_del (b off m c g cp p : Nat) (ch l s : Int) (xs ys : List El) (w : World) (hp : p ≤ m) (hm : m ≤ 4096) (hx : IsE w (some ⟨b, off, none⟩) (m + 1) c xs) (hy : IsE w (some ⟨g, 0, none⟩) m cp ys) (he : ys = xs.take p ++ xs.drop (p + 1)) :
    Calls Try.prog 25 #[.slice (some ⟨b, off, none⟩) (m + 1) c, .agg #[.int .i64 2, .int .i64 p, .int .u8 ch, .int .i64 l, .int .i64 s], .slice (some ⟨g, 0, none⟩) m cp] w fun e w' => e = .returned (.bool true) ∧ Below w.heap.size w w' := by
  have hlx := hx.1
  have hly := hy.1
  have hc1 := hx.2.1
  have hc2 := hx.2.2.1
  have hd1 := hy.2.1
  have hd2 := hy.2.2.1
  have hlt : (xs.take p).length = p := by simp; omega
  have T1 : Hid (ys.take p = xs.take p) := by rw [he]; show _ = _; rw [List.take_append_of_le_length (by omega), List.take_of_length_le (by omega)]
  have T2 : Hid (ys.drop p = xs.drop (p + 1)) := by
    rw [he]
    show _ = _
    have e := List.drop_left (l₁ := xs.take p) (l₂ := xs.drop (p + 1))
    rw [hlt] at e
    exact e
  have B1 : Below w.heap.size w (w.alloc (.cells #[.int .i64 2, .int .i64 p, .int .u8 ch, .int .i64 l, .int .i64 s] 23)) := (Below.refl _ _).alloc (Nat.le_refl _) _
  have HB := hd B1
  have X1 := hd ((hx.below B1).take p (by omega))
  have Y1 := hd ((hy.below B1).take p (by omega))
  have X2 := hd ((hx.below B1).drop (p + 1) (by omega))
  have Y2 := hd ((hy.below B1).drop p hp)
  simp only [Nat.zero_add] at Y2
  have HLX := hd hlx
  have HLY := hd hly
  clear hx hy he B1 hlt hlx hly
  have hw1 : IntKind.i64.wrap ((p : Int) + 1) = (p : Int) + 1 := by rw [IntKind.wrap_i64]; omega
  have hw2 : IntKind.i64.wrap (m : Int) = (m : Int) := by rw [IntKind.wrap_i64]; omega
  have z1 : (p : Int) ≤ (cp : Int) := by omega
  have z2 : (p : Int) ≤ (c : Int) := by omega
  have z3 : (p : Int) ≤ (m : Int) := by omega
  have z4 : (p : Int) + 1 ≤ (m : Int) + 1 := by omega
  have z5 : (0 : Int) ≤ (p : Int) + 1 := by omega
  have z6 : ((p : Int) + 1).toNat = p + 1 := by omega
  have z7 : m + 1 - (p + 1) = m - p := by omega
  by_cases hmp : p = m
  · subst hmp
    by_cases q1 : cp = p
    · by_cases q2 : c = p + 1
      · subst q1
        subst q2
        go_enter Try.func25, Try.ntmps25
        go_wp2_with fail
        go_quiet (first | (go_at_call 21; exact Calls.quiet_of (same_true _ _ _ _ _ _ _ _ _ (Y1.out.drewN _) (X1.out.drewN _) T1.out)) | (go_at_call 21; exact Calls.quiet_of (same_true _ _ _ _ _ _ _ _ _ (isE_none (by have := HLY.out; simp; omega) (by omega)) (isE_none (by have := HLX.out; simp; omega) (by omega)) T2.out)))
        go_wp2
        go_ret
        exact ⟨rfl, below_drewN HB.out _⟩
      · subst q1
        go_enter Try.func25, Try.ntmps25
        go_wp2_with fail
        go_quiet (first | (go_at_call 21; exact Calls.quiet_of (same_true _ _ _ _ _ _ _ _ _ (Y1.out.drewN _) (X1.out.drewN _) T1.out)) | (go_at_call 21; exact Calls.quiet_of (same_true _ _ _ _ _ _ _ _ _ (isE_none (by have := HLY.out; simp; omega) (by omega)) (isE_none (by have := HLX.out; simp; omega) (by omega)) T2.out)))
        go_wp2
        go_ret
        exact ⟨rfl, below_drewN HB.out _⟩
    · by_cases q2 : c = p + 1
      · subst q2
        go_enter Try.func25, Try.ntmps25
        go_wp2_with fail
        go_quiet (first | (go_at_call 21; exact Calls.quiet_of (same_true _ _ _ _ _ _ _ _ _ (Y1.out.drewN _) (X1.out.drewN _) T1.out)) | (go_at_call 21; exact Calls.quiet_of (same_true _ _ _ _ _ _ _ _ _ (isE_none (by have := HLY.out; simp; omega) (by omega)) (isE_none (by have := HLX.out; simp; omega) (by omega)) T2.out)))
        go_wp2
        go_ret
        exact ⟨rfl, below_drewN HB.out _⟩
      · go_enter Try.func25, Try.ntmps25
        go_wp2_with fail
        go_quiet (first | (go_at_call 21; exact Calls.quiet_of (same_true _ _ _ _ _ _ _ _ _ (Y1.out.drewN _) (X1.out.drewN _) T1.out)) | (go_at_call 21; exact Calls.quiet_of (same_true _ _ _ _ _ _ _ _ _ (isE_none (by have := HLY.out; simp; omega) (by omega)) (isE_none (by have := HLX.out; simp; omega) (by omega)) T2.out)))
        go_wp2
        go_ret
        exact ⟨rfl, below_drewN HB.out _⟩
  · have q1 : ¬ cp = p := by omega
    have q2 : ¬ c = p + 1 := by omega
    go_enter Try.func25, Try.ntmps25
    go_wp2_with fail
    go_quiet (first | (go_at_call 21; exact Calls.quiet_of (same_true _ _ _ _ _ _ _ _ _ (Y1.out.drewN _) (X1.out.drewN _) T1.out)) | (go_at_call 21; exact Calls.quiet_of (same_true _ _ _ _ _ _ _ _ _ (Y2.out.drewN _) ((X2.out.to z7).drewN _) T2.out)))
    go_wp2
    go_ret
    exact ⟨rfl, below_drewN HB.out _⟩

set_option maxRecDepth 100000 in
set_option maxHeartbeats 8000000 in
theorem stepped_ins (b off n c g cp p : Nat) (ch l s : Int) (xs ys : List El) (w : World) (hp : p ≤ n) (hm : n ≤ 4096) (hx : IsE w (some ⟨b, off, none⟩) n c xs) (hy : IsE w (some ⟨g, 0, none⟩) (n + 1) cp ys) (he : ys = xs.take p ++ (ch, l, s) :: xs.drop p) :
    Calls Try.prog 25 #[.slice (some ⟨b, off, none⟩) n c, .agg #[.int .i64 1, .int .i64 p, .int .u8 ch, .int .i64 l, .int .i64 s], .slice (some ⟨g, 0, none⟩) (n + 1) cp] w fun e w' => e = .returned (.bool true) ∧ Below w.heap.size w w' := by
  have hlx := hx.1
  have hly := hy.1
  have hc1 := hx.2.1
  have hc2 := hx.2.2.1
  have hd1 := hy.2.1
  have hd2 := hy.2.2.1
  have hlt : (xs.take p).length = p := by simp; omega
  have T1 : Hid (ys.take p = xs.take p) := by rw [he]; show _ = _; rw [List.take_append_of_le_length (by omega), List.take_of_length_le (by omega)]
  have T2 : Hid (ys.drop (p + 1) = xs.drop p) := by
    rw [he]
    show _ = _
    rw [List.drop_append, List.drop_of_length_le (by omega), hlt]
    simp
  have qy : p < ys.length := by omega
  have el : ys[p] = (ch, l, s) := by
    simp only [he]
    rw [List.getElem_append_right (by omega)]
    simp [show min p xs.length = p by omega]
  have B1 : Below w.heap.size w (w.alloc (.cells #[.int .i64 1, .int .i64 p, .int .u8 ch, .int .i64 l, .int .i64 s] 23)) := (Below.refl _ _).alloc (Nat.le_refl _) _
  have HB := hd B1
  have at3 := (hy.below B1).at p (by omega) qy
  rw [el] at at3
  simp only [Nat.zero_add] at at3
  obtain ⟨k0, k1, k2⟩ := at3
  have X1 := hd ((hx.below B1).take p (by omega))
  have Y1 := hd ((hy.below B1).take p (by omega))
  have X2 := hd ((hx.below B1).drop p hp)
  have Y2 := hd ((hy.below B1).drop (p + 1) (by omega))
  simp only [Nat.zero_add] at Y2
  have HLX := hd hlx
  have HLY := hd hly
  have gl : g < w.heap.size := by
    obtain ⟨b', o', e, h⟩ := hy.addr (by omega)
    have e2 := Option.some.inj e
    simp at e2
    rw [e2.1]; exact h
  have gn : ¬ g = w.heap.size := by omega
  clear hx hy he B1 hlt hlx hly el qy
  have hw1 : IntKind.i64.wrap ((p : Int) + 1) = (p : Int) + 1 := by rw [IntKind.wrap_i64]; omega
  have hw2 : IntKind.i64.wrap ((n : Int) + 1) = (n : Int) + 1 := by rw [IntKind.wrap_i64]; omega
  have z1 : (p : Int) ≤ (cp : Int) := by omega
  have z2 : (p : Int) ≤ (c : Int) := by omega
  have z3 : (p : Int) ≤ (n : Int) := by omega
  have z4 : (p : Int) + 1 ≤ (n : Int) + 1 := by omega
  have z5 : (0 : Int) ≤ (p : Int) + 1 := by omega
  have z6 : ((p : Int) + 1).toNat = p + 1 := by omega
  have z7 : n + 1 - (p + 1) = n - p := by omega
  have z8 : (p : Int) < (n : Int) + 1 := by omega
  by_cases hmp : p = n
  · subst hmp
    by_cases q1 : cp = p + 1
    · by_cases q2 : c = p
      · subst q1
        subst q2
        go_enter Try.func25, Try.ntmps25
        go_wp2_with fail
        go_quiet (first | (go_at_call 21; exact Calls.quiet_of (same_true _ _ _ _ _ _ _ _ _ (Y1.out.drewN _) (X1.out.drewN _) T1.out)) | (go_at_call 21; exact Calls.quiet_of (same_true _ _ _ _ _ _ _ _ _ (isE_none (by have := HLY.out; simp; omega) (by omega)) (isE_none (by have := HLX.out; simp; omega) (by omega)) T2.out)))
        go_wp2
        go_ret
        exact ⟨rfl, (below_drewN HB.out _).alloc (by simp) _⟩
      · subst q1
        go_enter Try.func25, Try.ntmps25
        go_wp2_with fail
        go_quiet (first | (go_at_call 21; exact Calls.quiet_of (same_true _ _ _ _ _ _ _ _ _ (Y1.out.drewN _) (X1.out.drewN _) T1.out)) | (go_at_call 21; exact Calls.quiet_of (same_true _ _ _ _ _ _ _ _ _ (isE_none (by have := HLY.out; simp; omega) (by omega)) (isE_none (by have := HLX.out; simp; omega) (by omega)) T2.out)))
        go_wp2
        go_ret
        exact ⟨rfl, (below_drewN HB.out _).alloc (by simp) _⟩
    · by_cases q2 : c = p
      · subst q2
        go_enter Try.func25, Try.ntmps25
        go_wp2_with fail
        go_quiet (first | (go_at_call 21; exact Calls.quiet_of (same_true _ _ _ _ _ _ _ _ _ (Y1.out.drewN _) (X1.out.drewN _) T1.out)) | (go_at_call 21; exact Calls.quiet_of (same_true _ _ _ _ _ _ _ _ _ (isE_none (by have := HLY.out; simp; omega) (by omega)) (isE_none (by have := HLX.out; simp; omega) (by omega)) T2.out)))
        go_wp2
        go_ret
        exact ⟨rfl, (below_drewN HB.out _).alloc (by simp) _⟩
      · go_enter Try.func25, Try.ntmps25
        go_wp2_with fail
        go_quiet (first | (go_at_call 21; exact Calls.quiet_of (same_true _ _ _ _ _ _ _ _ _ (Y1.out.drewN _) (X1.out.drewN _) T1.out)) | (go_at_call 21; exact Calls.quiet_of (same_true _ _ _ _ _ _ _ _ _ (isE_none (by have := HLY.out; simp; omega) (by omega)) (isE_none (by have := HLX.out; simp; omega) (by omega)) T2.out)))
        go_wp2
        go_ret
        exact ⟨rfl, (below_drewN HB.out _).alloc (by simp) _⟩
  · have q1 : ¬ cp = p + 1 := by omega
    have q2 : ¬ c = p := by omega
    go_enter Try.func25, Try.ntmps25
    go_wp2_with fail
    go_quiet (first | (go_at_call 21; exact Calls.quiet_of (same_true _ _ _ _ _ _ _ _ _ (Y1.out.drewN _) (X1.out.drewN _) T1.out)) | (go_at_call 21; exact Calls.quiet_of (same_true _ _ _ _ _ _ _ _ _ ((Y2.out.to z7).drewN _) (X2.out.drewN _) T2.out)))
    go_wp2
    go_ret
    exact ⟨rfl, (below_drewN HB.out _).alloc (by simp) _⟩

set_option maxRecDepth 100000 in
set_option maxHeartbeats 8000000 in
theorem stepped_nil (g cp : Nat) (ch l s : Int) (ys : List El) (w : World) (hy : IsE w (some ⟨g, 0, none⟩) 1 cp ys) (he : ys = [(ch, l, s)]) :
    Calls Try.prog 25 #[.slice none 0 0, .agg #[.int .i64 1, .int .i64 0, .int .u8 ch, .int .i64 l, .int .i64 s], .slice (some ⟨g, 0, none⟩) 1 cp] w fun e w' => e = .returned (.bool true) ∧ Below w.heap.size w w' := by
  have hd1 := hy.2.1
  have hd2 := hy.2.2.1
  have T1 : Hid (ys.take 0 = ([] : List El)) := by show _ = _; simp
  have T2 : Hid (ys.drop 1 = ([] : List El)) := by rw [he]; show _ = _; simp
  have qy : 0 < ys.length := by rw [he]; simp
  have el : ys[0] = (ch, l, s) := by simp only [he]; rfl
  have B1 : Below w.heap.size w (w.alloc (.cells #[.int .i64 1, .int .i64 0, .int .u8 ch, .int .i64 l, .int .i64 s] 23)) := (Below.refl _ _).alloc (Nat.le_refl _) _
  have HB := hd B1
  have at3 := (hy.below B1).at 0 (by omega) qy
  rw [el] at at3
  simp only [Nat.zero_add, Nat.zero_mul] at at3
  obtain ⟨k0, k1, k2⟩ := at3
  have Y1 := hd ((hy.below B1).take 0 (by omega))
  have HLY := hd (show (ys.drop 1).length = 0 from by rw [he]; simp)
  have gl : g < w.heap.size := by
    obtain ⟨b', o', e, h⟩ := hy.addr (by omega)
    have e2 := Option.some.inj e
    simp at e2
    rw [e2.1]; exact h
  have gn : ¬ g = w.heap.size := by omega
  clear hy he B1 el qy
  have z1 : (0 : Int) ≤ (cp : Int) := by omega
  have z2 : (1 : Int) ≤ (cp : Int) := by omega
  by_cases q1 : cp = 1
  · subst q1
    go_enter Try.func25, Try.ntmps25
    go_wp2_with fail
    go_quiet (first | (go_at_call 21; exact Calls.quiet_of (same_true _ _ _ _ _ _ _ _ _ (Y1.out.drewN _) (isE_none (by simp) (by omega)) T1.out)) | (go_at_call 21; exact Calls.quiet_of (same_true _ _ _ _ _ _ _ _ _ (isE_none HLY.out (by omega)) (isE_none rfl (by omega)) T2.out)))
    go_wp2
    go_ret
    exact ⟨rfl, (below_drewN HB.out _).alloc (by simp) _⟩
  · go_enter Try.func25, Try.ntmps25
    go_wp2_with fail
    go_quiet (first | (go_at_call 21; exact Calls.quiet_of (same_true _ _ _ _ _ _ _ _ _ (Y1.out.drewN _) (isE_none (by simp) (by omega)) T1.out)) | (go_at_call 21; exact Calls.quiet_of (same_true _ _ _ _ _ _ _ _ _ (isE_none HLY.out (by omega)) (isE_none rfl (by omega)) T2.out)))
    go_wp2
    go_ret
    exact ⟨rfl, (below_drewN HB.out _).alloc (by simp) _⟩

end Go.Proofs.Ytbgpmekjcepmaaa
