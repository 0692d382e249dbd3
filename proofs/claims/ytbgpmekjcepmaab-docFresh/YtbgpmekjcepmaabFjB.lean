/-
  Find and Equal of the program.
-/
import Derived.Test.YtbgpmekjcepmaabRows2
import Derived.Laws.StructEq
namespace Go.Proofs.Ytbgpmekjcepmaab
open Go.RowKit
set_option linter.unusedVariables false

/-- The least place of an element of that edit, told from k on; or -1. -/
def findP (cl sq : Int) : List El → Nat → Int
  | [], _ => -1
  | x :: xs, k => if x.2.1 = cl ∧ x.2.2 = sq then (k : Int) else findP cl sq xs (k + 1)

theorem findP_at {cl sq : Int} {xs : List El} {k : Nat} (hk : k < xs.length) : findP cl sq (xs.drop k) k = if xs[k].2.1 = cl ∧ xs[k].2.2 = sq then (k : Int) else findP cl sq (xs.drop (k + 1)) (k + 1) := by
  rw [List.drop_eq_getElem_cons hk]
  rfl
theorem findP_end {cl sq : Int} {xs : List El} {k : Nat} (hk : k = xs.length) : findP cl sq (xs.drop k) k = -1 := by
  rw [hk, List.drop_length]
  rfl

set_option maxRecDepth 100000 in
set_option maxHeartbeats 4000000 in
theorem find_any (a : Option Addr) (n c : Nat) (cl sq : Int) (xs : List El) (w : World) (hE : IsE w a n c xs) :
    Calls Try.prog 15 #[.slice a n c, .int .i64 cl, .int .i64 sq] w fun e w' => e = .returned (.int .i64 (findP cl sq xs 0)) ∧ Below w.heap.size w w' := by
  have HE := hd hE
  have HL := hd hE.1
  have hc : n ≤ 9223372036854775807 := by have := hE.2.1; have := hE.2.2.1; omega
  clear hE
  go_enter Try.func15, Try.ntmps15
  go_wp2
  go_loopw [11] (fun i wr => ∃ k : Nat, k ≤ n ∧ i = .int .i64 k ∧ Hid (findP cl sq xs 0 = findP cl sq (xs.drop k) k) ∧ Hid (Below w.heap.size w wr)) (fun i _ => n - (intOf i).toNat)
  case atStart => exact ⟨0, Nat.zero_le _, rfl, (rfl : _ = _), Below.refl _ _⟩
  case round =>
    obtain ⟨k, hk, rfl, hr, hB⟩ := hrel
    by_cases hlt : k < n
    · have kx : k < xs.length := by have := HL.out; omega
      have HE2 := HE.out.below hB.out
      obtain ⟨b, off, rfl, hb⟩ := HE2.addr (by omega)
      obtain ⟨e0, e1, e2⟩ := HE2.at k hlt kx
      have FA := hd (hr.out.trans (findP_at kx))
      generalize xs[k] = X at *
      obtain ⟨x0, x1, x2⟩ := X
      simp only [] at e0 e1 e2 FA
      have i1 : (k : Int) < (n : Int) := by omega
      have B2 : Hid (Below w.heap.size w (wr.alloc (.cells #[.int .u8 x0, .int .i64 x1, .int .i64 x2] 46))) := hB.out.alloc hB.out.size _
      clear hr hB HE2
      by_cases t1 : x1 = cl
      · by_cases t2 : x2 = sq
        · have R : Hid (findP cl sq xs 0 = (k : Int)) := by rw [FA.out, if_pos ⟨t1, t2⟩]; exact (rfl : _ = _)
          subst t1 t2
          clear FA
          go_wp2
          go_ret
          exact ⟨by rw [R.out]; rfl, B2.out⟩
        · have R : Hid (findP cl sq xs 0 = findP cl sq (xs.drop (k + 1)) (k + 1)) := by rw [FA.out, if_neg (fun h => t2 h.2)]; exact (rfl : _ = _)
          have t3 : (x2 == sq) = false := by simpa using t2
          subst t1
          clear FA
          go_wp2
          exact ⟨⟨k + 1, by omega, by go_num, R, B2⟩, by simp [intOf]; omega⟩
      · have R : Hid (findP cl sq xs 0 = findP cl sq (xs.drop (k + 1)) (k + 1)) := by rw [FA.out, if_neg (fun h => t1 h.1)]; exact (rfl : _ = _)
        have t3 : (x1 == cl) = false := by simpa using t1
        clear FA
        go_wp2
        exact ⟨⟨k + 1, by omega, by go_num, R, B2⟩, by simp [intOf]; omega⟩
    · obtain rfl : k = n := by omega
      have R : Hid (findP cl sq xs 0 = -1) := by rw [hr.out, findP_end HL.out.symm]; exact (rfl : _ = _)
      clear hr
      go_wp2
      go_ret
      exact ⟨by rw [R.out]; rfl, hB.out⟩

end Go.Proofs.Ytbgpmekjcepmaab
