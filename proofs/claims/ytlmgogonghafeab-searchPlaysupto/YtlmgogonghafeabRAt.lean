/-
  long and at of the document.
-/
import Derived.Test.YtlmgogonghafeabMD
import Derived.Laws.NewDeep
namespace Go.Proofs.Ytlmgogonghafeab
open Go.RowKit
set_option linter.unusedVariables false

set_option maxHeartbeats 1000000 in
theorem rlong_any (n : Nat) (k p c l s : Int) (w : World) (hk : k = 0 ∨ k = 1 ∨ k = 2) (hn : n ≤ 4096) :
    Calls Try.prog 76 #[.int .i64 n, .agg #[.int .i64 k, .int .i64 p, .int .u8 c, .int .i64 l, .int .i64 s]] w fun e w' =>
      e = .returned (.int .i64 (if k = 1 then (n : Int) + 1 else if k = 2 then (n : Int) - 1 else (n : Int))) ∧ Below w.heap.size w w' := by
  rcases hk with hk | hk | hk <;> subst hk
  · simp only [show ¬ (0 : Int) = 1 by omega, show ¬ (0 : Int) = 2 by omega, if_false]
    go_enter Try.func76, Try.ntmps76
    go_wp2
    go_ret
    exact ⟨rfl, (Below.refl _ _).alloc (Nat.le_refl _) _⟩
  · simp only [if_true]
    go_enter Try.func76, Try.ntmps76
    go_wp2
    go_ret
    exact ⟨rfl, (Below.refl _ _).alloc (Nat.le_refl _) _⟩
  · simp only [show ¬ (2 : Int) = 1 by omega, if_false, if_true]
    go_enter Try.func76, Try.ntmps76
    go_wp2
    go_ret
    exact ⟨rfl, (Below.refl _ _).alloc (Nat.le_refl _) _⟩

def elv (x : El) : Value := .agg #[.int .u8 x.1, .int .i64 x.2.1, .int .i64 x.2.2]

set_option maxHeartbeats 1000000 in
theorem rat_load (a : Option Addr) (n cc : Nat) (k p c l s : Int) (i j : Nat) (xs : List El) (w : World) (hE : IsE w a n cc xs) (hj : j < n) (hx : j < xs.length)
    (h : (k = 0 ∧ j = i) ∨ (k ≠ 0 ∧ (i : Int) < p ∧ j = i) ∨ (k = 2 ∧ p ≤ (i : Int) ∧ j = i + 1) ∨ (k = 1 ∧ p < (i : Int) ∧ i = j + 1)) (hi : i ≤ 4097) :
    Calls Try.prog 77 #[.slice a n cc, .agg #[.int .i64 k, .int .i64 p, .int .u8 c, .int .i64 l, .int .i64 s], .int .i64 i] w fun e w' => e = .returned (elv xs[j]) ∧ Below w.heap.size w w' := by
  obtain ⟨b, off, rfl, hb⟩ := hE.addr (by omega)
  obtain ⟨e0, e1, e2⟩ := hE.at j hj hx
  generalize xs[j] = X at *
  obtain ⟨x0, x1, x2⟩ := X
  simp only [elv] at *
  have hb2 : ¬ b = w.heap.size := by omega
  have z0 : (w.alloc (.cells #[.int .i64 k, .int .i64 p, .int .u8 c, .int .i64 l, .int .i64 s] 32)).cell? ⟨b, off + j * 3, none⟩ = some (.int .u8 x0) := by
    rw [World.cell?_alloc_past _ b _ hb]; exact e0
  have z1 : (w.alloc (.cells #[.int .i64 k, .int .i64 p, .int .u8 c, .int .i64 l, .int .i64 s] 32)).cell? ⟨b, off + j * 3 + 1, none⟩ = some (.int .i64 x1) := by
    rw [World.cell?_alloc_past _ b _ hb]; exact e1
  have z2 : (w.alloc (.cells #[.int .i64 k, .int .i64 p, .int .u8 c, .int .i64 l, .int .i64 s] 32)).cell? ⟨b, off + j * 3 + 2, none⟩ = some (.int .i64 x2) := by
    rw [World.cell?_alloc_past _ b _ hb]; exact e2
  clear hE
  rcases h with ⟨rfl, rfl⟩ | ⟨h1, h2, rfl⟩ | ⟨rfl, h2, rfl⟩ | ⟨rfl, h2, rfl⟩
  · have i1 : (j : Int) < (n : Int) := by omega
    go_enter Try.func77, Try.ntmps77
    go_wp2
    refine bodyPost_ret (v := .agg #[.int .u8 x0, .int .i64 x1, .int .i64 x2]) (by simp [results, Try.results77, go_sem]) rfl ?_
    exact ⟨rfl, ((Below.refl _ _).alloc (Nat.le_refl _) _).alloc (by simp) _⟩
  · have i1 : (j : Int) < (n : Int) := by omega
    have i2 : (k == 0) = false := by simpa using h1
    go_enter Try.func77, Try.ntmps77
    go_wp2
    refine bodyPost_ret (v := .agg #[.int .u8 x0, .int .i64 x1, .int .i64 x2]) (by simp [results, Try.results77, go_sem]) rfl ?_
    exact ⟨rfl, ((Below.refl _ _).alloc (Nat.le_refl _) _).alloc (by simp) _⟩
  · have i1 : (i : Int) + 1 < (n : Int) := by omega
    have i2 : ¬ (i : Int) < p := by omega
    have i3 : 0 ≤ (i : Int) + 1 := by omega
    have i4 : ((i : Int) + 1).toNat = i + 1 := by omega
    go_enter Try.func77, Try.ntmps77
    go_wp2
    refine bodyPost_ret (v := .agg #[.int .u8 x0, .int .i64 x1, .int .i64 x2]) (by simp [results, Try.results77, go_sem]) rfl ?_
    exact ⟨rfl, ((Below.refl _ _).alloc (Nat.le_refl _) _).alloc (by simp) _⟩
  · have i1 : (j : Int) < (n : Int) := by omega
    have h2' : p < (j : Int) + 1 := by omega
    have i2 : ¬ (j : Int) + 1 < p := by omega
    have i3 : ((j : Int) + 1 == p) = false := by simp; omega
    go_enter Try.func77, Try.ntmps77
    go_wp2
    refine bodyPost_ret (v := .agg #[.int .u8 x0, .int .i64 x1, .int .i64 x2]) (by simp [results, Try.results77, go_sem]) rfl ?_
    exact ⟨rfl, ((Below.refl _ _).alloc (Nat.le_refl _) _).alloc (by simp) _⟩

set_option maxHeartbeats 1000000 in
theorem rat_new (a : Option Addr) (n cc : Nat) (c l s : Int) (i : Nat) (w : World) :
    Calls Try.prog 77 #[.slice a n cc, .agg #[.int .i64 1, .int .i64 i, .int .u8 c, .int .i64 l, .int .i64 s], .int .i64 i] w fun e w' => e = .returned (elv (c, l, s)) ∧ Below w.heap.size w w' := by
  simp only [elv]
  have i2 : ¬ (i : Int) < (i : Int) := by omega
  go_enter Try.func77, Try.ntmps77
  go_wp2
  refine bodyPost_ret (v := .agg #[.int .u8 c, .int .i64 l, .int .i64 s]) (by simp [results, Try.results77, go_sem]) rfl ?_
  exact ⟨rfl, ((Below.refl _ _).alloc (Nat.le_refl _) _).alloc (by simp) _⟩

theorem rat_any (a : Option Addr) (n cc : Nat) (k p c l s : Int) (i : Nat) (xs : List El) (w : World) (hE : IsE w a n cc xs) (hf : fitsP n ⟨k, p, c, l, s⟩ = 0) (hi : i < (applyP xs ⟨k, p, c, l, s⟩).length) :
    Calls Try.prog 77 #[.slice a n cc, .agg #[.int .i64 k, .int .i64 p, .int .u8 c, .int .i64 l, .int .i64 s], .int .i64 i] w fun e w' => e = .returned (elv (applyP xs ⟨k, p, c, l, s⟩)[i]) ∧ Below w.heap.size w w' := by
  have hl := hE.1
  obtain ⟨hv, h0, h1, h2, h3⟩ := fitsP_zero hf
  simp only at h2 h3
  have hlen := applyP_len (xs := xs) (o := ⟨k, p, c, l, s⟩) (by rw [hl]; exact hf)
  obtain ⟨q, rfl⟩ : ∃ q : Nat, p = (q : Int) := ⟨p.toNat, by omega⟩
  rcases h2 with rfl | ⟨rfl, h4, h5⟩ | ⟨rfl, h4⟩
  · simp [applyP] at hlen hi ⊢
    exact rat_load a n cc 0 q c l s i i xs w hE (by omega) hi (.inl ⟨rfl, rfl⟩) (by omega)
  · simp [applyP] at hlen
    have hi' : i < n + 1 := by
      have := hi
      simp [applyP] at this
      omega
    by_cases c1 : i < q
    · have e : (applyP xs ⟨1, q, c, l, s⟩)[i] = xs[i]'(by omega) := by
        simp only [applyP, Int.toNat_natCast, if_pos]
        rw [List.getElem_append_left (by simp; omega), List.getElem_take]
      rw [e]
      exact rat_load a n cc 1 q c l s i i xs w hE (by omega) (by omega) (.inr (.inl ⟨by omega, by omega, rfl⟩)) (by omega)
    · by_cases c2 : i = q
      · subst c2
        have e : (applyP xs ⟨1, i, c, l, s⟩)[i] = (c, l, s) := by
          simp only [applyP, Int.toNat_natCast, if_pos]
          rw [List.getElem_append_right (by simp; omega)]
          simp [show min i xs.length = i by omega]
        rw [e]
        exact rat_new a n cc c l s i w
      · obtain ⟨j, rfl⟩ : ∃ j, i = j + 1 := ⟨i - 1, by omega⟩
        have e : (applyP xs ⟨1, q, c, l, s⟩)[j + 1] = xs[j]'(by omega) := by
          simp only [applyP, Int.toNat_natCast, if_pos]
          rw [List.getElem_append_right (by simp; omega)]
          simp only [List.length_take, show min q xs.length = q by omega, show j + 1 - q = (j - q) + 1 by omega, List.getElem_cons_succ, List.getElem_drop]
          congr 1
          omega
        rw [e]
        exact rat_load a n cc 1 q c l s (j + 1) j xs w hE (by omega) (by omega) (.inr (.inr (.inr ⟨rfl, by omega, rfl⟩))) (by omega)
  · have hi' : i + 1 < n := by
      have := hi
      simp [applyP] at this
      omega
    by_cases c1 : i < q
    · have e : (applyP xs ⟨2, q, c, l, s⟩)[i] = xs[i]'(by omega) := by
        simp only [applyP, Int.toNat_natCast, show ¬ (2 : Int) = 1 by omega, if_false, if_true]
        rw [List.getElem_append_left (by simp; omega), List.getElem_take]
      rw [e]
      exact rat_load a n cc 2 q c l s i i xs w hE (by omega) (by omega) (.inr (.inl ⟨by omega, by omega, rfl⟩)) (by omega)
    · have e : (applyP xs ⟨2, q, c, l, s⟩)[i] = xs[i + 1]'(by omega) := by
        simp only [applyP, Int.toNat_natCast, show ¬ (2 : Int) = 1 by omega, if_false, if_true]
        rw [List.getElem_append_right (by simp; omega)]
        simp only [List.length_take, show min q xs.length = q by omega, List.getElem_drop]
        congr 1
        omega
      rw [e]
      exact rat_load a n cc 2 q c l s i (i + 1) xs w hE (by omega) (by omega) (.inr (.inr (.inl ⟨rfl, by omega, rfl⟩))) (by omega)

end Go.Proofs.Ytlmgogonghafeab
