/-
  Texts put together: Rows2 RAt RApp.
-/
import Derived.Test.YtilidolbplglcaaGreatDoorMTDel
import Derived.Laws.NewDeep
import Derived.Test.YtilidolbplglcaaGreatDoorVc
/-! Rows2 -/
namespace Go.Proofs.YtilidolbplglcaaGreatDoor
open Go.RowKit
set_option linter.unusedVariables false

def elT (a b c : Int) : El := (a, b, c)
theorem cE_split (xs : List El) (k : Nat) (hk : k < xs.length) : cE xs = cE (xs.take k) ++ (elc xs[k] ++ cE (xs.drop (k + 1))) := by
  rw [← cE_cons, ← cE_app]
  congr 1
  rw [← List.drop_eq_getElem_cons hk, List.take_append_drop]

theorem set_appE (A B : List Value) (n j : Nat) (v : Value) (h : A.length = n) : (A ++ B).set (n + j) v = A ++ B.set j v := by
  rw [List.set_append_right _ _ (by omega), show n + j - A.length = j by omega]

theorem cE_set (xs : List El) (k : Nat) (a b c : Int) (hk : k < xs.length) :
    (((cE xs).set (k * 3) (.int .u8 a)).set (k * 3 + 1) (.int .i64 b)).set (k * 3 + 2) (.int .i64 c) = cE (xs.set k (elT a b c)) := by
  have hl : (cE (xs.take k)).length = k * 3 := by rw [cE_len, List.length_take]; congr 1; omega
  have es : xs.set k (elT a b c) = xs.take k ++ @List.cons El (elT a b c) (xs.drop (k + 1)) := by rw [List.set_eq_take_append_cons_drop, if_pos hk]
  rw [es, cE_app, cE_cons, cE_split xs k hk]
  have h0 : (cE (xs.take k) ++ (elc xs[k] ++ cE (xs.drop (k + 1)))).set (k * 3) (.int .u8 a) = cE (xs.take k) ++ (elc xs[k] ++ cE (xs.drop (k + 1))).set 0 (.int .u8 a) := set_appE _ _ (k * 3) 0 _ hl
  rw [h0, set_appE _ _ (k * 3) 1 _ hl, set_appE _ _ (k * 3) 2 _ hl]
  simp [elc, elT]

theorem RowE.set3 {w : World} {g N cap : Nat} {xs : List El} (h : RowE w g N cap xs) (k : Nat) (a b c : Int) (hk : k < N) :
    RowE (((w.setCell ⟨g, k * 3, none⟩ (.int .u8 a)).setCell ⟨g, k * 3 + 1, none⟩ (.int .i64 b)).setCell ⟨g, k * 3 + 2, none⟩ (.int .i64 c)) g N cap (xs.set k (elT a b c)) := by
  obtain ⟨cur, hh, ht, hl, hn, hm, hs⟩ := h
  refine ⟨((cur.set (k * 3) (.int .u8 a)).set (k * 3 + 1) (.int .i64 b)).set (k * 3 + 2) (.int .i64 c), ?_, ?_, by simpa using hl, hn, hm, by simpa using hs⟩
  · have h1 := set_row hh (k * 3) (.int .u8 a)
    have h2 := set_row h1 (k * 3 + 1) (.int .i64 b)
    have h3 := set_row h2 (k * 3 + 2) (.int .i64 c)
    simpa using h3
  · rw [List.take_set, List.take_set, List.take_set, ht, cE_set xs k a b c (by omega)]

theorem RowE.cells {w : World} {g N cap : Nat} {xs : List El} (h : RowE w g N cap xs) (k : Nat) (hk : k < N) :
    (∃ v, w.cell? ⟨g, k * 3, none⟩ = some v) ∧ (∃ v, w.cell? ⟨g, k * 3 + 1, none⟩ = some v) ∧ (∃ v, w.cell? ⟨g, k * 3 + 2, none⟩ = some v) := by
  have hl := h.isE.1
  have := h.isE.at k hk (by omega)
  rw [Nat.zero_add] at this
  exact ⟨⟨_, this.1⟩, ⟨_, this.2.1⟩, ⟨_, this.2.2⟩⟩
theorem RowE.frozen {w : World} {g N cap : Nat} {xs : List El} (h : RowE w g N cap xs) (i : Nat) : w.frozen? ⟨g, i, none⟩ = false := by
  obtain ⟨cur, hh, _⟩ := h
  exact frozen_row hh i

theorem made_zeroE (n : Nat) : (madeCells #[.int .u8 0, .int .i64 0, .int .i64 0] (n * 3)).toList = cE (List.replicate n (elT 0 0 0)) := by
  induction n with
  | zero => simp [madeCells, cE]
  | succ n ih =>
    have e : (madeCells #[.int .u8 0, .int .i64 0, .int .i64 0] ((n + 1) * 3)).toList = (madeCells #[.int .u8 0, .int .i64 0, .int .i64 0] (n * 3)).toList ++ [.int .u8 0, .int .i64 0, .int .i64 0] := by
      simp only [madeCells, Array.toList_map, Array.toList_range, show (n + 1) * 3 = n * 3 + 1 + 1 + 1 by omega, List.range_succ, List.map_append, List.map_cons, List.map_nil, List.append_assoc, List.cons_append, List.nil_append]
      congr 1
      have e0 : n * 3 % 3 = 0 := by omega
      have e1 : (n * 3 + 1) % 3 = 1 := by omega
      have e2 : (n * 3 + 1 + 1) % 3 = 2 := by omega
      simp [e0, e1, e2]
    rw [e, ih, List.replicate_succ', cE_app, cE_one]
    rfl

/-- A row that make has made, of zero values. -/
theorem row_madeE {w : World} {g n : Nat} {cur : List Value} (hg : w.heap[g]? = some (.cells cur.toArray 50 (0, 0))) (hc : cur = (madeCells #[.int .u8 0, .int .i64 0, .int .i64 0] (n * 3)).toList) (hn : n ≤ 9223372036854775807) :
    RowE w g n n (List.replicate n (elT 0 0 0)) := by
  rw [made_zeroE] at hc
  refine ⟨cur, hg, ?_, by simp, Nat.le_refl _, hn, ?_⟩
  · rw [hc, List.take_of_length_le (by rw [cE_len]; simp)]
  · rw [hc, cE_len]; simp

end Go.Proofs.YtilidolbplglcaaGreatDoor

/-! RAt -/
namespace Go.Proofs.YtilidolbplglcaaGreatDoor
open Go.RowKit
set_option linter.unusedVariables false

set_option maxHeartbeats 1000000 in
theorem rlong_any (n : Nat) (k p c l s : Int) (w : World) (hk : k = 0 ∨ k = 1 ∨ k = 2) (hn : n ≤ 4096) :
    Calls Tryz.prog 39 #[.int .i64 n, .agg #[.int .i64 k, .int .i64 p, .int .u8 c, .int .i64 l, .int .i64 s]] w fun e w' =>
      e = .returned (.int .i64 (if k = 1 then (n : Int) + 1 else if k = 2 then (n : Int) - 1 else (n : Int))) ∧ Below w.heap.size w w' := by
  rcases hk with hk | hk | hk <;> subst hk
  · simp only [show ¬ (0 : Int) = 1 by omega, show ¬ (0 : Int) = 2 by omega, if_false]
    go_enter Tryz.func39, Tryz.ntmps39
    go_wp2
    go_ret
    exact ⟨rfl, (Below.refl _ _).alloc (Nat.le_refl _) _⟩
  · simp only [if_true]
    go_enter Tryz.func39, Tryz.ntmps39
    go_wp2
    go_ret
    exact ⟨rfl, (Below.refl _ _).alloc (Nat.le_refl _) _⟩
  · simp only [show ¬ (2 : Int) = 1 by omega, if_false, if_true]
    go_enter Tryz.func39, Tryz.ntmps39
    go_wp2
    go_ret
    exact ⟨rfl, (Below.refl _ _).alloc (Nat.le_refl _) _⟩

def elv (x : El) : Value := .agg #[.int .u8 x.1, .int .i64 x.2.1, .int .i64 x.2.2]

set_option maxHeartbeats 1000000 in
theorem rat_load (a : Option Addr) (n cc : Nat) (k p c l s : Int) (i j : Nat) (xs : List El) (w : World) (hE : IsE w a n cc xs) (hj : j < n) (hx : j < xs.length)
    (h : (k = 0 ∧ j = i) ∨ (k ≠ 0 ∧ (i : Int) < p ∧ j = i) ∨ (k = 2 ∧ p ≤ (i : Int) ∧ j = i + 1) ∨ (k = 1 ∧ p < (i : Int) ∧ i = j + 1)) (hi : i ≤ 4097) :
    Calls Tryz.prog 40 #[.slice a n cc, .agg #[.int .i64 k, .int .i64 p, .int .u8 c, .int .i64 l, .int .i64 s], .int .i64 i] w fun e w' => e = .returned (elv xs[j]) ∧ Below w.heap.size w w' := by
  obtain ⟨b, off, rfl, hb⟩ := hE.addr (by omega)
  obtain ⟨e0, e1, e2⟩ := hE.at j hj hx
  generalize xs[j] = X at *
  obtain ⟨x0, x1, x2⟩ := X
  simp only [elv] at *
  have hb2 : ¬ b = w.heap.size := by omega
  have z0 : (w.alloc (.cells #[.int .i64 k, .int .i64 p, .int .u8 c, .int .i64 l, .int .i64 s] 46)).cell? ⟨b, off + j * 3, none⟩ = some (.int .u8 x0) := by
    rw [World.cell?_alloc_past _ b _ hb]; exact e0
  have z1 : (w.alloc (.cells #[.int .i64 k, .int .i64 p, .int .u8 c, .int .i64 l, .int .i64 s] 46)).cell? ⟨b, off + j * 3 + 1, none⟩ = some (.int .i64 x1) := by
    rw [World.cell?_alloc_past _ b _ hb]; exact e1
  have z2 : (w.alloc (.cells #[.int .i64 k, .int .i64 p, .int .u8 c, .int .i64 l, .int .i64 s] 46)).cell? ⟨b, off + j * 3 + 2, none⟩ = some (.int .i64 x2) := by
    rw [World.cell?_alloc_past _ b _ hb]; exact e2
  clear hE
  rcases h with ⟨rfl, rfl⟩ | ⟨h1, h2, rfl⟩ | ⟨rfl, h2, rfl⟩ | ⟨rfl, h2, rfl⟩
  · have i1 : (j : Int) < (n : Int) := by omega
    go_enter Tryz.func40, Tryz.ntmps40
    go_wp2
    refine bodyPost_ret (v := .agg #[.int .u8 x0, .int .i64 x1, .int .i64 x2]) (by simp [results, Tryz.results40, go_sem]) rfl ?_
    exact ⟨rfl, ((Below.refl _ _).alloc (Nat.le_refl _) _).alloc (by simp) _⟩
  · have i1 : (j : Int) < (n : Int) := by omega
    have i2 : (k == 0) = false := by simpa using h1
    go_enter Tryz.func40, Tryz.ntmps40
    go_wp2
    refine bodyPost_ret (v := .agg #[.int .u8 x0, .int .i64 x1, .int .i64 x2]) (by simp [results, Tryz.results40, go_sem]) rfl ?_
    exact ⟨rfl, ((Below.refl _ _).alloc (Nat.le_refl _) _).alloc (by simp) _⟩
  · have i1 : (i : Int) + 1 < (n : Int) := by omega
    have i2 : ¬ (i : Int) < p := by omega
    have i3 : 0 ≤ (i : Int) + 1 := by omega
    have i4 : ((i : Int) + 1).toNat = i + 1 := by omega
    go_enter Tryz.func40, Tryz.ntmps40
    go_wp2
    refine bodyPost_ret (v := .agg #[.int .u8 x0, .int .i64 x1, .int .i64 x2]) (by simp [results, Tryz.results40, go_sem]) rfl ?_
    exact ⟨rfl, ((Below.refl _ _).alloc (Nat.le_refl _) _).alloc (by simp) _⟩
  · have i1 : (j : Int) < (n : Int) := by omega
    have h2' : p < (j : Int) + 1 := by omega
    have i2 : ¬ (j : Int) + 1 < p := by omega
    have i3 : ((j : Int) + 1 == p) = false := by simp; omega
    go_enter Tryz.func40, Tryz.ntmps40
    go_wp2
    refine bodyPost_ret (v := .agg #[.int .u8 x0, .int .i64 x1, .int .i64 x2]) (by simp [results, Tryz.results40, go_sem]) rfl ?_
    exact ⟨rfl, ((Below.refl _ _).alloc (Nat.le_refl _) _).alloc (by simp) _⟩

set_option maxHeartbeats 1000000 in
theorem rat_new (a : Option Addr) (n cc : Nat) (c l s : Int) (i : Nat) (w : World) :
    Calls Tryz.prog 40 #[.slice a n cc, .agg #[.int .i64 1, .int .i64 i, .int .u8 c, .int .i64 l, .int .i64 s], .int .i64 i] w fun e w' => e = .returned (elv (c, l, s)) ∧ Below w.heap.size w w' := by
  simp only [elv]
  have i2 : ¬ (i : Int) < (i : Int) := by omega
  go_enter Tryz.func40, Tryz.ntmps40
  go_wp2
  refine bodyPost_ret (v := .agg #[.int .u8 c, .int .i64 l, .int .i64 s]) (by simp [results, Tryz.results40, go_sem]) rfl ?_
  exact ⟨rfl, ((Below.refl _ _).alloc (Nat.le_refl _) _).alloc (by simp) _⟩

theorem ins_mid {α : Type} (xs : List α) (x : α) (q : Nat) (hq : q ≤ xs.length) (h : q < (xs.take q ++ x :: xs.drop q).length) : (xs.take q ++ x :: xs.drop q)[q] = x := by
  rw [List.getElem_append_right (by simp; omega)]
  simp [show min q xs.length = q by omega]
theorem ins_late {α : Type} (xs : List α) (x : α) (q j : Nat) (hq : q ≤ j) (hj : j < xs.length) (h : j + 1 < (xs.take q ++ x :: xs.drop q).length) : (xs.take q ++ x :: xs.drop q)[j + 1] = xs[j] := by
  rw [List.getElem_append_right (by simp; omega)]
  simp only [List.length_take, show min q xs.length = q by omega, show j + 1 - q = (j - q) + 1 by omega, List.getElem_cons_succ, List.getElem_drop]
  congr 1
  omega
theorem rat_any (a : Option Addr) (n cc : Nat) (k p c l s : Int) (i : Nat) (xs : List El) (w : World) (hE : IsE w a n cc xs) (hf : fitsP n ⟨k, p, c, l, s⟩ = 0) (hi : i < (applyP xs ⟨k, p, c, l, s⟩).length) :
    Calls Tryz.prog 40 #[.slice a n cc, .agg #[.int .i64 k, .int .i64 p, .int .u8 c, .int .i64 l, .int .i64 s], .int .i64 i] w fun e w' => e = .returned (elv (applyP xs ⟨k, p, c, l, s⟩)[i]) ∧ Below w.heap.size w w' := by
  have hl := hE.1
  obtain ⟨hv, h0, h1, h2, h3⟩ := fitsP_zero hf
  simp only at h2 h3
  have hlen := applyP_len (xs := xs) (o := ⟨k, p, c, l, s⟩) (by rw [hl]; exact hf)
  obtain ⟨q, rfl⟩ : ∃ q : Nat, p = (q : Int) := ⟨p.toNat, by omega⟩
  rcases h2 with rfl | ⟨rfl, h4, h5⟩ | ⟨rfl, h4⟩
  · simp [applyP] at hlen hi ⊢
    exact rat_load a n cc 0 q c l s i i xs w hE (by omega) hi (.inl ⟨rfl, rfl⟩) (by omega)
  · simp [applyP] at hlen
    have hi' : i < n + 1 := by
      have := hi
      simp [applyP] at this
      omega
    by_cases c1 : i < q
    · have e : (applyP xs ⟨1, q, c, l, s⟩)[i] = xs[i]'(by omega) := by
        simp only [applyP, Int.toNat_natCast, if_pos]
        rw [List.getElem_append_left (by simp; omega), List.getElem_take]
      rw [e]
      exact rat_load a n cc 1 q c l s i i xs w hE (by omega) (by omega) (.inr (.inl ⟨by omega, by omega, rfl⟩)) (by omega)
    · by_cases c2 : i = q
      · subst c2
        have e : (applyP xs ⟨1, i, c, l, s⟩)[i] = (c, l, s) := by
          simp only [applyP, Int.toNat_natCast, if_pos]
          exact ins_mid (α := El) xs _ i (by omega) _
        rw [e]
        exact rat_new a n cc c l s i w
      · obtain ⟨j, rfl⟩ : ∃ j, i = j + 1 := ⟨i - 1, by omega⟩
        have e : (applyP xs ⟨1, q, c, l, s⟩)[j + 1] = xs[j]'(by omega) := by
          simp only [applyP, Int.toNat_natCast, if_pos]
          exact ins_late (α := El) xs _ q j (by omega) (by omega) _
        rw [e]
        exact rat_load a n cc 1 q c l s (j + 1) j xs w hE (by omega) (by omega) (.inr (.inr (.inr ⟨rfl, by omega, rfl⟩))) (by omega)
  · have hi' : i + 1 < n := by
      have := hi
      simp [applyP] at this
      omega
    by_cases c1 : i < q
    · have e : (applyP xs ⟨2, q, c, l, s⟩)[i] = xs[i]'(by omega) := by
        simp only [applyP, Int.toNat_natCast, show ¬ (2 : Int) = 1 by omega, if_false, if_true]
        rw [List.getElem_append_left (by simp; omega), List.getElem_take]
      rw [e]
      exact rat_load a n cc 2 q c l s i i xs w hE (by omega) (by omega) (.inr (.inl ⟨by omega, by omega, rfl⟩)) (by omega)
    · have e : (applyP xs ⟨2, q, c, l, s⟩)[i] = xs[i + 1]'(by omega) := by
        simp only [applyP, Int.toNat_natCast, show ¬ (2 : Int) = 1 by omega, if_false, if_true]
        rw [List.getElem_append_right (by simp; omega)]
        simp only [List.length_take, show min q xs.length = q by omega, List.getElem_drop]
        congr 1
        omega
      rw [e]
      exact rat_load a n cc 2 q c l s i (i + 1) xs w hE (by omega) (by omega) (.inr (.inr (.inl ⟨rfl, by omega, rfl⟩))) (by omega)

end Go.Proofs.YtilidolbplglcaaGreatDoor

/-! RApp -/
namespace Go.Proofs.YtilidolbplglcaaGreatDoor
open Go.RowKit
set_option linter.unusedVariables false

theorem take_set_succE {α : Type} (ys : List α) (k : Nat) (v : α) (hk : k < ys.length) : (ys.set k v).take (k + 1) = ys.take k ++ [v] := by
  rw [List.take_set, List.take_succ_eq_append_getElem hk, List.set_append_right _ _ (by simp; omega)]
  simp [show min k ys.length = k by omega]

set_option maxHeartbeats 1000000 in
theorem rapply_bad (a : Option Addr) (n cc : Nat) (k p c l s e : Int) (w : World) (hf : fitsP n ⟨k, p, c, l, s⟩ = e) (he : ¬ e = 0) :
    Calls Tryz.prog 32 #[.slice a n cc, .agg #[.int .i64 k, .int .i64 p, .int .u8 c, .int .i64 l, .int .i64 s]] w fun x w' => x = .returned (.tuple #[.slice none 0 0, .int .i64 e]) ∧ Below w.heap.size w w' := by
  have HF := hd hf
  have he' : (e != 0) = true := by simpa using he
  clear hf he
  go_enter Tryz.func32, Tryz.ntmps32
  go_wp2_with fail
  refine (rfits_any _ _ _ _ _ _ _).mono ?_
  rintro x w1 ⟨rfl, b1⟩
  rw [HF.out]
  have B1 := hd (out_below b1)
  clear b1
  go_wp2
  go_ret2
  exact ⟨rfl, B1.out⟩

/-- What holds in the loop of Apply. -/
def ARel (w1 wr : World) (g : Nat) (T : List El) (k : Nat) : Prop := ∃ ys, RowE wr g T.length T.length ys ∧ ys.take k = T.take k ∧ Below w1.heap.size w1 wr

set_option maxRecDepth 100000 in
set_option maxHeartbeats 4000000 in
theorem rapply_good (a : Option Addr) (n cc : Nat) (k p c l s : Int) (xs T : List El) (N : Nat) (w : World) (hE : IsE w a n cc xs) (hf : fitsP n ⟨k, p, c, l, s⟩ = 0) (hT : T = applyP xs ⟨k, p, c, l, s⟩) (hN : N = T.length) :
    Calls Tryz.prog 32 #[.slice a n cc, .agg #[.int .i64 k, .int .i64 p, .int .u8 c, .int .i64 l, .int .i64 s]] w fun x w' =>
      ∃ v, x = .returned (.tuple #[v, .int .i64 0]) ∧ OwnE w' w.heap.size v T ∧ Below w.heap.size w w' := by
  obtain ⟨i0, hi0, hz0, hz1, hz2⟩ := info_parts Tryz.infoE
  have hL := hE.1
  have hn : n ≤ 4096 := by have := (fitsP_zero hf).2.2.1; omega
  have hk := (validP_zero (fitsP_zero hf).1).1
  have hLN : (if k = 1 then (n : Int) + 1 else if k = 2 then (n : Int) - 1 else (n : Int)) = (N : Int) := by
    have := applyP_len (xs := xs) (o := ⟨k, p, c, l, s⟩) (by rw [hL]; exact hf)
    rw [hN, hT, this, hL]
  have hN4 : N ≤ 4096 := by
    have := applyP_le (xs := xs) (o := ⟨k, p, c, l, s⟩) (by rw [hL]; exact hf)
    rw [hN, hT]; exact this
  have HE := hd hE
  have HF := hd hf
  have HK := hd hk
  have HT := hd hT
  have HN := hd hN
  have HLN := hd hLN
  clear hE hf hk hLN hT hN hL
  have B0 := hd ((Below.refl w.heap.size w).alloc (Nat.le_refl _) (.cells #[.int .i64 k, .int .i64 p, .int .u8 c, .int .i64 l, .int .i64 s] 46))
  go_enter Tryz.func32, Tryz.ntmps32
  go_wp2_with fail
  refine (rfits_any _ _ _ _ _ _ _).mono ?_
  rintro x w1 ⟨rfl, b1⟩
  rw [HF.out]
  have B1 := hd b1
  have c0 := out_cell b1 0
  have c1 := out_cell b1 1
  have c2 := out_cell b1 2
  have c3 := out_cell b1 3
  have c4 := out_cell b1 4
  simp at c0 c1 c2 c3 c4
  clear b1
  go_wp2_with fail
  refine (rlong_any n k p c l s _ HK.out hn).mono ?_
  rintro x w2 ⟨rfl, b2⟩
  rw [HLN.out]
  have B2 := hd (B1.out.trans (b2.mono B1.out.size))
  clear b2 c0 c1 c2 c3 c4 B1
  go_wp2_with (at_make; refine wpList_make_k _ rfl _ _ 25 rfl 50 i0 _ Tryz.underlying25 hi0 hz0 _ _ _ _ N N rfl rfl rfl rfl (Nat.le_refl _) (by rw [hz2]; omega) (by omega) ?_; intro w3 cur hg3 hcur hb3)
  have R3 : Hid (ARel (w.alloc (.cells #[.int .i64 k, .int .i64 p, .int .u8 c, .int .i64 l, .int .i64 s] 46)) w3 w2.heap.size T 0) := by
    refine ⟨List.replicate N (0, 0, 0), ?_, by simp, B2.out.trans (hb3.out.mono B2.out.size)⟩
    rw [← HN.out]
    exact row_madeE hg3.out (by have := hcur.out; rw [hz1] at this; exact this) (by omega)
  have hgB : (w.alloc (.cells #[.int .i64 k, .int .i64 p, .int .u8 c, .int .i64 l, .int .i64 s] 46)).heap.size ≤ w2.heap.size := B2.out.size
  have HG := hd hgB
  generalize w2.heap.size = g at *
  clear hg3 hcur hb3 hi0 hz0 hz1 hz2 B2 hgB
  go_wp2
  go_loopw [9] (fun i wr => ∃ j : Nat, j ≤ N ∧ i = .int .i64 j ∧ Hid (ARel (w.alloc (.cells #[.int .i64 k, .int .i64 p, .int .u8 c, .int .i64 l, .int .i64 s] 46)) wr g T j)) (fun i _ => N - (intOf i).toNat)
  case atStart => exact ⟨0, Nat.zero_le _, rfl, R3⟩
  case round =>
    obtain ⟨j, hj, rfl, hr⟩ := hrel
    clear R3
    by_cases hlt : j < N
    · have jT : j < T.length := by have := HN.out; omega
      obtain ⟨ys, hR, hT2, hB⟩ := hr.out
      have c0 := out_cell hB 0
      have c1 := out_cell hB 1
      have c2 := out_cell hB 2
      have c3 := out_cell hB 3
      have c4 := out_cell hB 4
      simp at c0 c1 c2 c3 c4
      have i1 : (j : Int) < (N : Int) := by omega
      have HR := hd hR
      have HT2 := hd hT2
      have HB := hd hB
      have E1 := hd (HE.out.below (B0.out.trans (hB.mono B0.out.size)))
      clear hr hR hT2 hB
      have TE := hd (show (applyP xs ⟨k, p, c, l, s⟩)[j]'(by rw [← HT.out]; exact jT) = T[j] from by simp only [HT.out])
      go_wp2_with fail
      refine (rat_any a n cc k p c l s j xs _ E1.out HF.out (by rw [← HT.out]; exact jT)).mono ?_
      rintro x w5 ⟨rfl, b5⟩
      rw [TE.out]
      have R5 := hd (HR.out.fr (S := fun _ => False) (Fr.of_below b5) (fun h => h))
      have B5 := hd (HB.out.trans (b5.mono HB.out.size))
      obtain ⟨⟨a0, d0⟩, ⟨a1, d1⟩, ⟨a2, d2⟩⟩ := R5.out.cells j (by omega)
      have f0 := R5.out.frozen (j * 3)
      have f1 := R5.out.frozen (j * 3 + 1)
      have f2 := R5.out.frozen (j * 3 + 2)
      have TS : Hid (∀ v, v = T[j] → (ys.set j v).take (j + 1) = T.take (j + 1)) := by
        rintro v rfl
        rw [take_set_succE ys j _ (by rw [R5.out.isE.1]; exact jT), HT2.out, List.take_succ_eq_append_getElem jT]
      generalize T[j] = X at *
      obtain ⟨x0, x1, x2⟩ := X
      simp only [elv]
      clear b5 HR HB c0 c1 c2 c3 c4
      go_wp2
      refine ⟨⟨j + 1, by omega, by go_num, ⟨_, R5.out.set3 j x0 x1 x2 jT, TS.out _ rfl, ?_⟩⟩, by simp [intOf]; omega⟩
      exact ((B5.out.setCell HG.out _).setCell HG.out _).setCell HG.out _
    · obtain rfl : j = N := by omega
      obtain ⟨ys, hR, hT2, hB⟩ := hr.out
      have R : Hid (OwnE wr w.heap.size (.slice (some ⟨g, 0, none⟩) j j) T ∧ Below w.heap.size w wr) := by
        have hl := hR.isE.1
        rw [List.take_of_length_le (by rw [hl, ← HN.out]; exact Nat.le_refl _), List.take_of_length_le (by rw [← HN.out]; exact Nat.le_refl _)] at hT2
        subst hT2
        exact ⟨⟨g, Nat.le_trans (by simp) HG.out, ys.length, by rw [HN.out], hR⟩, B0.out.trans (hB.mono B0.out.size)⟩
      clear hr hR hT2 hB
      go_wp2
      go_ret2
      exact ⟨_, rfl, R.out⟩

end Go.Proofs.YtilidolbplglcaaGreatDoor
