/-
  The file of the document, in memory; part, New, Size, Synced, Bytes, Sync.
-/
import Derived.Test.YtdlelbdhcpjdfabLd
import Derived.Test.YtdlelbdhcpjdfabRow
import Derived.Deep.AppendLies
import Derived.Deep.RegionHeld3
namespace Go.Proofs.Ytdlelbdhcpjdfab
open Go.RowKit
set_option linter.unusedVariables false

/-- The list of the file at r: nil, or a row of its own. -/
def RefB (w : World) (r : Nat) (β : Option Nat) (v : Value) (B : List Int) : Prop :=
  match β with
  | none => v = .slice none 0 0 ∧ B = []
  | some g => g ≠ r ∧ ∃ cap, v = .slice (some ⟨g, 0, none⟩) B.length cap ∧ RowB w g B.length cap B

/-- The document file at block r. -/
def RK (w : World) (r : Nat) (β : Option Nat) (B : List Int) (s : Nat) : Prop :=
  ∃ v, w.heap[r]? = some (.cells #[v, .int .i64 s] 69 (0, 0)) ∧ RefB w r β v B ∧ s ≤ B.length ∧ B.length ≤ 262144

theorem RefB.fr {S : Nat → Prop} {w w' : World} {r : Nat} {β : Option Nat} {v : Value} {B : List Int} (h : RefB w r β v B) (hF : Fr S w w') (hS : ∀ g, β = some g → ¬ S g) : RefB w' r β v B := by
  cases β with
  | none => exact h
  | some g =>
    obtain ⟨h1, cap, h2, h3⟩ := h
    exact ⟨h1, cap, h2, h3.fr hF (hS g rfl)⟩

theorem RefB.form {w : World} {r : Nat} {β : Option Nat} {v : Value} {B : List Int} (h : RefB w r β v B) : ∃ a c, v = .slice a B.length c ∧ IsB w a B.length c B ∧ ∀ b off, a = some ⟨b, off, none⟩ → β = some b := by
  cases β with
  | none =>
    obtain ⟨rfl, rfl⟩ := h
    exact ⟨none, 0, rfl, ⟨rfl, Nat.le_refl _, by omega, fun h => by simp at h⟩, fun b off e => by cases e⟩
  | some g =>
    obtain ⟨h1, cap, rfl, h3⟩ := h
    have hc : B.length ≤ cap ∧ cap ≤ 9223372036854775807 := by
      obtain ⟨_, _, _, _, a, b, _⟩ := h3
      exact ⟨a, b⟩
    refine ⟨_, cap, rfl, ?_, fun b off e => ?_⟩
    · have := h3.isB 0 B.length cap (by omega) hc.1 hc.2
      rw [List.drop_zero, List.take_of_length_le (by omega)] at this
      exact this
    · have := Option.some.inj e
      simp at this
      rw [this.1]

theorem RK.lt {w : World} {r : Nat} {β : Option Nat} {B : List Int} {s : Nat} (h : RK w r β B s) : ∀ k, Own r β k → k < w.heap.size := by
  obtain ⟨v, hh, hR, _⟩ := h
  rintro k (rfl | rfl)
  · exact block_lt hh
  · obtain ⟨_, _, _, h3⟩ := hR
    exact h3.lt

theorem RK.fr {S : Nat → Prop} {w w' : World} {r : Nat} {β : Option Nat} {B : List Int} {s : Nat} (h : RK w r β B s) (hF : Fr S w w') (hS : ∀ k, Own r β k → ¬ S k) : RK w' r β B s := by
  obtain ⟨v, hh, hR, h1⟩ := h
  exact ⟨v, hF.keeps hh (hS r (.inl rfl)), hR.fr hF (fun g e => hS g (.inr e)), h1⟩

theorem RK.below {w w' : World} {r : Nat} {β : Option Nat} {B : List Int} {s : Nat} (h : RK w r β B s) (hb : Below w.heap.size w w') : RK w' r β B s :=
  h.fr (S := fun _ => False) (Fr.of_below hb) (fun _ _ h => h)
theorem RK.drewN {w : World} {r : Nat} {β : Option Nat} {B : List Int} {s : Nat} (h : RK w r β B s) (m : Nat) : RK (w.drewN m) r β B s := h.below (below_drewN (Below.refl _ _) m)
theorem RK.size_le {w : World} {r : Nat} {β : Option Nat} {B : List Int} {s : Nat} (h : RK w r β B s) : s ≤ B.length ∧ B.length ≤ 262144 := by
  obtain ⟨_, _, _, h⟩ := h
  exact h

/-- The document file at r is now as t says. -/
def RNow (w w' : World) (r : Nat) (β : Option Nat) (t : St) : Prop := ∃ β', RK w' r β' t.B t.s ∧ Moved w β β' ∧ Fr (Own r β) w w'

theorem RNow.of_fr {w w' : World} {r : Nat} {β : Option Nat} {t : St} (h : RK w' r β t.B t.s) (hF : Fr (· = r) w w') : RNow w w' r β t :=
  ⟨β, h, .inl rfl, hF.mono (fun k _ e => .inl e)⟩

set_option maxRecDepth 100000 in
theorem rnew_any (w : World) : Calls Try.prog 28 #[] w fun x w' => ∃ r, x = .returned (.pointer (some ⟨r, 0, none⟩)) ∧ w.heap.size ≤ r ∧ RK w' r none [] 0 ∧ Below w.heap.size w w' := by
  have R : Hid (w.heap.size ≤ w.heap.size ∧ RK (w.alloc (.cells #[.slice none 0 0, .int .i64 0] 69)) w.heap.size none [] 0 ∧ Below w.heap.size w (w.alloc (.cells #[.slice none 0 0, .int .i64 0] 69))) :=
    ⟨Nat.le_refl _, ⟨_, heap_alloc_new _ _, ⟨rfl, rfl⟩, by simp, by simp⟩, (Below.refl _ _).alloc (Nat.le_refl _) _⟩
  go_enter Try.func28, Try.ntmps28
  go_wp2
  go_ret
  exact ⟨_, rfl, R.out⟩

set_option maxRecDepth 100000 in
theorem rsize_any (r : Nat) (β : Option Nat) (B : List Int) (s : Nat) (w : World) (h : RK w r β B s) :
    Calls Try.prog 34 #[.pointer (some ⟨r, 0, none⟩)] w fun x w' => x = .returned (.int .i64 B.length) ∧ w = w' := by
  obtain ⟨v, hh, hR, -⟩ := h
  obtain ⟨a, c, rfl, -, -⟩ := hR.form
  have c0 := cell_row hh 0
  simp at c0
  clear hh hR
  go_enter Try.func34, Try.ntmps34
  go_wp2
  go_ret
  exact ⟨rfl, rfl⟩

set_option maxRecDepth 100000 in
theorem rsynced_any (r : Nat) (β : Option Nat) (B : List Int) (s : Nat) (w : World) (h : RK w r β B s) :
    Calls Try.prog 35 #[.pointer (some ⟨r, 0, none⟩)] w fun x w' => x = .returned (.int .i64 s) ∧ w = w' := by
  obtain ⟨v, hh, hR, -⟩ := h
  have c0 := cell_row hh 1
  simp at c0
  clear hh hR
  go_enter Try.func35, Try.ntmps35
  go_wp2
  go_ret
  exact ⟨rfl, rfl⟩

/-- What holds in the loop of part. -/
def PRel (w wr : World) (g m : Nat) (xs : List Int) (k : Nat) : Prop := RowB wr g k m (xs.take k) ∧ w.heap.size ≤ g ∧ Below w.heap.size w wr

theorem row_own {w : World} {g n cap : Nat} {ys : List Int} (h : RowB w g n cap ys) (base : Nat) (hb : base ≤ g) : w.ownsRow base 5 1 (.slice (some ⟨g, 0, none⟩) n cap) n (ints ys) := by
  obtain ⟨cur, hh, ht, hl, h1, h2, h3⟩ := h
  exact ⟨by rw [ints_len]; omega, .inr ⟨g, cap, cur, rfl, hb, hh, h1, h2, by omega, by rw [Nat.mul_one]; exact ht⟩⟩

theorem one_len (y : Int) : (ints [y]).length = 1 * 1 := rfl
theorem news1 (w : World) (y : Int) : ∀ j u, (ints [y])[j]? = some u → (w.alloc (.cells #[.int .u8 y] 5)).cell? ((⟨w.heap.size, 0, none⟩ : Addr).add j) = some u := by
  intro j u hj
  have hlt : j < 1 := (List.getElem?_eq_some_iff.1 hj).1
  obtain rfl : j = 0 := by omega
  rw [show (⟨w.heap.size, 0, none⟩ : Addr).add 0 = ⟨w.heap.size, 0, none⟩ from by simp [Addr.add], cell_row (heap_alloc_new _ _), ← hj]
  simp [ints]

theorem take_snoc (xs : List Int) (k : Nat) (h : k < xs.length) : xs.take k ++ [xs.getD k 0] = xs.take (k + 1) := by
  rw [List.take_succ_eq_append_getElem h]
  simp [List.getD, List.getElem?_eq_getElem h]

set_option maxRecDepth 100000 in
set_option maxHeartbeats 2000000 in
theorem part_any (a : Option Addr) (n c m : Nat) (xs : List Int) (w : World) (h : IsB w a n c xs) (hm : m ≤ n) (hmb : m ≤ 262144) :
    Calls Try.prog 42 #[.slice a n c, .int .i64 0, .int .i64 m] w fun e w' => ∃ g, e = .returned (.slice (some ⟨g, 0, none⟩) m m) ∧ w.heap.size ≤ g ∧ RowB w' g m m (xs.take m) ∧ Below w.heap.size w w' := by
  obtain ⟨i0, hi, hz0, hz1, hz2⟩ := info_parts Try.info5
  obtain ⟨h1, h2, h3, h4⟩ := h
  have H4 := hd h4
  clear h4
  go_enter Try.func42, Try.ntmps42
  go_wp2_with (at_make; refine wpList_make_own _ rfl _ _ 22 rfl w.heap.size 5 i0 (.int .u8 0) 1 Try.underlying22 hi hz0 hz1 _ _ _ m rfl rfl (by omega) (by rw [hz2]; omega) (by unfold maxLen; omega) (Nat.le_refl _) ?_; intro w1 hown hgrow)
  have S0 : Hid (PRel w w1 w.heap.size m xs 0) := by
    have hR := rowB_of_own (ys := []) hown
    exact ⟨by rw [List.take_zero]; exact hR.1, Nat.le_refl _, (Below.refl _ _).grown hgrow (Nat.le_refl _) (by simp)⟩
  clear hown hgrow
  go_wp2
  go_loopw [7, 8] (fun l i wr => ∃ k : Nat, k ≤ m ∧ i = .int .i64 k ∧ l = .slice (some ⟨w.heap.size, 0, none⟩) k m ∧ Hid (PRel w wr w.heap.size m xs k)) (fun _ i _ => m - (intOf i).toNat)
  case atStart => exact ⟨0, Nat.zero_le _, rfl, rfl, S0⟩
  case round =>
    obtain ⟨k, hk, rfl, rfl, hr⟩ := hrel
    clear S0
    by_cases hlt : k < m
    · obtain ⟨b, off, rfl, hb, hc⟩ := H4.out (by omega)
      have e1 := (hr.out.2.2.cell (p := ⟨b, off + k, none⟩) hb).trans (hc k (by omega))
      have i1 : (k : Int) < (m : Int) := by omega
      have i2 : (k : Int) < (n : Int) := by omega
      have TS := hd (take_snoc xs k (by omega))
      clear hc
      generalize xs.getD k 0 = y at *
      have al : Below wr.heap.size wr (wr.alloc (.cells #[.int .u8 y] 5)) := (Below.refl _ _).alloc (Nat.le_refl _) _
      have OW : Hid ((wr.alloc (.cells #[.int .u8 y] 5)).ownsRow w.heap.size 5 1 (.slice (some ⟨w.heap.size, 0, none⟩) k m) k (ints (xs.take k))) := row_own (hr.out.1.fr (Fr.of_below al : Fr (fun _ => False) _ _) (fun h => h)) _ (Nat.le_refl _)
      have BW := hd (hr.out.2.2.trans (al.mono hr.out.2.2.size))
      have SZ := hd hr.out.2.2.size
      have NW := hd (news1 wr y)
      clear al hr
      go_wp2_with (at_builtin; refine wpList_append_fits _ rfl (.tmp 19) (.tmp 24) 22 rfl w.heap.size 5 i0 1 Try.underlying22 hi hz1 w.heap.size k m (ints (xs.take k)) rfl OW.out ⟨wr.heap.size, 0, none⟩ 1 1 (ints [y]) rfl (one_len y) NW.out (ints_one _) (by omega) ?_; intro w2 hown hgrow)
      have S1 : Hid (PRel w w2 w.heap.size m xs (k + 1)) := by
        have hR := rowB_of_own (ys := xs.take (k + 1)) (by rw [← TS.out, show ints (xs.take k ++ [y]) = ints (xs.take k) ++ ints [y] from by simp [ints]]; exact hown)
        exact ⟨hR.1, Nat.le_refl _, BW.out.grown hgrow (by have := SZ.out; simp; omega) (fun k hk => by obtain rfl := Option.some.inj hk; exact Nat.le_refl _)⟩
      clear hown hgrow OW BW NW
      go_wp2
      exact ⟨⟨k + 1, by omega, by go_num, rfl, S1⟩, by simp [intOf]; omega⟩
    · obtain rfl : k = m := by omega
      have R := hd hr.out
      clear hr
      go_wp2
      go_ret
      exact ⟨_, rfl, R.out.2.1, R.out.1, R.out.2.2⟩

end Go.Proofs.Ytdlelbdhcpjdfab
