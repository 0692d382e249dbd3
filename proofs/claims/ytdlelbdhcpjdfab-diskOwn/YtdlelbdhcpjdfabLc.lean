/-
  act, born, From.
-/
import Derived.Test.YtdlelbdhcpjdfabLb
namespace Go.Proofs.Ytdlelbdhcpjdfab
open Go.RowKit
set_option linter.unusedVariables false

/-- The operation as a value: its bytes lie in the slice. -/
def opVal (o : OpV) (xa : Option Addr) (xn xc : Nat) : Value := .agg #[.int .i64 o.kind, .int .i64 o.site, .int .i64 o.a, .int .i64 o.b, .int .i64 o.c, .slice xa xn xc]

theorem newB_blk {w : World} {base : Nat} {v : Value} {n : Nat} {xs : List Int} (h : NewB w base v n xs) (hn : n ≤ 9223372036854775807) (r : Nat) (hr : r < base) : ∃ g, v = .slice (some ⟨g, 0, none⟩) n n ∧ IsB w (some ⟨g, 0, none⟩) n n xs ∧ (0 < n → ∀ b off, some (⟨g, 0, none⟩ : Addr) = some ⟨b, off, none⟩ → ¬ b = r) := by
  obtain ⟨g, rfl, hg, hB⟩ := h.isB hn
  refine ⟨g, rfl, hB, ?_⟩
  intro _ b off e
  have := Option.some.inj e
  simp at this
  omega

set_option maxRecDepth 100000 in
set_option maxHeartbeats 4000000 in
theorem act_any (r : Nat) (ρ : Option Nat) (B : List Int) (s : Nat) (o : OpV) (xa : Option Addr) (xn xc : Nat) (w : World) (h : DK w r ρ B s) (hx : IsB w xa xn xc o.xs) (hn : xn ≤ 140737488355328) :
    Calls Try.prog 8 #[.pointer (some ⟨r, 0, none⟩), opVal o xa xn xc] w fun x w' => x = .returned (.int .i64 (stepP o B s).e) ∧ Now w w' r ρ (stepP o B s) := by
  obtain ⟨kind, site, a, b, c, xs⟩ := o
  have hb : Below w.heap.size w (w.alloc (.cells #[.int .i64 kind, .int .i64 site, .int .i64 a, .int .i64 b, .int .i64 c, .slice xa xn xc] 29)) := (Below.refl _ _).alloc (Nat.le_refl _) _
  have HB := hd hb
  have H := hd (h.below hb)
  have hrr : r < w.heap.size := h.lt r (.inl rfl)
  have X := hd (hx.below hb)
  have HR := hd hrr
  have hle := hd h.size_le
  clear h hx hb hrr
  unfold opVal stepP
  simp only []
  by_cases k3 : kind = 3
  · subst k3
    rw [if_pos rfl]
    generalize hT : appP xs B s = T at *
    have HT := hd hT
    clear hT
    go_enter Try.func8, Try.ntmps8
    go_wp2_with fail
    refine (copied_any xa xn xc xs _ X.out hn).mono ?_
    rintro e w1 ⟨v, rfl, hN, hb1⟩
    have B1 := hd (HB.out.trans (hb1.mono HB.out.size))
    obtain ⟨g, rfl, hG, hne⟩ := newB_blk hN (by omega) r (by have := HR.out; simp; omega)
    have H1 := hd (H.out.below hb1)
    have HG := hd hG
    have HN := hd hne
    clear hN hb1 hG hne H X HB
    go_wp2_with fail
    refine (append_any r ρ B s _ _ _ xs _ H1.out HG.out HN.out).mono ?_
    rintro e w2 ⟨rfl, hnow⟩
    have N2 := hd (hnow.after B1.out)
    rw [HT.out] at N2 ⊢
    clear hnow H1 HG HN
    go_wp2_with fail
    refine (num_any _ _).mono ?_
    rintro e w3 ⟨rfl, rfl⟩
    go_wp2
    go_ret
    exact ⟨rfl, N2.out⟩
  · rw [if_neg k3]
    by_cases k10 : kind = 10
    · subst k10
      rw [if_pos rfl]
      obtain ⟨y, hy⟩ : ∃ y, y = byteOf b := ⟨_, rfl⟩
      rw [← hy]
      have HY : Hid (b % 256 = y) := hy.symm
      clear hy
      generalize hT : appP (List.replicate (fillN a) y) B s = T at *
      have HT := hd hT
      clear hT
      have hfl := hd (fillN_le a)
      go_enter Try.func8, Try.ntmps8
      go_wp2_with fail
      rw [HY.out]
      refine (filled_any a y _).mono ?_
      rintro e w1 ⟨v, rfl, hN, hb1⟩
      have B1 := hd (HB.out.trans (hb1.mono HB.out.size))
      obtain ⟨g, rfl, hG, hne⟩ := newB_blk hN (by have := hfl.out; omega) r (by have := HR.out; simp; omega)
      have H1 := hd (H.out.below hb1)
      have HG := hd hG
      have HN := hd hne
      clear hN hb1 hG hne H X HB
      go_wp2_with fail
      refine (append_any r ρ B s _ _ _ _ _ H1.out HG.out HN.out).mono ?_
      rintro e w2 ⟨rfl, hnow⟩
      have N2 := hd (hnow.after B1.out)
      rw [HT.out] at N2 ⊢
      clear hnow H1 HG HN
      go_wp2_with fail
      refine (num_any _ _).mono ?_
      rintro e w3 ⟨rfl, rfl⟩
      go_wp2
      go_ret
      exact ⟨rfl, N2.out⟩
    · rw [if_neg k10]
      by_cases k4 : kind = 4
      · subst k4
        rw [if_pos rfl]
        go_enter Try.func8, Try.ntmps8
        go_wp2_with fail
        refine (sync_any r ρ B s _ H.out).mono ?_
        rintro e w1 ⟨rfl, hD, hF⟩
        have N2 := hd ((Now.of_fr (t := ⟨0, B, B.length⟩) hD hF).after HB.out)
        clear hD hF
        go_wp2
        go_ret
        exact ⟨rfl, N2.out⟩
      · rw [if_neg k4]
        by_cases k5 : kind = 5
        · subst k5
          rw [if_pos rfl]
          generalize hT : cutP a B s = T at *
          have HT := hd hT
          clear hT
          go_enter Try.func8, Try.ntmps8
          go_wp2_with fail
          refine (cut_any r ρ B s a _ H.out).mono ?_
          rintro e w1 ⟨rfl, hnow⟩
          have N2 := hd (hnow.after HB.out)
          rw [HT.out] at N2 ⊢
          clear hnow
          go_wp2_with fail
          refine (num_any _ _).mono ?_
          rintro e w3 ⟨rfl, rfl⟩
          go_wp2
          go_ret
          exact ⟨rfl, N2.out⟩
        · rw [if_neg k5]
          by_cases k6 : kind = 6
          · subst k6
            rw [if_pos rfl]
            generalize hT : crashP a b c B s = T at *
            have HT := hd hT
            clear hT
            go_enter Try.func8, Try.ntmps8
            go_wp2_with fail
            refine (crash_any r ρ B s a b c _ H.out).mono ?_
            rintro e w1 ⟨rfl, hnow⟩
            have N2 := hd (hnow.after HB.out)
            rw [HT.out] at N2 ⊢
            clear hnow
            go_wp2_with fail
            refine (num_any _ _).mono ?_
            rintro e w3 ⟨rfl, rfl⟩
            go_wp2
            go_ret
            exact ⟨rfl, N2.out⟩
          · rw [if_neg k6]
            have N2 := hd ((Now.of_fr (t := ⟨0, B, s⟩) H.out (Fr.refl _ _)).after HB.out)
            go_enter Try.func8, Try.ntmps8
            go_wp2
            go_ret
            exact ⟨rfl, N2.out⟩

/-- A file that the call has made, from block base on. -/
def DN (w : World) (base r : Nat) (ρ : Option Nat) (B : List Int) (s : Nat) : Prop := DK w r ρ B s ∧ ∀ k, Own r ρ k → base ≤ k

theorem DN.dk {w : World} {base r : Nat} {ρ : Option Nat} {B : List Int} {s : Nat} (h : DN w base r ρ B s) : DK w r ρ B s := h.1

/-- Behind a step on a file that the call has made. -/
theorem DN.now {w w' : World} {base r : Nat} {ρ : Option Nat} {B : List Int} {s : Nat} {t : St} (h : DN w base r ρ B s) (hb : base ≤ w.heap.size) (hn : Now w w' r ρ t) : ∃ ρ', DN w' base r ρ' t.B t.s ∧ Moved w ρ ρ' ∧ Fr (Own r ρ) w w' ∧ Below base w w' := by
  obtain ⟨ρ', h1, h2, h3⟩ := hn
  refine ⟨ρ', ⟨h1, ?_⟩, h2, h3, h3.below hb h.2⟩
  rintro k (rfl | e)
  · exact h.2 k (.inl rfl)
  · rcases h2 with e2 | ⟨p, e2, hp⟩
    · exact h.2 k (.inr (e2 ▸ e))
    · rw [e2] at e
      obtain rfl := Option.some.inj e
      omega

theorem DN.below {w w' : World} {base r : Nat} {ρ : Option Nat} {B : List Int} {s : Nat} (h : DN w base r ρ B s) (hb : Below w.heap.size w w') : DN w' base r ρ B s := ⟨h.1.below hb, h.2⟩
theorem DN.drewN {w : World} {base r : Nat} {ρ : Option Nat} {B : List Int} {s : Nat} (h : DN w base r ρ B s) (m : Nat) : DN (w.drewN m) base r ρ B s := ⟨h.1.drewN m, h.2⟩

theorem appP_first (xs : List Int) (h : xs.length ≤ 262144) : appP xs [] 0 = ⟨0, xs, 0⟩ := by
  unfold appP
  rw [if_pos (by simpa using h)]
  rfl
theorem appP_bad (xs B : List Int) (s : Nat) (h : 262144 < B.length + xs.length) : appP xs B s = ⟨20, B, s⟩ := by
  unfold appP
  rw [if_neg (by omega)]
theorem appP_good (xs B : List Int) (s : Nat) (h : B.length + xs.length ≤ 262144) : appP xs B s = ⟨0, B ++ xs, s⟩ := by
  unfold appP
  rw [if_pos h]

set_option maxRecDepth 100000 in
set_option maxHeartbeats 4000000 in
theorem from_good (a : Option Addr) (n c : Nat) (xs : List Int) (w : World) (hx : IsB w a n c xs) (hn : n ≤ 262144) :
    Calls Try.prog 40 #[.slice a n c] w fun x w' => ∃ r ρ, x = .returned (.tuple #[.pointer (some ⟨r, 0, none⟩), .int .i64 0]) ∧ DN w' w.heap.size r ρ xs n ∧ Below w.heap.size w w' := by
  have X := hd hx
  have hxl := hx.1
  clear hx
  go_enter Try.func40, Try.ntmps40
  go_wp2_with fail
  refine (new_any _).mono ?_
  rintro e w1 ⟨r, rfl, hr, hD, hb⟩
  have X1 := hd (X.out.below hb)
  have hsep : Hid (0 < n → ∀ b off, a = some ⟨b, off, none⟩ → ¬ b = r) := by
    intro h0 b off e
    obtain ⟨b', off', e', hb', _⟩ := X.out.2.2.2 h0
    rw [e'] at e
    have := Option.some.inj e
    simp at this
    omega
  have D1 : Hid (DN w1 w.heap.size r none [] 0) := ⟨hD, by rintro k (rfl | h) <;> simp_all⟩
  have B1 := hd hb
  have HR := hd hr
  clear hD hb X hr
  go_wp2_with fail
  refine (append_any r none [] 0 _ _ _ xs _ D1.out.1 X1.out hsep.out).mono ?_
  rintro e w2 ⟨rfl, hnow⟩
  rw [appP_first xs (by omega)] at hnow ⊢
  obtain ⟨ρ, hD2, hM, hF, hB⟩ := D1.out.now B1.out.size hnow
  have D2 := hd hD2
  have B2 := hd (B1.out.trans hB)
  simp only [] at D2
  clear hnow hD2 hM hF hB D1 B1 X1 hsep
  go_wp2_with fail
  refine (sync_any r ρ xs 0 _ D2.out.1).mono ?_
  rintro e w3 ⟨rfl, hD, hF⟩
  have R : Hid (DN w3 w.heap.size r ρ xs n ∧ Below w.heap.size w w3) := by
    rw [hxl] at hD
    exact ⟨⟨hD, D2.out.2⟩, B2.out.trans (hF.below B2.out.size (fun k hk => hk ▸ HR.out))⟩
  clear hD hF D2 B2
  go_wp2
  go_ret2
  exact ⟨r, ρ, rfl, R.out⟩

set_option maxRecDepth 100000 in
set_option maxHeartbeats 4000000 in
theorem from_bad (a : Option Addr) (n c : Nat) (xs : List Int) (w : World) (hx : IsB w a n c xs) (hn : 262144 < n) :
    Calls Try.prog 40 #[.slice a n c] w fun x w' => x = .returned (.tuple #[.pointer none, .int .i64 20]) ∧ Below w.heap.size w w' := by
  have X := hd hx
  have hxl := hx.1
  clear hx
  go_enter Try.func40, Try.ntmps40
  go_wp2_with fail
  refine (new_any _).mono ?_
  rintro e w1 ⟨r, rfl, hr, hD, hb⟩
  have D1 := hd hD
  have B1 := hd hb
  clear hD hb X
  go_wp2_with fail
  refine (append_bad r none [] 0 a n c _ D1.out (by simp; omega)).mono ?_
  rintro e w2 ⟨rfl, rfl⟩
  go_wp2
  go_ret2
  exact ⟨rfl, B1.out⟩

end Go.Proofs.Ytdlelbdhcpjdfab
