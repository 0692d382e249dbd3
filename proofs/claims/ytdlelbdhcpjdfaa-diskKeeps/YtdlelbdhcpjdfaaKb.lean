/-
  DiskKeeps: the walk.
-/
import Derived.Test.YtdlelbdhcpjdfaaKa
import Derived.Test.YtdlelbdhcpjdfaaLd
namespace Go.Proofs.Ytdlelbdhcpjdfaa
open Go.RowKit
set_option linter.unusedVariables false

set_option maxRecDepth 100000 in
set_option maxHeartbeats 4000000 in
theorem keeps_big (a : Option Addr) (n c : Nat) (xs : List Int) (al : Option Addr) (nl cl : Nat) (w : World) (hx : IsB w a n c xs) (hn : n ≤ 140737488351232) (hb : 262144 < n) :
    Calls Try.prog 7 #[.slice a n c, .slice al nl cl] w fun x w' => x = .returned (.bool true) ∧ Below w.heap.size w w' := by
  have X := hd hx
  clear hx
  have j1 : (262144 : Int) < (n : Int) := by omega
  go_enter Try.func7, Try.ntmps7
  go_wp2_with fail
  refine (new_any _).mono ?_
  rintro e w1 ⟨r, rfl, hr, hD, hb1⟩
  have D1 : Hid (DN w1 w.heap.size r none [] 0) := ⟨hD, by rintro k (rfl | h) <;> simp_all⟩
  have B1 := hd hb1
  clear hD hb1 hr
  go_wp2_with fail
  refine (copied_any a n c xs _ (X.out.below B1.out) (by omega)).mono ?_
  rintro e w2 ⟨v, rfl, hN, hb2⟩
  obtain ⟨g, rfl, hG, hne⟩ := newB_blk hN (by omega) r (D1.out.1.lt r (.inl rfl))
  have D2 := hd (D1.out.below hb2)
  have B2 := hd (B1.out.trans (hb2.mono B1.out.size))
  clear hN hb2 hG hne D1 B1
  go_wp2_with fail
  refine (append_bad r none [] 0 _ _ _ _ D2.out.1 (by simp; omega)).mono ?_
  rintro e w3 ⟨rfl, rfl⟩
  go_wp2_with fail
  refine (num_any _ _).mono ?_
  rintro e w3 ⟨rfl, rfl⟩
  go_wp2_with fail
  refine (size_any r none [] 0 _ D2.out.1).mono ?_
  rintro e w3 ⟨rfl, rfl⟩
  go_wp2
  go_ret
  exact ⟨rfl, B2.out⟩

/-- What holds at the head of a round: the file, and a list of its synced bytes. -/
def KRel (w wr : World) (r : Nat) (safe : Value) : Prop :=
  ∃ ρ B s sa sc, safe = .slice sa s sc ∧ DN wr w.heap.size r ρ B s ∧ IsB wr sa s sc (B.take s) ∧ (0 < s → ∀ b off, sa = some ⟨b, off, none⟩ → ¬ Own r ρ b) ∧ Below w.heap.size w wr

theorem KRel.after {w wr w1 : World} {r : Nat} {safe : Value} (h : KRel w wr r safe) (hb : Below wr.heap.size wr w1) : KRel w w1 r safe := by
  obtain ⟨ρ, B, s, sa, sc, e, h1, h2, h3, h4⟩ := h
  exact ⟨ρ, B, s, sa, sc, e, h1.below hb, h2.below hb, h3, h4.trans (hb.mono h4.size)⟩

set_option maxRecDepth 100000 in
set_option maxHeartbeats 4000000 in
theorem keeps_in (a : Option Addr) (n c : Nat) (xs : List Int) (al : Option Addr) (nl cl : Nat) (O : Nat → OpV) (A : Nat → Option Addr) (N C : Nat → Nat) (w : World) (hx : IsB w a n c xs) (hb : n ≤ 262144) (hl : IsOps w al nl cl O A N C) :
    Calls Try.prog 7 #[.slice a n c, .slice al nl cl] w fun x w' => x = .returned (.bool true) ∧ Below w.heap.size w w' := by
  obtain ⟨l1, l2, l3⟩ := hl
  have L3 := hd l3
  have X := hd hx
  have hxl := hx.1
  have j1 : ¬ (262144 : Int) < (n : Int) := by omega
  clear hx l3
  go_enter Try.func7, Try.ntmps7
  go_wp2_with fail
  refine (born_any a n c xs _ X.out hb).mono ?_
  rintro e w1 ⟨r, ρ, rfl, hD, hb1⟩
  have D1 := hd hD
  have B1 := hd hb1
  clear hD hb1
  go_wp2_with fail
  refine (copied_any a n c xs _ (X.out.below B1.out) (by omega)).mono ?_
  rintro e w2 ⟨v, rfl, hN, hb2⟩
  have S0 : Hid (KRel w w2 r v) := by
    obtain ⟨g, rfl, hg, hG⟩ := hN.isB (by omega)
    refine ⟨ρ, xs, n, _, n, rfl, D1.out.below hb2, by rw [List.take_of_length_le (by omega)]; exact hG, ?_, B1.out.trans (hb2.mono B1.out.size)⟩
    intro _ b off e hk
    have e2 := Option.some.inj e
    simp at e2
    have := D1.out.1.lt b hk
    omega
  clear hN hb2 D1 B1
  go_wp2
  go_loopw [8, 9] (fun safe i wr => ∃ k : Nat, k ≤ nl ∧ i = .int .i64 k ∧ Hid (KRel w wr r safe)) (fun _ i _ => nl - (intOf i).toNat)
  case atStart => exact ⟨0, Nat.zero_le _, rfl, S0⟩
  case round =>
    obtain ⟨k, hk, rfl, hr⟩ := hrel
    clear S0
    by_cases hlt : k < nl
    · obtain ⟨b, off, rfl, hbb, hc⟩ := L3.out (by omega)
      obtain ⟨c0, c1, c2, c3, c4, c5, hX, hXn⟩ := hc k hlt
      have hbl : Below w.heap.size w wr := by
        obtain ⟨_, _, _, _, _, _, _, _, _, h4⟩ := hr.out
        exact h4
      have d0 := (hbl.cell (p := ⟨b, off + k * 6, none⟩) hbb).trans c0
      have d1 := (hbl.cell (p := ⟨b, off + k * 6 + 1, none⟩) hbb).trans c1
      have d2 := (hbl.cell (p := ⟨b, off + k * 6 + 2, none⟩) hbb).trans c2
      have d3 := (hbl.cell (p := ⟨b, off + k * 6 + 3, none⟩) hbb).trans c3
      have d4 := (hbl.cell (p := ⟨b, off + k * 6 + 4, none⟩) hbb).trans c4
      have d5 := (hbl.cell (p := ⟨b, off + k * 6 + 5, none⟩) hbb).trans c5
      have XO := hd (hX.below hbl)
      have hb1 : b < wr.heap.size := Nat.lt_of_lt_of_le hbb hbl.size
      have i1 : (k : Int) < (nl : Int) := by omega
      clear hc c0 c1 c2 c3 c4 c5 hX hbl hbb
      generalize O k = o at *
      generalize A k = xa at *
      generalize N k = xn at *
      generalize C k = xc at *
      obtain ⟨kind, site, oa, ob, oc, ys⟩ := o
      simp only [] at d0 d1 d2 d3 d4
      have al1 : Below wr.heap.size wr (wr.alloc (.cells #[.int .i64 kind, .int .i64 site, .int .i64 oa, .int .i64 ob, .int .i64 oc, .slice xa xn xc] 48)) := (Below.refl _ _).alloc (Nat.le_refl _) _
      have R1 := hd (hr.out.after al1)
      have XO1 := hd (XO.out.below al1)
      have O1 : Hid ((wr.alloc (.cells #[.int .i64 kind, .int .i64 site, .int .i64 oa, .int .i64 ob, .int .i64 oc, .slice xa xn xc] 48)).heap[wr.heap.size]? = some (.cells #[.int .i64 kind, .int .i64 site, .int .i64 oa, .int .i64 ob, .int .i64 oc, .slice xa xn xc] 48 (0, 0))) := heap_alloc_new _ _
      have hwl := hd (show ∀ k, ∀ ρ B s, DN wr w.heap.size r ρ B s → Own r ρ k → k < wr.heap.size from fun k ρ B s h hk => h.1.lt k hk)
      by_cases k5 : kind = 5
      · subst k5
        clear XO XO1 O1 hr al1
        go_wp2
        exact ⟨⟨k + 1, by omega, by go_num, R1⟩, by simp [intOf]; omega⟩
      · obtain ⟨ρ1, B1, s1, sa, sc, rfl, hD1, hS1, hsep, hbl⟩ := hr.out
        have lt1 := hd hD1.1.lt
        obtain ⟨ρ', B', s', sa', sc', e', hD', hS', hsep', hbl'⟩ := R1.out
        clear hD' hS' hsep' hbl' e'
        have D1 := hd (hD1.below al1)
        have S1 := hd (hS1.below al1)
        have B2 := hd (hbl.trans (al1.mono hbl.size))
        have SEP := hd hsep
        have hsl := hD1.1.size_le
        clear hD1 hS1 hsep hbl al1 hr XO R1 hwl
        go_wp2_with fail
        refine (act_any r ρ1 B1 s1 ⟨kind, site, oa, ob, oc, ys⟩ xa xn xc _ D1.out.1 XO1.out (by omega)).mono ?_
        rintro e w3 ⟨rfl, hnow⟩
        have hkeep := hd (step_keeps ⟨kind, site, oa, ob, oc, ys⟩ B1 s1 hsl.1 hsl.2 k5)
        obtain ⟨ρ3, hD3, hM3, hF3, hB3⟩ := D1.out.now B2.out.size hnow
        generalize stepP ⟨kind, site, oa, ob, oc, ys⟩ B1 s1 = T at *
        obtain ⟨te, tB, ts⟩ := T
        simp only [] at hD3 hkeep
        have hO : Hid (¬ Own r ρ1 wr.heap.size) := fun hk => Nat.lt_irrefl _ (lt1.out _ hk)
        have O3 := hd (hF3.keeps O1.out hO.out)
        have S3 := hd (S1.out.fr hF3 SEP.out)
        have SEP3 : Hid (0 < s1 → ∀ b off, sa = some ⟨b, off, none⟩ → ¬ Own r ρ3 b) := by
          intro h0 b off e hk
          obtain ⟨b', off', e', hb', _⟩ := S1.out.2.2.2 h0
          have hbb : b < (wr.alloc (.cells #[.int .i64 kind, .int .i64 site, .int .i64 oa, .int .i64 ob, .int .i64 oc, .slice xa xn xc] 48)).heap.size := by
            rw [e'] at e
            have e2 := Option.some.inj e
            simp at e2
            omega
          rcases hk with rfl | hk
          · exact SEP.out h0 b off e (.inl rfl)
          · rcases hM3 with e3 | ⟨p, e3, hp⟩
            · exact SEP.out h0 b off e (.inr (e3 ▸ hk))
            · rw [e3] at hk
              obtain rfl := Option.some.inj hk
              omega
        have D3 := hd hD3
        have B3 := hd (B2.out.trans hB3)
        have hsl3 := hD3.1.size_le
        clear hnow hD3 hM3 hF3 hB3 D1 B2 S1 O1 XO1 SEP hO
        go_wp2_with fail
        refine (bytes_any r ρ3 tB ts _ D3.out.1).mono ?_
        rintro e w4 ⟨v, rfl, hN, hb4⟩
        obtain ⟨g4, rfl, hg4, hG4⟩ := hN.isB (by omega)
        have D4 := hd (D3.out.below hb4)
        have B4 := hd (B3.out.trans (hb4.mono B3.out.size))
        have S4 := hd (S3.out.below hb4)
        have HG4 := hd hG4
        have oc0 : w4.cell? ⟨wr.heap.size, 0, none⟩ = some (.int .i64 kind) := by
          rw [cell_row ((Fr.of_below hb4 : Fr (fun _ => False) _ _).keeps O3.out (fun h => h))]
          rfl
        clear hN hb4 hG4 D3 B3 S3 O3 hg4
        go_wp2_with fail
        refine (synced_any r ρ3 tB ts _ D4.out.1).mono ?_
        rintro e w5 ⟨rfl, rfl⟩
        have m1 : ¬ (ts : Int) < (s1 : Int) := by have := hkeep.out.1; omega
        have m2 : ¬ (tB.length : Int) < (ts : Int) := by omega
        go_wp2_with fail
        refine (size_any r ρ3 tB ts _ D4.out.1).mono ?_
        rintro e w5 ⟨rfl, rfl⟩
        go_wp2_with fail
        refine (begins_true _ sa tB.length s1 tB.length sc tB (B1.take s1) _ HG4.out S4.out hkeep.out.2.2.1 (by have := hkeep.out.1; omega)).mono ?_
        rintro e w5 ⟨rfl, m5, rfl⟩
        have D5 := hd (D4.out.drewN m5)
        have B5 := hd (below_drewN B4.out m5)
        have HG5 : Hid (IsB (w4.drewN m5) (some ⟨g4, 0, none⟩) ts tB.length (tB.take ts)) := (HG4.out.take ts (by omega)).below (below_drewN (Below.refl _ _) m5)
        have oc5 : (w4.drewN m5).cell? ⟨wr.heap.size, 0, none⟩ = some (.int .i64 kind) := by simpa using oc0
        clear D4 B4 S4 HG4 oc0
        generalize w4.drewN m5 = w5 at *
        have m3 : (ts : Int) ≤ (tB.length : Int) := by omega
        have hk4 : kind = 4 → (ts : Int) = (tB.length : Int) := by
          intro h
          have := hkeep.out.2.2.2 h
          omega
        have HK4 := hd hk4
        clear hk4
        by_cases k4 : kind = 4
        · have m4 : ((ts : Int) != (tB.length : Int)) = false := by
            have := HK4.out k4
            simp
            omega
          go_wp2_with fail
          refine (copied_any _ ts tB.length _ _ HG5.out (by omega)).mono ?_
          rintro e w6 ⟨v6, rfl, hN6, hb6⟩
          have R6 : Hid (KRel w w6 r v6) := by
            obtain ⟨g6, rfl, hg6, hG6⟩ := hN6.isB (by omega)
            refine ⟨ρ3, tB, ts, _, ts, rfl, D5.out.below hb6, hG6, ?_, B5.out.trans (hb6.mono B5.out.size)⟩
            intro _ b off e hk
            have e2 := Option.some.inj e
            simp at e2
            have := D5.out.1.lt b hk
            omega
          clear hN6 hb6 D5 B5 HG5 oc5
          go_wp2
          exact ⟨⟨k + 1, by omega, by go_num, R6⟩, by simp [intOf]; omega⟩
        · go_wp2_with fail
          refine (copied_any _ ts tB.length _ _ HG5.out (by omega)).mono ?_
          rintro e w6 ⟨v6, rfl, hN6, hb6⟩
          have R6 : Hid (KRel w w6 r v6) := by
            obtain ⟨g6, rfl, hg6, hG6⟩ := hN6.isB (by omega)
            refine ⟨ρ3, tB, ts, _, ts, rfl, D5.out.below hb6, hG6, ?_, B5.out.trans (hb6.mono B5.out.size)⟩
            intro _ b off e hk
            have e2 := Option.some.inj e
            simp at e2
            have := D5.out.1.lt b hk
            omega
          clear hN6 hb6 D5 B5 HG5 oc5
          go_wp2
          exact ⟨⟨k + 1, by omega, by go_num, R6⟩, by simp [intOf]; omega⟩
    · have i1 : ¬ (k : Int) < (nl : Int) := by omega
      go_wp2
      go_ret
      obtain ⟨_, _, _, _, _, _, _, _, _, h4⟩ := hr.out
      exact ⟨rfl, h4⟩

end Go.Proofs.Ytdlelbdhcpjdfaa
