/-
  OctetReads: the walk.
-/
import Derived.Test.YtkidhfednipdcabDoorRRead4
namespace Go.Proofs.YtkidhfednipdcabDoor
open Go.RowKit

/-- The slice value holds operations, each of four cells. -/
def IsOps (w : World) (a : Option Addr) (n c : Nat) : Prop :=
  n ≤ c ∧ c ≤ 9223372036854775807 ∧
  (0 < n → ∃ b off, a = some ⟨b, off, none⟩ ∧ b < w.heap.size ∧ ∀ i, i < n → ∃ kind N num : Int, ∃ which : Bool, (0 ≤ num ∧ num < 18446744073709551616) ∧
    w.cell? ⟨b, off + i * 4, none⟩ = some (.int .i64 kind) ∧ w.cell? ⟨b, off + i * 4 + 1, none⟩ = some (.bool which) ∧ w.cell? ⟨b, off + i * 4 + 2, none⟩ = some (.int .i64 N) ∧ w.cell? ⟨b, off + i * 4 + 3, none⟩ = some (.int .u64 num))

/-- The four readers at the head of a round. -/
structure Four (D1 E1 D2 E2 : Nat → Prop) (w wr : World) (r s q t : Nat) (ys zs : List Int) : Prop where
  one : ∃ p f, PR D1 E1 wr r s ys p f
  two : ∃ p f, PR D2 E2 wr q t zs p f
  bel : Below w.heap.size w wr

theorem Four.first {D1 E1 D2 E2 : Nat → Prop} {w wr w' : World} {r s q t : Nat} {ys zs : List Int} (h : Four D1 E1 D2 E2 w wr r s q t ys zs) (hb : Both D1 E1 wr w' r s ys)
    (hr : w.heap.size ≤ r) (hs : w.heap.size ≤ s) (h1 : q ≠ r ∧ q ≠ s) (h2 : t ≠ r ∧ t ≠ s) (hD : ∀ b, D2 b → b ≠ r ∧ b ≠ s) (hE : ∀ b, E2 b → b ≠ r ∧ b ≠ s) : Four D1 E1 D2 E2 w w' r s q t ys zs := by
  obtain ⟨p, f, g1, g2⟩ := hb
  obtain ⟨p', f', k⟩ := h.two
  exact ⟨⟨p, f, g1⟩, ⟨p', f', k.but2 g2 h1 h2 hD hE⟩, h.bel.trans (g2.below h.bel.size hr hs)⟩
theorem Four.second {D1 E1 D2 E2 : Nat → Prop} {w wr w' : World} {r s q t : Nat} {ys zs : List Int} (h : Four D1 E1 D2 E2 w wr r s q t ys zs) (hb : Both D2 E2 wr w' q t zs)
    (hr : w.heap.size ≤ q) (hs : w.heap.size ≤ t) (h1 : r ≠ q ∧ r ≠ t) (h2 : s ≠ q ∧ s ≠ t) (hD : ∀ b, D1 b → b ≠ q ∧ b ≠ t) (hE : ∀ b, E1 b → b ≠ q ∧ b ≠ t) : Four D1 E1 D2 E2 w w' r s q t ys zs := by
  obtain ⟨p, f, g1, g2⟩ := hb
  obtain ⟨p', f', k⟩ := h.one
  exact ⟨⟨p', f', k.but2 g2 h1 h2 hD hE⟩, ⟨p, f, g1⟩, h.bel.trans (g2.below h.bel.size hr hs)⟩

/-- The loop and what stands behind it hang on this alone. -/
structure Lie (D1 E1 D2 E2 : Nat → Prop) (w : World) (r s q t : Nat) : Prop where
  hr : w.heap.size ≤ r
  hs : w.heap.size ≤ s
  hq : w.heap.size ≤ q
  ht : w.heap.size ≤ t
  a1 : q ≠ r ∧ q ≠ s
  a2 : t ≠ r ∧ t ≠ s
  a3 : ∀ b, D2 b → b ≠ r ∧ b ≠ s
  a4 : ∀ b, E2 b → b ≠ r ∧ b ≠ s
  a5 : ∀ b, D1 b → b ≠ q ∧ b ≠ t
  a6 : ∀ b, E1 b → b ≠ q ∧ b ≠ t

set_option maxRecDepth 100000 in
set_option maxHeartbeats 4000000 in
theorem reads_any (a : Option Addr) (n c : Nat) (xs : List Int) (a' : Option Addr) (n' c' : Nat) (xs' : List Int) (al : Option Addr) (nl cl : Nat) (w : World) (h : IsB w a n c xs) (h' : IsB w a' n' c' xs') (hrg : Rng xs) (hrg' : Rng xs') (hl : IsOps w al nl cl) (hg : Handle w) :
    Calls Tryd.prog 5 #[.slice a n c, .slice a' n' c', .slice al nl cl] w fun e w' => e = .returned (.bool true) ∧ Below w.heap.size w w' := by
  obtain ⟨l1, l2, l3⟩ := hl
  have L3 := hd l3
  have HG := hd hg
  have HH := hd h
  have HH' := hd h'
  have HC := hd (h.take (min n 600) (by omega))
  have HC' := hd (h'.take (min n' 600) (by omega))
  have RG := hd (hrg.take (min n 600))
  have RG' := hd (hrg'.take (min n' 600))
  have hN : min n 600 ≤ 600 := by omega
  have hN' : min n' 600 ≤ 600 := by omega
  clear h h' l3 hg hrg hrg'
  go_enter Tryd.func5, Tryd.ntmps5
  go_wp2_with fail
  refine (cut_any a n c xs _ HH.out).mono ?_
  rintro e w1 ⟨rfl, rfl⟩
  go_wp2_with fail
  refine (cut_any a' n' c' xs' _ HH'.out).mono ?_
  rintro e w1 ⟨rfl, rfl⟩
  generalize xs.take (min n 600) = ys at HC RG
  generalize xs'.take (min n' 600) = zs at HC' RG'
  generalize min n 600 = N at *
  generalize min n' 600 = N' at *
  go_wp2_with fail
  refine (refNew_any a N c ys _ HC.out (by omega)).mono ?_
  rintro e w1 ⟨s, rfl, s1, s2, hs, b1⟩
  go_wp2_with fail
  refine (refNew_any a' N' c' zs _ (IsB.below HC'.out b1) (by omega)).mono ?_
  rintro e w2 ⟨t, rfl, t1, t2, ht, b2⟩
  have B2 : Below w.heap.size w w2 := b1.trans (b2.mono b1.size)
  go_wp2_with fail
  refine (newReader_any a N c ys _ (IsB.below HC.out B2) (by omega)).mono ?_
  rintro e w3 ⟨r, rfl, r1, r2, hr, b3⟩
  have B3 : Below w.heap.size w w3 := B2.trans (b3.mono B2.size)
  go_wp2_with fail
  refine (newReader_any a' N' c' zs _ (IsB.below HC'.out B3) (by omega)).mono ?_
  rintro e w4 ⟨q, rfl, q1, q2, hq, b4⟩
  have LIE : Hid (Lie (fun b => w2.heap.size ≤ b ∧ b < r) (fun b => w.heap.size ≤ b ∧ b < s) (fun b => w3.heap.size ≤ b ∧ b < q) (fun b => w1.heap.size ≤ b ∧ b < t) w r s q t) := by
    have z1 := b1.size
    have z2 := b2.size
    have z3 := b3.size
    have z4 := b4.size
    refine ⟨by omega, by omega, by omega, by omega, by omega, by omega, ?_, ?_, ?_, ?_⟩ <;> intro b hb <;> omega
  have S0 : Hid (Four (fun b => w2.heap.size ≤ b ∧ b < r) (fun b => w.heap.size ≤ b ∧ b < s) (fun b => w3.heap.size ≤ b ∧ b < q) (fun b => w1.heap.size ≤ b ∧ b < t) w w4 r s q t ys zs) := by
    have z1 := b1.size
    have z2 := b2.size
    have z3 := b3.size
    have z4 := b4.size
    refine ⟨⟨0, false, hr.below b4, ((hs.below b2).below b3).below b4, by omega, ?_, ?_⟩, ⟨0, false, hq, (ht.below b3).below b4, by omega, ?_, ?_⟩, B3.trans (b4.mono B3.size)⟩ <;> intro b hb <;> omega
  clear b1 b2 b3 b4 B2 B3 hs ht hr hq s1 s2 t1 t2 r1 r2 q1 q2
  generalize (fun b => w2.heap.size ≤ b ∧ b < r) = D1 at LIE S0
  generalize (fun b => w.heap.size ≤ b ∧ b < s) = E1 at LIE S0
  generalize (fun b => w3.heap.size ≤ b ∧ b < q) = D2 at LIE S0
  generalize (fun b => w1.heap.size ≤ b ∧ b < t) = E2 at LIE S0
  go_wp2
  go_loopw [11] (fun i wr => ∃ k : Nat, k ≤ nl ∧ i = .int .i64 k ∧ Hid (Four D1 E1 D2 E2 w wr r s q t ys zs)) (fun i _ => nl - (intOf i).toNat)
  case atStart => exact ⟨0, Nat.zero_le _, rfl, S0⟩
  case round =>
    obtain ⟨k, hk, rfl, hr⟩ := hrel
    clear S0
    by_cases hlt : k < nl
    · obtain ⟨b, off, rfl, hb, hc⟩ := L3.out (by omega)
      obtain ⟨kind, Nn, num, which, hu, c0, c1, c2, c3⟩ := hc k hlt
      have d0 := (hr.out.bel.cell (p := ⟨b, off + k * 4, none⟩) hb).trans c0
      have d1 := (hr.out.bel.cell (p := ⟨b, off + k * 4 + 1, none⟩) hb).trans c1
      have d2 := (hr.out.bel.cell (p := ⟨b, off + k * 4 + 2, none⟩) hb).trans c2
      have d3 := (hr.out.bel.cell (p := ⟨b, off + k * 4 + 3, none⟩) hb).trans c3
      have C1 := hd c1
      have HBB := hd hb
      have hi : (k : Int) < (nl : Int) := by omega
      clear hc c0 c1 c2 c3 hu hb
      cases which
      · obtain ⟨p, f, hpr⟩ := hr.out.one
        have HP := hd hpr
        clear hpr
        go_wp2_with fail
        refine (read_any r s ys p f kind num Nn false _ HP.out RG.out (HG.out.below hr.out.bel HG.out.pos)).mono ?_
        rintro e w5 ⟨rfl, hboth⟩
        have S1 := hd (hr.out.first hboth LIE.out.hr LIE.out.hs LIE.out.a1 LIE.out.a2 LIE.out.a3 LIE.out.a4)
        clear hboth HP hr d0 d1 d2 d3
        have d1 := (S1.out.bel.cell (p := ⟨b, off + k * 4 + 1, none⟩) HBB.out).trans C1.out
        go_wp2
        exact ⟨⟨k + 1, by omega, by go_num, S1⟩, by simp [intOf]; omega⟩
      · obtain ⟨p, f, hpr⟩ := hr.out.two
        have HP := hd hpr
        clear hpr
        go_wp2_with fail
        refine (read_any q t zs p f kind num Nn true _ HP.out RG'.out (HG.out.below hr.out.bel HG.out.pos)).mono ?_
        rintro e w5 ⟨rfl, hboth⟩
        have S1 := hd (hr.out.second hboth LIE.out.hq LIE.out.ht ⟨LIE.out.a1.1.symm, LIE.out.a2.1.symm⟩ ⟨LIE.out.a1.2.symm, LIE.out.a2.2.symm⟩ LIE.out.a5 LIE.out.a6)
        clear hboth HP hr d0 d1 d2 d3
        go_wp2
        exact ⟨⟨k + 1, by omega, by go_num, S1⟩, by simp [intOf]; omega⟩
    · have hi : ¬ (k : Int) < (nl : Int) := by omega
      obtain ⟨p, f, hpr⟩ := hr.out.one
      have HP := hd hpr
      clear hpr
      go_wp2_with fail
      refine (stands_any r s ys p f _ HP.out (HG.out.below hr.out.bel HG.out.pos)).mono ?_
      rintro e w5 ⟨rfl, hb5⟩
      obtain ⟨p2, f2, hpr2⟩ := hr.out.two
      have HP2 := hd (hpr2.below hb5)
      have B5 := hd (hr.out.bel.trans (hb5.mono hr.out.bel.size))
      clear hpr2 hb5 HP hr
      go_wp2_with fail
      refine (stands_any q t zs p2 f2 _ HP2.out (HG.out.below B5.out HG.out.pos)).mono ?_
      rintro e w6 ⟨rfl, hb6⟩
      have B6 := hd (B5.out.trans (hb6.mono B5.out.size))
      clear hb6 HP2 B5
      go_wp2
      go_ret
      exact ⟨rfl, B6.out⟩

end Go.Proofs.YtkidhfednipdcabDoor
