/-
  NetLine.
-/
import Derived.Test.YtnglcnilckolkaaLost
namespace Go.Proofs.Ytnglcnilckolkaa
open Go.RowKit
set_option linter.unusedVariables false

/-- A list of byte lists, to be read. -/
def IsL (w : World) (a : Option Addr) (n c : Nat) (A : Nat → Option Addr) (N C : Nat → Nat) (X : Nat → List Int) : Prop :=
  n ≤ c ∧ c ≤ 9223372036854775807 ∧ (0 < n → ∃ b off, a = some ⟨b, off, none⟩ ∧ b < w.heap.size ∧ ∀ i, i < n → w.cell? ⟨b, off + i, none⟩ = some (.slice (A i) (N i) (C i)) ∧ IsB w (A i) (N i) (C i) (X i))
theorem IsL.below {w w' : World} {a : Option Addr} {n c : Nat} {A : Nat → Option Addr} {N C : Nat → Nat} {X : Nat → List Int} (h : IsL w a n c A N C X) (hb : Below w.heap.size w w') : IsL w' a n c A N C X := by
  obtain ⟨h1, h2, h3⟩ := h
  refine ⟨h1, h2, fun hn => ?_⟩
  obtain ⟨b, off, e, hlt, hc⟩ := h3 hn
  refine ⟨b, off, e, Nat.lt_of_lt_of_le hlt hb.size, fun i hi => ⟨?_, (hc i hi).2.below hb⟩⟩
  rw [hb.cell (p := ⟨b, off + i, none⟩) hlt]
  exact (hc i hi).1

/-- The k-th datagram that is sent. -/
def lineD (X : Nat → List Int) (k : Nat) : DG := ⟨eF k, eT k, (X k).take 64, false⟩
def lineG (X : Nat → List Int) (o i : Nat) : List DG := (List.range' o (i - o)).map (lineD X)
theorem lineG_len (X : Nat → List Int) (o i : Nat) : (lineG X o i).length = i - o := by simp [lineG]
theorem lineG_push (X : Nat → List Int) (o i : Nat) (h : o ≤ i) : lineG X o i ++ [lineD X i] = lineG X o (i + 1) := by
  unfold lineG
  rw [show i + 1 - o = (i - o) + 1 by omega, List.range'_concat, List.map_append]
  simp
  congr 1
  omega
theorem lineG_pop (X : Nat → List Int) (o i : Nat) (h : o < i) : lineG X o i = lineD X o :: lineG X (o + 1) i := by
  unfold lineG
  rw [show i - o = (i - (o + 1)) + 1 by omega, List.range'_succ, List.map_cons]

set_option maxRecDepth 100000 in
set_option maxHeartbeats 4000000 in
theorem oldest_any (al : Option Addr) (nl cl : Nat) (A : Nat → Option Addr) (N C : Nat → Nat) (X : Nat → List Int) (w0 w : World) (hL : IsL w0 al nl cl A N C X) (x k i B : Nat) (hk : k < nl) (hk3 : k ≤ 300) (hki : k < i) (h : ST w0 w x 64 (lineG X k i) B) :
    Calls Try.prog 14 #[.pointer (some ⟨x, 0, none⟩), .slice al nl cl, .int .i64 k] w fun e w' => e = .returned (.bool true) ∧ ST w0 w' x 64 (lineG X (k + 1) i) B := by
  have hg : (lineG X k i).getD 0 zDG = lineD X k := by rw [lineG_pop X k i hki]; rfl
  have hw : without (lineG X k i) 0 = lineG X (k + 1) i := by rw [lineG_pop X k i hki]; rfl
  have hlen : 0 < (lineG X k i).length := by rw [lineG_len]; omega
  have DV := st_deliver h 0 hlen
  rw [hg, hw] at DV
  have HDV := hd DV
  have HL := hd hL
  obtain ⟨hn1, hn2, h3⟩ := hL
  obtain ⟨b, off, rfl, hb, hc⟩ := h3 (by omega)
  have HC := hd hc
  have hkl : (k : Int) < (nl : Int) := by omega
  clear DV h hg hw hlen h3 hc
  go_enter Try.func14, Try.ntmps14
  go_wp2_with fail
  refine HDV.out.mono ?_
  rintro e w1 ⟨ad, cd, rfl, hI, hST⟩
  obtain ⟨c0, hB0⟩ := HC.out k hk
  have base := hST.base
  have c1 := (base.cell (p := ⟨b, off + k, none⟩) hb).trans c0
  have hB1 := hB0.below base
  have hX : (X k).length = N k := hB0.1
  have hNC : N k ≤ C k ∧ C k ≤ 9223372036854775807 := ⟨hB0.2.1, hB0.2.2.1⟩
  have HS := hd hST
  have HI := hd hI
  have HB1 := hd hB1
  have HX := hd hX
  have hbl : b < w1.heap.size := Nat.lt_of_lt_of_le hb base.size
  clear hST hI hB1 hX c0 hB0 base
  unfold lineD
  simp only
  by_cases h64 : 64 < N k
  · obtain ⟨m, hm⟩ : ∃ m, 64 = m := ⟨_, rfl⟩
    have IT : Hid (IsB w1 (A k) 64 (C k) ((X k).take 64)) := HB1.out.take 64 (by omega)
    have hl : ((X k).take 64).length = 64 := IT.out.1
    have i1 : (64 : Int) < (N k : Int) := by omega
    have i2 : (64 : Int) ≤ (C k : Int) := by omega
    have HIT := HI.out
    simp only [lineD, hl] at HIT
    rw [hl]
    have HD := hd HIT
    clear HIT HI HB1 hl hm
    go_wp2_with fail
    refine (ends_any k _ (by omega)).mono ?_
    rintro e w2 ⟨rfl, rfl⟩
    go_wp2_with fail
    generalize hw4 : w1.alloc (.cells #[.int .i64 (eF k), .int .i64 (eT k), .slice ad 64 cd, .bool false] 37) = w4 at *
    have b4 : Below w1.heap.size w1 w4 := by rw [← hw4]; exact (Below.refl _ _).alloc (Nat.le_refl _) _
    have AK := alike_true ⟨eF k, eT k, (X k).take 64, false⟩ ad (A k) cd (C k) w4
    simp only [IT.out.1] at AK
    refine (AK (HD.out.below b4) (IT.out.below b4)).mono ?_
    clear AK
    rintro e w5 ⟨rfl, b5⟩
    have Z := hd (HS.out.below (b4.trans (b5.mono b4.size)))
    clear b4 b5 hw4
    go_wp2
    go_ret
    exact ⟨rfl, Z.out⟩
  · have IT : Hid (IsB w1 (A k) (N k) (C k) ((X k).take 64)) := by
      rw [List.take_of_length_le (by rw [HX.out]; omega)]
      exact HB1.out
    have hl : ((X k).take 64).length = N k := IT.out.1
    have i1 : ¬ (64 : Int) < (N k : Int) := by omega
    have HIT := HI.out
    simp only [lineD, hl] at HIT
    rw [hl]
    have HD := hd HIT
    clear HIT HI HB1 hl
    go_wp2_with fail
    refine (ends_any k _ (by omega)).mono ?_
    rintro e w2 ⟨rfl, rfl⟩
    go_wp2_with fail
    generalize hw4 : w1.alloc (.cells #[.int .i64 (eF k), .int .i64 (eT k), .slice ad (N k) cd, .bool false] 37) = w4 at *
    have b4 : Below w1.heap.size w1 w4 := by rw [← hw4]; exact (Below.refl _ _).alloc (Nat.le_refl _) _
    have AK := alike_true ⟨eF k, eT k, (X k).take 64, false⟩ ad (A k) cd (C k) w4
    simp only [IT.out.1] at AK
    refine (AK (HD.out.below b4) (IT.out.below b4)).mono ?_
    clear AK
    rintro e w5 ⟨rfl, b5⟩
    have Z := hd (HS.out.below (b4.trans (b5.mono b4.size)))
    clear b4 b5 hw4
    go_wp2
    go_ret
    exact ⟨rfl, Z.out⟩

end Go.Proofs.Ytnglcnilckolkaa
