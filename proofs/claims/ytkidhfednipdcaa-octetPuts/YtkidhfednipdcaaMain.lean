/-
  OctetPuts: the walk.
-/
import Derived.Test.YtkidhfednipdcaaWalkA
import Derived.Test.YtkidhfednipdcaaWalkF
namespace Go.Proofs.Ytkidhfednipdcaa
open Go.RowKit

/-- The slice value holds operations, each of four cells. -/
def IsOps (w : World) (a : Option Addr) (n c : Nat) : Prop :=
  n ≤ c ∧ c ≤ 9223372036854775807 ∧
  (0 < n → ∃ b off, a = some ⟨b, off, none⟩ ∧ b < w.heap.size ∧ ∀ i, i < n → ∃ kind N num : Int, ∃ which : Bool, (0 ≤ num ∧ num < 18446744073709551616) ∧
    w.cell? ⟨b, off + i * 4, none⟩ = some (.int .i64 kind) ∧ w.cell? ⟨b, off + i * 4 + 1, none⟩ = some (.bool which) ∧ w.cell? ⟨b, off + i * 4 + 2, none⟩ = some (.int .i64 N) ∧ w.cell? ⟨b, off + i * 4 + 3, none⟩ = some (.int .u64 num))

/-- What holds at the head of a round. -/
def Rel (w wr : World) (k : Nat) (q p : Value) : Prop :=
  ∃ ap np cp aq cq xs, p = .slice ap np cp ∧ q = .slice aq np cq ∧ IsB wr ap np cp xs ∧ IsB wr aq np cq xs ∧ np ≤ 600 + 4 * k ∧ Below w.heap.size w wr

set_option maxHeartbeats 400000 in
theorem puts_any (a : Option Addr) (n c : Nat) (xs : List Int) (al : Option Addr) (nl cl : Nat) (w : World) (h : IsB w a n c xs) (hl : IsOps w al nl cl) :
    Calls Try.prog 3 #[.slice a n c, .slice al nl cl] w fun e w' => e = .returned (.bool true) ∧ Below w.heap.size w w' := by
  obtain ⟨l1, l2, l3⟩ := hl
  have L3 := hd l3
  have h' : IsB w a (min n 600) c (xs.take (min n 600)) := h.take _ (by omega)
  have HH := hd h
  have HC : Hid _ := h'
  clear h h' l3
  go_enter Try.func3, Try.ntmps3
  go_wp2_with fail
  refine (cut_any a n c xs _ HH.out).mono ?_
  rintro e w1 ⟨rfl, rfl⟩
  go_wp2_with fail
  refine (twin_any a (min n 600) c _ _ HC.out (by omega)).mono ?_
  rintro e w1 ⟨v, rfl, hown, hbel⟩
  obtain ⟨aq, cq, rfl, hq⟩ := hown.isB
  have R0 : Hid (Rel w1 w1 0 (.slice aq (min n 600) cq) (.slice a (min n 600) c)) := ⟨a, _, c, aq, cq, _, rfl, rfl, IsB.below HC.out hbel, hq, by omega, Below.refl _ _⟩
  have HB := hd hbel
  clear hown hbel hq
  go_wp2
  go_loopw [5, 6, 7] (fun q p i wr => ∃ k : Nat, k ≤ 600 ∧ i = .int .i64 k ∧ Hid (Rel w1 wr k q p)) (fun _ _ i _ => 600 - (intOf i).toNat)
  case atStart => exact ⟨0, Nat.zero_le _, rfl, R0⟩
  case round =>
    obtain ⟨k, hk, rfl, hr⟩ := hrel
    by_cases hlt : k < nl
    · by_cases h600 : k < 600
      · obtain ⟨b, off, rfl, hb, hc⟩ := L3.out (by omega)
        obtain ⟨kind, N, num, which, hu, c0, c1, c2, c3⟩ := hc k hlt
        have hbig : Below w.heap.size w wr := by
          obtain ⟨_, _, _, _, _, _, _, _, _, _, _, hbl⟩ := hr.out
          exact HB.out.trans (hbl.mono HB.out.size)
        have d0 := (hbig.cell (p := ⟨b, off + k * 4, none⟩) hb).trans c0
        have d1 := (hbig.cell (p := ⟨b, off + k * 4 + 1, none⟩) hb).trans c1
        have d2 := (hbig.cell (p := ⟨b, off + k * 4 + 2, none⟩) hb).trans c2
        have d3 := (hbig.cell (p := ⟨b, off + k * 4 + 3, none⟩) hb).trans c3
        clear hc c0 c1 c2 c3 hbig
        have hi : (k : Int) < (nl : Int) := by omega
        have hi6 : (k : Int) < 600 := by omega
        obtain ⟨ap, np, cp, aq2, cq2, ys, rfl, rfl, hp, hq, hnp, hbl⟩ := hr.out
        have HP := hd hp
        have HQ := hd hq
        have HL := hd hbl
        clear hp hq hbl hr R0
        have hb1 : b < wr.heap.size := by
          have := HB.out.size
          have := HL.out.size
          omega
        go_wp2_with fail
        refine (lawPut ap np cp kind num N which ys _ HP.out (by omega) hu).mono ?_
        rintro e w2 ⟨a3, n3, c3, rfl, hg, hn3, hb3⟩
        have f0 := (hb3.cell (p := ⟨b, off + k * 4, none⟩) hb1).trans d0
        have f1 := (hb3.cell (p := ⟨b, off + k * 4 + 1, none⟩) hb1).trans d1
        have f2 := (hb3.cell (p := ⟨b, off + k * 4 + 2, none⟩) hb1).trans d2
        have f3 := (hb3.cell (p := ⟨b, off + k * 4 + 3, none⟩) hb1).trans d3
        have HQ2 := hd (HQ.out.below hb3)
        have HG := hd hg
        have HB3 := hd hb3
        clear d0 d1 d2 d3 hg hb3
        go_wp2_with fail
        refine (lawRef aq2 np cq2 kind num N which ys _ HQ2.out (by omega) hu).mono ?_
        rintro e w3 ⟨a4, n4, c4, rfl, hg4, hn4, hb4⟩
        obtain rfl : n3 = n4 := by rw [← HG.out.1, ← hg4.1]
        have HG4 := hd hg4
        have HG3 := hd (HG.out.below hb4)
        have HL3 := hd (HL.out.trans ((HB3.out.mono HL.out.size).trans (hb4.mono (Nat.le_trans HL.out.size HB3.out.size))))
        clear hg4 hb4 HG HB3 f0 f1 f2 f3
        go_wp2_with fail
        refine (same_true a3 a4 n3 c3 c4 _ _ HG3.out HG4.out).mono ?_
        rintro e w4 ⟨rfl, m, rfl⟩
        have hdr : Below w3.heap.size w3 (w3.drewN m) := below_drewN (Below.refl _ _) m
        have RR : Hid (Rel w1 (w3.drewN m) (k + 1) (.slice a4 n3 c4) (.slice a3 n3 c3)) :=
          ⟨a3, n3, c3, a4, c4, _, rfl, rfl, IsB.below HG3.out hdr, IsB.below HG4.out hdr, by omega, HL3.out.trans (hdr.mono HL3.out.size)⟩
        clear hdr HG3 HG4 HL3 HQ2 HP HQ HL
        go_wp2
        exact ⟨⟨k + 1, by omega, by go_num, RR⟩, by simp [intOf]; omega⟩
      · have hi6 : ¬ (k : Int) < 600 := by omega
        have F := hd (by
          obtain ⟨_, _, _, _, _, _, _, _, _, _, _, hbl⟩ := hr.out
          exact HB.out.trans (hbl.mono HB.out.size) : Below w.heap.size w wr)
        clear hr R0
        go_wp2
        go_ret
        exact ⟨rfl, F.out⟩
    · have hi6 : ¬ (k : Int) < (nl : Int) := by omega
      have F := hd (by
        obtain ⟨_, _, _, _, _, _, _, _, _, _, _, hbl⟩ := hr.out
        exact HB.out.trans (hbl.mono HB.out.size) : Below w.heap.size w wr)
      clear hr R0
      go_wp2
      go_ret
      exact ⟨rfl, F.out⟩

end Go.Proofs.Ytkidhfednipdcaa
