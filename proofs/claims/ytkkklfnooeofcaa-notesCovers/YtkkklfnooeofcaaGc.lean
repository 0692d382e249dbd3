/-
  eqNotes, walked.
-/
import Derived.Test.YtkkklfnooeofcaaGb
namespace Go.Proofs.Ytkkklfnooeofcaa
open Go.RowKit Go.Maps Go.ChangeMaps Go.MapKept Go.WideMaps
set_option linter.unusedVariables false

set_option maxRecDepth 100000 in
set_option maxHeartbeats 4000000 in
theorem eqNotes_true (xs : List El) (b b' : Option Nat) (a a' : Option Addr) (N c c' : Nat) (L L' : List TN) (w : World) (h : SF tnc 8 w 37 b (.slice a N c) L) (h' : SF tnc 8 w 37 b' (.slice a' N c') L') (hN : L.length = N) (hc : N ≤ c) (hc' : N ≤ c') (hc63 : c ≤ 9223372036854775807) (hc63' : c' ≤ 9223372036854775807) (ho : ∀ t ∈ L, TNs w xs t) (ho' : ∀ t ∈ L', TNs w xs t) (e : L.map TN.n = L'.map TN.n) :
    Calls Try.prog 28 #[.slice a N c, .slice a' N c'] w fun e w' => e = .returned (.bool true) ∧ Below w.heap.size w w' := by
  have HH := hd h
  have HH' := hd h'
  have HO := hd ho
  have HO' := hd ho'
  have HE := hd e
  have HL := hd hN
  clear h h' ho ho' e hN
  go_enter Try.func28, Try.ntmps28
  go_wp2
  go_loopw [5] (fun i wr => ∃ k : Nat, k ≤ N ∧ i = .int .i64 k ∧ Hid (Below w.heap.size w wr)) (fun i _ => N - (intOf i).toNat)
  case atStart => exact ⟨0, Nat.zero_le _, rfl, hd (Below.refl _ _)⟩
  case round =>
    obtain ⟨k, hk, rfl, HB⟩ := hrel
    by_cases hlt : k < N
    · have k1 : k < L.length := by rw [HL.out]; exact hlt
      have k2 : k < L'.length := by
        have := congrArg List.length HE.out
        simp only [List.length_map] at this
        omega
      obtain ⟨g, rfl, cs⟩ := tn_cells (HH.out.fr (S := fun _ => False) (Fr.of_below HB.out) (fun _ _ h => h)) k k1
      obtain ⟨g', rfl, cs'⟩ := tn_cells (HH'.out.fr (S := fun _ => False) (Fr.of_below HB.out) (fun _ _ h => h)) k k2
      have en : L[k].n = L'[k].n := by
        have := congrArg (fun l => l[k]?) HE.out
        simp only [List.getElem?_map, List.getElem?_eq_getElem k1, List.getElem?_eq_getElem k2, Option.map_some] at this
        exact Option.some.inj this
      have s1 := HO.out L[k] (List.getElem_mem k1)
      have s2 := HO'.out L'[k] (List.getElem_mem k2)
      have CQ : Hid (∀ W, Below wr.heap.size wr W → Calls Try.prog 16 #[.agg (tnc L[k]).toArray, .agg (tnc L'[k]).toArray] W fun e w' => e = .returned (.bool true) ∧ Below W.heap.size W w') := fun W hW => (s1.fr0 (HB.out.trans (hW.mono HB.out.size))).eq (s2.fr0 (HB.out.trans (hW.mono HB.out.size))) en
      have x0 := cs 0 (by omega); have x1 := cs 1 (by omega); have x2 := cs 2 (by omega); have x3 := cs 3 (by omega)
      have x4 := cs 4 (by omega); have x5 := cs 5 (by omega); have x6 := cs 6 (by omega); have x7 := cs 7 (by omega)
      have y0 := cs' 0 (by omega); have y1 := cs' 1 (by omega); have y2 := cs' 2 (by omega); have y3 := cs' 3 (by omega)
      have y4 := cs' 4 (by omega); have y5 := cs' 5 (by omega); have y6 := cs' 6 (by omega); have y7 := cs' 7 (by omega)
      clear cs cs' en s1 s2
      generalize L[k] = t at *
      generalize L'[k] = t' at *
      simp only [tnc, Nat.add_zero, List.getElem?_cons_zero, List.getElem?_cons_succ] at x0 x1 x2 x3 x4 x5 x6 x7 y0 y1 y2 y3 y4 y5 y6 y7 CQ
      have i1 : (k : Int) < (N : Int) := by omega
      go_upto_region 6 with fail
      go_cut [26] (fun b wx => b = .bool false ∧ Hid (Below wr.heap.size wr wx))
      case first =>
        go_region_with (go_at_call 16; refine (CQ.out _ ?_).mono ?_; exact below_drewN (Below.refl _ _) _; rintro e w5 ⟨rfl, b5⟩; have b6 : Hid (Below wr.heap.size wr w5) := ((Below.refl _ _).drew.trans b5); clear b5)
        all_goals (go_wp2_with fail; go_meet; exact ⟨rfl, b6⟩)
      case rest =>
        obtain ⟨rfl, HZ⟩ := hcut
        have Z := hd (HB.out.trans (HZ.out.mono HB.out.size))
        clear x0 x1 x2 x3 x4 x5 x6 x7 y0 y1 y2 y3 y4 y5 y6 y7 CQ HB HZ
        go_wp2
        exact ⟨⟨k + 1, hlt, rfl, Z⟩, by simp [intOf]; omega⟩
    · obtain rfl : k = N := by omega
      go_wp2
      go_ret
      exact ⟨rfl, HB.out⟩

end Go.Proofs.Ytkkklfnooeofcaa
