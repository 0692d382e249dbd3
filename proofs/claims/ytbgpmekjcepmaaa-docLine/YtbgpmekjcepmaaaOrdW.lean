/-
  ordered.
-/
import Derived.Test.YtbgpmekjcepmaaaOrdr
import Derived.Deep.QuietTactic
import Derived.BigQuiet
import Derived.Deep.RegionHeld3
namespace Go.Proofs.Ytbgpmekjcepmaaa
open Go.RowKit
set_option linter.unusedVariables false

theorem IsE.heap {w w' : World} {a : Option Addr} {n c : Nat} {xs : List El} (h : IsE w a n c xs) (e : w'.heap = w.heap) : IsE w' a n c xs := by
  obtain ⟨h1, h2, h3, h4⟩ := h
  refine ⟨h1, h2, h3, fun hn => ?_⟩
  obtain ⟨b, off, ea, hlt, hc⟩ := h4 hn
  refine ⟨b, off, ea, by rw [e]; exact hlt, fun j v hj => ?_⟩
  rw [World.cell?_of_block (w := w) (by rw [e])]
  exact hc j v hj

set_option maxRecDepth 100000 in
set_option maxHeartbeats 8000000 in
theorem ordered_any (a b : Option Addr) (n c m d : Nat) (xs ys : List El) (w : World) (hx : IsE w a n c xs) (hy : IsE w b m d ys) (hO : Ord xs ys) :
    Calls Try.prog 26 #[.slice a n c, .slice b m d] w fun e w' => e = .returned (.bool true) ∧ Below w.heap.size w w' := by
  have hn : n ≤ 9223372036854775807 := by have := hx.2.1; have := hx.2.2.1; omega
  have hm : m ≤ 9223372036854775807 := by have := hy.2.1; have := hy.2.2.1; omega
  have LX := hd hx.1
  have LY := hd hy.1
  have HX := hd hx
  have HY := hd hy
  have HO := hd hO
  have S0 : Hid (ORel xs ys 0 0) := by
    show List.Sublist _ _
    simpa using hO.2.2
  clear hx hy hO
  go_enter Try.func26, Try.ntmps26
  go_wp2
  go_loopw [5, 6] (fun last i wr => ∃ k q : Nat, k ≤ n ∧ q ≤ m ∧ i = .int .i64 k ∧ last = .int .i64 ((q : Int) - 1) ∧ Hid (ORel xs ys k q) ∧ Hid (Below w.heap.size w wr)) (fun _ i _ => n - (intOf i).toNat)
  case atStart => exact ⟨0, 0, Nat.zero_le _, Nat.zero_le _, rfl, rfl, S0, Below.refl _ _⟩
  case round =>
    obtain ⟨k, q, hk, hq, rfl, rfl, hR, hB⟩ := hrel
    clear S0
    by_cases hlt : k < n
    · have kx : k < xs.length := by have := LX.out; omega
      have X2 := HX.out.below hB.out
      obtain ⟨b1, o1, rfl, l1⟩ := X2.addr (by omega)
      obtain ⟨x0, x1, x2⟩ := X2.at k hlt kx
      have i1 : (k : Int) < (n : Int) := by omega
      have ST := hd (hR.out.step HO.out kx)
      generalize xs[k] = X at *
      obtain ⟨xc, xl, xq⟩ := X
      simp only [] at x0 x1 x2 ST
      have Y2 := hd (HY.out.below hB.out)
      have HB := hd hB.out
      clear hR hB X2 kx
      go_wp2_with fail
      go_region_held3 (fun W => W.cell? ⟨b1, o1 + k * 3 + 1, none⟩ = some (.int .i64 xl) ∧ W.cell? ⟨b1, o1 + k * 3 + 2, none⟩ = some (.int .i64 xq)) (first | go_keep | (exact ⟨by assumption, by assumption⟩)) (first | (go_at_call 19; refine (find_any b m d xl xq ys _ (Y2.out.heap ?_)).mono ?_; exact rfl; rintro e w5 ⟨rfl, b5⟩; have q0 := (b5.cell (p := ⟨b1, o1 + k * 3, none⟩) l1).trans x0; have q1 := (b5.cell (p := ⟨b1, o1 + k * 3 + 1, none⟩) l1).trans x1; have q2 := (b5.cell (p := ⟨b1, o1 + k * 3 + 2, none⟩) l1).trans x2; have Y5 := hd ((Y2.out.heap (w' := wr.drew) rfl).below b5); have B5 := hd (HB.out.trans (((below_drewN (Below.refl wr.heap.size wr) 1).trans b5).mono HB.out.size)); clear b5 x0 x1 x2 HB Y2))
      rcases ST.out with ⟨hf, hR2⟩ | ⟨kk, hf, hqk, hat, hR2⟩
      · rw [hf]
        have R2 : Hid (ORel xs ys (k + 1) q) := hR2
        clear ST hf hR2
        have j1 : ¬ (-1 : Int) ≥ (m : Int) := by omega
        have j2 : decide ((m : Int) ≤ -1) = false := decide_eq_false (by omega)
        go_wp2
        go_quiet (fail)
        go_wp2
        exact ⟨⟨k + 1, q, by omega, hq, by go_num, rfl, R2, below_drewN B5.out _⟩, by simp [intOf]; omega⟩
      · rw [hf]
        have hkm : kk < ys.length := (List.getElem?_eq_some_iff.1 hat).1
        have hel : ys[kk] = (xc, xl, xq) := (List.getElem?_eq_some_iff.1 hat).2
        have hkm2 : kk < m := by have := LY.out; omega
        obtain ⟨b2, o2, rfl, l2⟩ := Y5.out.addr (by omega)
        obtain ⟨y0, y1, y2⟩ := Y5.out.at kk hkm2 hkm
        rw [hel] at y0 y1 y2
        simp only [] at y0 y1 y2
        have R2 : Hid (ORel xs ys (k + 1) (kk + 1)) := hR2
        clear ST hf hR2 hat hel hkm
        have j1 : ¬ (kk : Int) ≥ (m : Int) := by omega
        have j2 : (kk : Int) ≥ 0 := by omega
        have j3 : decide ((kk : Int) ≤ (q : Int) - 1) = false := decide_eq_false (by omega)
        have j4 : ¬ (kk : Int) ≤ (q : Int) - 1 := by omega
        have j5 : (kk : Int) < (m : Int) := by omega
        have j6 : decide ((m : Int) ≤ (kk : Int)) = false := decide_eq_false (by omega)
        go_wp2
        go_quiet (fail)
        go_wp2
        exact ⟨⟨k + 1, kk + 1, by omega, by omega, by go_num, by simp, R2, below_drewN B5.out _⟩, by simp [intOf]; omega⟩
    · go_wp2
      go_ret
      exact ⟨rfl, hB.out⟩

end Go.Proofs.Ytbgpmekjcepmaaa
