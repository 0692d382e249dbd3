/-
  Weave, of the document.
-/
import Derived.Test.YtmkgkgdngjmcmabDoorNe
import Derived.Deep.RegionLaw
namespace Go.Proofs.YtmkgkgdngjmcmabDoor
open Go.RowKit
set_option linter.unusedVariables false

set_option maxHeartbeats 4000000 in
theorem rweave_bad (a b : Option Addr) (n c m d : Nat) (w : World) (hn : 4096 < n ∨ 4096 < m) :
    Calls Tryd.prog 15 #[.slice a n c, .slice b m d] w fun e w' => e = .returned (.tuple #[.slice none 0 0, .slice none 0 0, .int .i64 50]) ∧ w = w' := by
  by_cases h : 4096 < n
  · have i1 : (n : Int) > 4096 := by omega
    go_enter Tryd.func15, Tryd.ntmps15
    go_wp2
    refine bodyPost_ret (v := .tuple #[.slice none 0 0, .slice none 0 0, .int .i64 50]) (by simp [results, Tryd.results15, go_sem]) rfl ?_
    exact ⟨rfl, rfl⟩
  · have i1 : decide ((n : Int) > 4096) = false := by simp; omega
    have i2 : (m : Int) > 4096 := by omega
    go_enter Tryd.func15, Tryd.ntmps15
    go_wp2
    refine bodyPost_ret (v := .tuple #[.slice none 0 0, .slice none 0 0, .int .i64 50]) (by simp [results, Tryd.results15, go_sem]) rfl ?_
    exact ⟨rfl, rfl⟩

/-- Two rows of the call's own that share nothing. -/
def PRel (w wr : World) (u v : Value) (A B : List OpE) : Prop := ∃ β γ, SO wr β u A ∧ SO wr γ v B ∧ (∀ g, β = some g → w.heap.size ≤ g) ∧ (∀ g, γ = some g → w.heap.size ≤ g) ∧ (∀ g, β = some g → γ ≠ some g) ∧ Below w.heap.size w wr

/-- The first is replaced by a new one; one is put behind the second. -/
theorem PRel.next {w wr w1 V : World} {u v v1 : Value} {A B C : List OpE} (h : PRel w wr u v A B) (h1 : FRel wr w1 wr.heap.size v1 C) (hV : Below w1.heap.size w1 V) (o : OpE) (hL : B.length ≤ 4096) :
    ∃ v' w3, (∀ ty, (Builtin.append_ #[24, 24] ty #[v, .slice (some ⟨V.heap.size, 0, none⟩) 1 1]).run Tryd.prog (V.alloc (.cells (opc o).toArray 23)) = .ok v' w3) ∧ PRel w w3 v1 v' C (B ++ [o]) := by
  obtain ⟨β, γ, s1, s2, q1, q2, q3, hB⟩ := h
  obtain ⟨δ, t1, t2, t3⟩ := h1
  have b1 : Below wr.heap.size wr V := t3.trans (hV.mono t3.size)
  obtain ⟨v', w3, γ', hr, g1, g2, g3⟩ := push_own (s2.below b1) o hL
  have dne : ∀ g, δ = some g → γ ≠ some g := fun g hg h => by have := t2 g hg; have := s2.lt g h; omega
  refine ⟨v', w3, hr, δ, γ', (t1.below hV).fr g3 (fun g hg h => dne g hg h), g1, ?_, ?_, ?_, ?_⟩
  · intro g hg
    have := t2 g hg
    have := hB.size
    omega
  · intro g hg
    rcases g2 with g2 | ⟨g', g2, g4⟩
    · exact q2 g (g2 ▸ hg)
    · obtain rfl : g' = g := Option.some.inj (g2.symm.trans hg)
      have := hB.size
      have := b1.size
      omega
  · intro g hg h
    rcases g2 with g2 | ⟨g', g2, g4⟩
    · exact dne g hg (g2 ▸ h)
    · obtain rfl : g' = g := Option.some.inj (g2.symm.trans h)
      have := (t1.below hV).lt g' hg
      omega
  · exact (hB.trans (b1.mono hB.size)).trans (g3.below (Nat.le_trans hB.size b1.size) (fun k h => q2 k h))

set_option maxRecDepth 100000 in
set_option maxHeartbeats 8000000 in
theorem rweave_any (a b : Option Addr) (n c m d : Nat) (xs ys : List OpE) (w : World) (hE : IsO w a n c xs) (hF : IsO w b m d ys) (hn : n ≤ 4096) (hm : m ≤ 4096) :
    Calls Tryd.prog 15 #[.slice a n c, .slice b m d] w fun e w' => ∃ v u, e = .returned (.tuple #[v, u, .int .i64 0]) ∧
      FRel w w' w.heap.size v (weaveP xs ys).1 ∧ FRel w w' w.heap.size u (weaveP xs ys).2 := by
  obtain ⟨i0, hi0, hz0, hz1, hz2⟩ := info_parts Tryd.infoO
  have i1 : decide ((n : Int) > 4096) = false := by simp; omega
  have i2 : decide ((m : Int) > 4096) = false := by simp; omega
  have HE := hd hE
  have HF := hd hF
  have LX := hd hE.1
  have LY := hd hF.1
  clear hE hF
  go_enter Tryd.func15, Tryd.ntmps15
  go_wp2_with (first | (at_make; refine wpList_make_k _ rfl _ _ 24 rfl 23 i0 _ Tryd.underlying24 hi0 hz0 _ _ _ _ 0 m rfl rfl (by go_num) (by go_num) (by omega) (by rw [hz2]; omega) (by omega) ?_; intro w3 cur hg3 hcur hb3) | fail)
  have S0 : Hid (FRel w w3 w.heap.size (.slice (some ⟨w.heap.size, 0, none⟩) 0 m) (ys.take 0)) := by
    refine ⟨some w.heap.size, ⟨m, rfl, ?_⟩, fun g hg => by have := Option.some.inj hg; omega, hb3.out⟩
    exact (row_made hg3.out (by have := hcur.out; rw [hz1] at this; exact this) (by omega)).2
  clear hg3 hcur hb3
  have HI0 := hd hi0
  have HZ0 := hd hz0
  have HZ1 := hd hz1
  have HZ2 := hd hz2
  clear hi0 hz0 hz1 hz2
  go_wp2
  go_loopw [7, 8] (fun v i wr => ∃ j : Nat, j ≤ m ∧ i = .int .i64 j ∧ Hid (FRel w wr w.heap.size v (ys.take j))) (fun _ i _ => m - (intOf i).toNat)
  case atStart => exact ⟨0, Nat.zero_le _, rfl, S0⟩
  case round =>
    obtain ⟨j, hj, rfl, hr⟩ := hrel
    clear S0
    have hfl : (ys.take j).length = j := by have := LY.out; simp; omega
    obtain ⟨av, cv, rfl, hI, hB⟩ := hr.out.form hfl
    by_cases hlt : j < m
    · have jx : j < ys.length := by have := LY.out; omega
      have E2 := HF.out.below hB
      obtain ⟨bl, ol, rfl, hbl⟩ := E2.addr (by omega)
      obtain ⟨x0, x1, x2, x3, x4⟩ := E2.at j hlt jx
      have i3 : (j : Int) < (m : Int) := by omega
      obtain ⟨v5, w5, hap, hF5, hk5, -⟩ := hr.out.push (Below.refl wr.heap.size wr) (Nat.le_refl _) hB.size ys[j] (by omega)
      rw [← List.take_succ_eq_append_getElem jx] at hF5
      have Z5 := hd hF5
      clear hr hF5 hk5 hI hB E2 hfl
      generalize ys[j] = x at *
      obtain ⟨uk, up, uc, uq, us⟩ := x
      simp only [opc] at hap x0 x1 x2 x3 x4
      go_wp2_with (at_builtin; refine wpList_append_k _ rfl _ _ 24 24 rfl _ _ rfl rfl (hap _) ?_)
      exact ⟨⟨j + 1, by omega, by go_num, Z5⟩, by simp [intOf]; omega⟩
    · obtain rfl : j = m := by omega
      have hi0 := HI0.out
      have hz0 := HZ0.out
      have hz1 := HZ1.out
      have hz2 := HZ2.out
      have FR := hr
      have BE := hd hB
      clear hr hI hB
      obtain ⟨wE, hwE⟩ : ∃ wE, wE = wr := ⟨_, rfl⟩
      subst hwE
      go_wp2_with (first | (at_make; refine wpList_make_k _ rfl _ _ 24 rfl 23 i0 _ Tryd.underlying24 hi0 hz0 _ _ _ _ 0 n rfl rfl (by go_num) (by go_num) (by omega) (by rw [hz2]; omega) (by omega) ?_; intro w6 cur hg6 hcur hb6; have hR6 := (row_made hg6.out (by have := hcur.out; rw [hz1] at this; exact this) (by omega)).2; have B6 := hd hb6.out; have R6 := hd hR6; clear hR6 hg6 hcur hb6) | fail)
      have S6 : Hid (PRel w w6 (.slice av j cv) (.slice (some ⟨wE.heap.size, 0, none⟩) 0 n) (weaveP (xs.take 0) ys).2 (weaveP (xs.take 0) ys).1) := by
        obtain ⟨β, h1, h2, h3⟩ := FR.out
        have e : ys.take j = ys := List.take_of_length_le (by have := LY.out; omega)
        rw [e] at h1
        rw [List.take_zero, weaveP_nil]
        exact ⟨β, some wE.heap.size, h1.below B6.out, ⟨n, rfl, R6.out⟩, h2, fun g hg => by have := Option.some.inj hg; have := BE.out.size; omega, fun g hg h => by have := Option.some.inj h; have := h1.lt g hg; omega, BE.out.trans (B6.out.mono BE.out.size)⟩
      clear R6 B6 FR BE hfl hi0 hz0 hz1 hz2
      go_loopw [7, 9, 10] (fun u v i wr => ∃ k : Nat, k ≤ n ∧ i = .int .i64 k ∧ Hid (PRel w wr u v (weaveP (xs.take k) ys).2 (weaveP (xs.take k) ys).1)) (fun _ _ i _ => n - (intOf i).toNat)
      case atStart => exact ⟨0, Nat.zero_le _, rfl, S6⟩
      case round =>
        obtain ⟨k, hk, rfl, hr⟩ := hrel
        clear S6
        obtain ⟨β, γ, s1, s2, q1, q2, q3, hB⟩ := hr.out
        have l1 : (weaveP (xs.take k) ys).2.length = j := by rw [(weaveP_len _ _).2]; exact LY.out
        obtain ⟨au, cu, rfl, hIu⟩ := s1.formN l1
        by_cases hlt2 : k < n
        · have kx : k < xs.length := by have := LX.out; omega
          have E2 := HE.out.below hB
          obtain ⟨bl, ol, rfl, hbl⟩ := E2.addr (by omega)
          obtain ⟨x0, x1, x2, x3, x4⟩ := E2.at k hlt2 kx
          have i3 : (k : Int) < (n : Int) := by omega
          have e1 : weaveP (xs.take (k + 1)) ys = ((weaveP (xs.take k) ys).1 ++ [(throughP xs[k] (weaveP (xs.take k) ys).2 false).1], (throughP xs[k] (weaveP (xs.take k) ys).2 false).2) := by
            rw [List.take_succ_eq_append_getElem kx, weaveP_snoc2]
          have l2 : (weaveP (xs.take k) ys).1.length = k := by rw [(weaveP_len _ _).1]; simp; omega
          have PR := hr
          have IU := hd hIu
          have E1 := hd e1
          have L2 := hd l2
          clear hr s1 s2 q1 q2 q3 hB hIu E2 e1 l1 l2
          generalize xs[k] = x at *
          obtain ⟨uk, up, uc, uq, us⟩ := x
          simp only [] at x0 x1 x2 x3 x4
          go_wp2_with fail
          refine (rthrough_any ⟨uk, up, uc, uq, us⟩ au j cu (weaveP (xs.take k) ys).2 false wr IU.out hm).mono ?_
          rintro e w1 ⟨v1, rfl, hF1⟩
          obtain ⟨⟨rk, rp, rc, rq, rs⟩, hA⟩ : ∃ A, (throughP ⟨uk, up, uc, uq, us⟩ (weaveP (xs.take k) ys).2 false).1 = A := ⟨_, rfl⟩
          rw [hA]
          obtain ⟨v5, w5, hap, hP5⟩ := PR.out.next hF1 (V := w1.alloc (.cells #[.int .i64 rk, .int .i64 rp, .int .u8 rc, .int .i64 rq, .int .i64 rs] 23)) ((Below.refl _ _).alloc (Nat.le_refl _) _) ⟨rk, rp, rc, rq, rs⟩ (by rw [L2.out]; omega)
          have Z5 : Hid (PRel w w5 v1 v5 (weaveP (xs.take (k + 1)) ys).2 (weaveP (xs.take (k + 1)) ys).1) := by
            rw [E1.out, hA]
            exact hP5
          simp only [opc, World.size_alloc, OpE.val] at hap ⊢
          clear hP5 hF1 hA PR IU E1 L2 x0 x1 x2 x3 x4
          go_wp2_with (at_builtin; refine wpList_append_k _ rfl _ _ 24 24 rfl _ _ rfl rfl (hap _) ?_)
          exact ⟨⟨k + 1, by omega, by go_num, Z5⟩, by simp [intOf]; omega⟩
        · obtain rfl : k = n := by omega
          have G : Hid (FRel w wr w.heap.size u9 (weaveP xs ys).1 ∧ FRel w wr w.heap.size (.slice au j cu) (weaveP xs ys).2) := by
            have e : xs.take k = xs := List.take_of_length_le (by have := LX.out; omega)
            rw [e] at s1 s2
            exact ⟨⟨γ, s2, q2, hB⟩, ⟨β, s1, q1, hB⟩⟩
          clear hr hIu s1 s2 q1 q2 q3 hB
          go_wp2
          refine bodyPost_ret (v := .tuple #[u9, .slice au j cu, .int .i64 0]) (by simp [results, Tryd.results15, go_sem]) rfl ?_
          exact ⟨_, _, rfl, G.out⟩

end Go.Proofs.YtmkgkgdngjmcmabDoor
