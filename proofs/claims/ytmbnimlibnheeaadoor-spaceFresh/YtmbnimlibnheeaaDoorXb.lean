/-
  SpaceFresh: grownMarked.
-/
import Derived.Test.YtmbnimlibnheeaaDoorXa
import Derived.Laws.StructEq
namespace Go.Proofs.YtmbnimlibnheeaaDoor
open Go.RowKit Go.Lib
set_option linter.unusedVariables false

set_option maxRecDepth 100000 in
set_option maxHeartbeats 8000000 in
theorem grown_any (gL K Kc : Nat) (B N C : Nat → Nat) (T : Nat → List (Int × OpE)) (w : World) (hI : ∀ i j, i < K → j < K → B i = B j → i = j) (hR : ∀ j, j < K → RowF mkd 6 w (B j) (N j) (C j) 39 (T j)) (hL : LC w gL K B N C) (hK : K ≤ 100) (hb : ∀ i, i < K → N i ≤ 1000) (hKc : K ≤ Kc) (hKm : Kc ≤ 9223372036854775807) :
    Calls Tryd.prog 36 #[.slice (some ⟨gL, 0, none⟩) K Kc] w fun e w' => e = .returned (.bool true) ∧ Hid (Fr (fun b => ∃ j, j < K ∧ B j = b) w w') := by
  have Hb := hd hb
  have HgL := hd hL.lt
  have HC : Hid (∀ j, j < K → N j ≤ C j ∧ C j ≤ 9223372036854775807) := fun j hj => (hR j hj).caps.2
  have S0 : Hid (M1 w w gL K B N C 0 0) := ⟨hI, hL, fun j hj => ⟨T j, hR j hj, fun h => absurd h (Nat.not_lt_zero _), fun _ q hq => absurd hq (Nat.not_lt_zero _)⟩, Fr.refl _ _⟩
  clear hI hR hL hb
  go_enter Tryd.func36, Tryd.ntmps36
  go_wp2
  go_loopw [3] (fun i wr => ∃ a : Nat, a ≤ K ∧ i = .int .i64 a ∧ Hid (M1 w wr gL K B N C a 0)) (fun i _ => K - (intOf i).toNat)
  case atStart => exact ⟨0, Nat.zero_le _, rfl, S0⟩
  case round =>
    obtain ⟨i, hi, rfl, hr⟩ := hrel
    clear S0
    by_cases hlt : i < K
    · have i1 : (i : Int) < (K : Int) := by omega
      have hbi := Hb.out i hlt
      obtain ⟨X, hX, -, -⟩ := hr.out.row i hlt
      have CN := hX.caps.2.1
      have CM := hX.caps.2.2
      clear X hX
      obtain ⟨bi, hbbi⟩ : ∃ b, B i = b := ⟨_, rfl⟩
      obtain ⟨ni, hni⟩ : ∃ b, N i = b := ⟨_, rfl⟩
      obtain ⟨ci, hci⟩ : ∃ b, C i = b := ⟨_, rfl⟩
      rw [hni] at hbi CN
      rw [hci] at CN CM
      have HE := hd (And.intro hbbi (And.intro hni hci))
      clear hbbi hni hci
      go_wp2
      go_loopw [4] (fun k wq => ∃ a : Nat, a ≤ ni ∧ k = .int .i64 a ∧ Hid (M1 w wq gL K B N C i a)) (fun k _ => ni - (intOf k).toNat)
      case atStart => exact ⟨0, Nat.zero_le _, rfl, hr⟩
      case round =>
        obtain ⟨k, hk, rfl, hq⟩ := hrel
        clear hr
        have cl := hq.out.lc.cell i hlt
        rw [HE.out.1, HE.out.2.1, HE.out.2.2] at cl
        by_cases hkn : k < ni
        · have i2 : (k : Int) < (ni : Int) := by omega
          obtain ⟨X, hX, -, -⟩ := hq.out.row i hlt
          rw [HE.out.1, HE.out.2.1, HE.out.2.2] at hX
          have hkx : k < X.length := by rw [hX.caps.1]; exact hkn
          obtain ⟨⟨m0, o0⟩, hx0⟩ : ∃ y, X[k]? = some y := ⟨_, List.getElem?_eq_getElem hkx⟩
          obtain ⟨p0, p1, p2, p3, p4⟩ := o0
          obtain ⟨a0, a1, a2, a3, a4, a5⟩ := hX.at6 k hkn hx0
          have f0 := hX.frz (k * 6)
          have f1 := hX.frz (k * 6 + 1)
          have f2 := hX.frz (k * 6 + 2)
          have f3 := hX.frz (k * 6 + 3)
          have f4 := hX.frz (k * 6 + 4)
          have f5 := hX.frz (k * 6 + 5)
          have bl := hX.lt
          have S2 := hq.out.set hlt (by rw [HE.out.2.1]; exact hkn)
          rw [HE.out.1] at S2
          replace S2 := hd S2
          clear hX hx0 hkx
          go_wp2
          exact ⟨⟨k + 1, by omega, by go_num, S2⟩, by simp [intOf]; omega⟩
        · obtain rfl : k = ni := by omega
          have i2 : ¬ (k : Int) < (k : Int) := by omega
          have M2 : Hid (M1 w wr gL K B N C (i + 1) 0) := M1.next (by have := hq.out; rwa [← HE.out.2.1] at this) hlt
          clear hq
          go_wp2
          exact ⟨⟨i + 1, by omega, by go_num, M2⟩, by simp [intOf]; omega⟩
    · obtain rfl : i = K := by omega
      have i1 : ¬ (i : Int) < (i : Int) := by omega
      have G0 : Hid (∃ τ H D vs β, GT w wr gL i B N C 0 0 τ H D vs β (.slice none 0 0)) := by
        obtain ⟨τ, H, D, h⟩ := hr.out.grow HgL.out
        exact ⟨τ, H, D, _, _, h⟩
      clear hr
      go_wp2
      go_loopw [5, 6] (fun gv ii wq => ∃ a : Nat, a ≤ i ∧ ii = .int .i64 a ∧ Hid (∃ τ H D vs β, GT w wq gL i B N C a a τ H D vs β gv)) (fun _ ii _ => i - (intOf ii).toNat)
      case atStart => exact ⟨0, Nat.zero_le _, rfl, G0⟩
      case round =>
        obtain ⟨q, hq, rfl, hg⟩ := hrel
        clear G0
        by_cases hqK : q < i
        · have i2 : (q : Int) < (i : Int) := by omega
          obtain ⟨τ, H, D, vs, β, hgt⟩ := hg.out
          have cl := hgt.lc.cell q hqK
          have hbq := Hb.out q hqK
          obtain ⟨bq, hbbq⟩ : ∃ b, B q = b := ⟨_, rfl⟩
          obtain ⟨nq, hnq⟩ : ∃ b, N q = b := ⟨_, rfl⟩
          obtain ⟨cq, hcq⟩ : ∃ b, C q = b := ⟨_, rfl⟩
          have I0 : Hid (∃ τ H D vs β xb xc, GI w wr gL i B N C q 0 (.slice (some ⟨bq, 0, none⟩) nq cq) u5 τ H D vs β xb xc) := by
            rw [← hbbq, ← hnq, ← hcq]
            exact ⟨τ, H, D, vs, β, _, _, hgt.start hqK⟩
          rw [hbbq, hnq, hcq] at cl
          rw [hnq] at hbq
          have HN := hd hnq
          clear hg hgt hbbq hnq hcq
          go_wp2
          go_loopw [7, 8] (fun x k wq => ∃ a : Nat, a ≤ 64 ∧ k = .int .i64 a ∧ Hid (∃ τ H D vs β xb xc, GI w wq gL i B N C q a x u5 τ H D vs β xb xc)) (fun _ k _ => 64 - (intOf k).toNat)
          case atStart => exact ⟨0, Nat.zero_le _, rfl, I0⟩
          case round =>
            obtain ⟨k, hk, rfl, hx⟩ := hrel
            clear I0
            obtain ⟨τ, H, D, vs, β, xb, xc, hgi⟩ := hx.out
            by_cases hk64 : k < 64
            · have i3 : (k : Int) < 64 := by omega
              obtain ⟨x', w3, τ', xb', xc', hap, hgi'⟩ := hgi.push hqK (by rw [HN.out]; omega)
              have S2 : Hid (∃ τ H D vs β xb xc, GI w w3 gL i B N C q (k + 1) x' u5 τ H D vs β xb xc) := ⟨_, _, _, _, _, _, _, hgi'⟩
              simp only [mkd, tlE, mz] at hap
              clear hx hgi hgi'
              go_wp2_with (at_builtin; refine wpList_append_k _ rfl _ _ 30 30 rfl _ _ rfl rfl (hap _) ?_)
              exact ⟨⟨k + 1, by omega, by go_num, S2⟩, by simp [intOf]; omega⟩
            · obtain rfl : k = 64 := by omega
              have i3 : ¬ ((64 : Nat) : Int) < 64 := by omega
              obtain ⟨v', w3, H', D', vs', β', rfl, hap, hgt'⟩ := hgi.next hqK (by omega)
              have S2 : Hid (∃ τ H D vs β, GT w w3 gL i B N C (q + 1) (q + 1) τ H D vs β v') := ⟨_, _, _, _, _, hgt'⟩
              clear hx hgi hgt'
              go_wp2_with (at_builtin; refine wpList_append_k _ rfl _ _ 80 80 rfl _ _ rfl rfl (hap _) ?_)
              exact ⟨⟨q + 1, by omega, by go_num, S2⟩, by simp [intOf]; omega⟩
        · obtain rfl : q = i := by omega
          have i2 : ¬ (q : Int) < (q : Int) := by omega
          obtain ⟨τ, H, D, vs, β, hgt⟩ := hg.out
          obtain ⟨ga, gc, rfl, hgc1, hgc2⟩ := hgt.g.form
          rw [hgt.n] at hgc1
          have RD : Hid (∀ j, j < q → ∃ bj nj cj hj dj, wr.cell? ⟨gL, j, none⟩ = some (.slice (some ⟨bj, 0, none⟩) nj cj) ∧ nj ≤ 1000 ∧ nj ≤ cj ∧ nj + 64 ≤ dj ∧ dj ≤ 9223372036854775807 ∧ cj ≤ 9223372036854775807 ∧ (∃ gb, ga = some ⟨gb, 0, none⟩ ∧ wr.cell? ⟨gb, j, none⟩ = some (.slice (some ⟨hj, 0, none⟩) (nj + 64) dj)) ∧ (∃ c', RowF mkd 6 wr bj nj c' 39 (mkT nj j)) ∧ RowF mkd 6 wr hj (nj + 64) dj 39 (mkT nj j ++ tlT j 64)) := by
            intro j hj
            obtain ⟨d1, d2, d3⟩ := hgt.don j hj
            obtain ⟨cb, r1, r2, r3⟩ := hgt.row j hj
            have hl := (List.getElem?_eq_some_iff.1 d1).1
            refine ⟨B j, N j, C j, H j, D j, hgt.lc.cell j hj, Hb.out j hj, HC.out j hj |>.1, d2.caps.2.1, d2.caps.2.2, HC.out j hj |>.2, ?_, ⟨cb, r1⟩, d2⟩
            have hg := hgt.g
            cases β with
            | none => rw [hg.2] at hl; simp at hl
            | some gb =>
              obtain ⟨cap, e, hR⟩ := hg
              injection e with e1 e2 e3
              refine ⟨gb, e1, ?_⟩
              have h1 := hR.cell sz_svx j 0 hl (by omega)
              rw [(List.getElem?_eq_some_iff.1 d1).2] at h1
              simpa [svx] using h1
          have FE : Hid (Fr (fun b => ∃ j, j < q ∧ B j = b) w wr) := hgt.fr
          have hvn := hgt.n
          rw [hvn]
          clear hg hgt hvn
          go_wp2
          go_loopw [9] (fun ii wq => ∃ a : Nat, a ≤ q ∧ ii = .int .i64 a ∧ wq = wr) (fun ii _ => q - (intOf ii).toNat)
          case atStart => exact ⟨0, Nat.zero_le _, rfl, rfl⟩
          case round =>
            obtain ⟨j, hj, rfl, rfl⟩ := hrel
            by_cases hjq : j < q
            · have i3 : (j : Int) < (q : Int) := by omega
              obtain ⟨bj, nj, cj, hh, dj, l1, l2, l3, l4, l5, l6, ⟨gb, rfl, l7⟩, ⟨c9, rB⟩, rH⟩ := RD.out j hjq
              have HB := hd (And.intro rB rH)
              clear rB rH
              go_wp2
              go_loopw [11] (fun kk wq => ∃ a : Nat, a ≤ nj + 64 ∧ kk = .int .i64 a ∧ wq = wr) (fun kk _ => nj + 64 - (intOf kk).toNat)
              case atStart => exact ⟨0, Nat.zero_le _, rfl, rfl⟩
              case round =>
                obtain ⟨k, hk, rfl, rfl⟩ := hrel
                by_cases hkn : k < nj
                · have i4 : (k : Int) < (nj : Int) + 64 := by omega
                  have i5 : (k : Int) < (nj : Int) := by omega
                  obtain ⟨a0, a1, a2, a3, a4, a5⟩ := HB.out.1.at6 k hkn (mkT_at hkn)
                  obtain ⟨e0, e1, e2, e3, e4, e5⟩ := HB.out.2.at6 k (by omega) (grown_lo hkn)
                  have bl := HB.out.1.lt
                  have hl := HB.out.2.lt
                  go_wp2
                  exact ⟨⟨k + 1, by omega, by go_num, (by first | rfl | trivial)⟩, by simp [intOf]; omega⟩
                · by_cases hk2 : k < nj + 64
                  · have i4 : (k : Int) < (nj : Int) + 64 := by omega
                    have i5 : ¬ (k : Int) < (nj : Int) := by omega
                    have i6 : (k : Int) ≥ (nj : Int) := by omega
                    obtain ⟨e0, e1, e2, e3, e4, e5⟩ := HB.out.2.at6 k hk2 (grown_hi (by omega) hk2)
                    have en : (1 + 1000 * (j : Int) + ((k - nj : Nat) : Int)) = 1 + 1000 * (j : Int) + (k : Int) - (nj : Int) := by omega
                    rw [en] at e0
                    clear en
                    have hl := HB.out.2.lt
                    go_wp2
                    exact ⟨⟨k + 1, by omega, by go_num, (by first | rfl | trivial)⟩, by simp [intOf]; omega⟩
                  · obtain rfl : k = nj + 64 := by omega
                    have i4 : ¬ ((nj + 64 : Nat) : Int) < (nj : Int) + 64 := by omega
                    go_wp2
                    exact ⟨⟨j + 1, by omega, by go_num, (by first | rfl | trivial)⟩, by simp [intOf]; omega⟩
            · obtain rfl : j = q := by omega
              have i3 : ¬ (j : Int) < (j : Int) := by omega
              go_wp2
              go_ret
              exact ⟨rfl, FE⟩

end Go.Proofs.YtmbnimlibnheeaaDoor
