/-
  The document's index: Swap.
-/
import Derived.Test.YtlmgogonghafeabMJ
import Derived.Test.YtlmgogonghafeabMF
import Derived.Test.YtlmgogonghafeabSp
namespace Go.Proofs.Ytlmgogonghafeab
open Go.RowKit Go.Lib
set_option linter.unusedVariables false

/-- A list of operations of one's own. -/
def OsI (w wr : World) (v : Value) (os : List OpE) : Prop := ∃ β, SF opc 5 wr 32 β v os ∧ (∀ k, β = some k → w.heap.size ≤ k) ∧ Below w.heap.size w wr
theorem OsI.push {w wr : World} {v : Value} {xs : List OpE} (h : OsI w wr v xs) (k p c l s : Int) (hx : xs.length ≤ 1000000) :
    ∃ v' w', (∀ ty, (Builtin.append_ #[39, 39] ty #[v, .slice (some ⟨wr.heap.size, 0, none⟩) 1 1]).run Try.prog (wr.alloc (.cells #[.int .i64 k, .int .i64 p, .int .u8 c, .int .i64 l, .int .i64 s] 32)) = .ok v' w') ∧ OsI w w' v' (xs ++ [⟨k, p, c, l, s⟩]) := by
  obtain ⟨β, h1, h2, h3⟩ := h
  have hB : Below w.heap.size w (wr.alloc (.cells #[.int .i64 k, .int .i64 p, .int .u8 c, .int .i64 l, .int .i64 s] 32)) := h3.alloc h3.size _
  obtain ⟨v', w', hr, g, hS, hN⟩ := push_op wr β v xs h1 ⟨k, p, c, l, s⟩ hx
  refine ⟨v', w', hr, some g, hS, fun k hk => ?_, ?_⟩
  · cases hk
    rcases hN with ⟨e, -⟩ | ⟨e, -⟩
    · exact h2 _ e
    · rw [e]; exact hB.size
  · rcases hN with ⟨e, hf⟩ | ⟨e, hf⟩
    · exact hB.trans (hf.below hB.size (fun k hk => by rw [hk]; exact h2 g e))
    · exact hB.trans (hf.below hB.size (fun k hk => hk.elim))
theorem mulb (k : Nat) (d : Int) (hk : k ≤ 64) (h1 : -64 ≤ d) (h2 : d ≤ 64) : -4096 ≤ (k : Int) * d ∧ (k : Int) * d ≤ 4096 := by
  have a := Int.mul_le_mul_of_nonneg_left h2 (Int.natCast_nonneg k)
  have b := Int.mul_le_mul_of_nonneg_left h1 (Int.natCast_nonneg k)
  omega

set_option maxRecDepth 100000 in
set_option maxHeartbeats 4000000 in
theorem rswap_bad (y : Nat) (O : Nat → Prop) (xs : List El) (s b : ByteArray) (cl fs : Int) (w : World) (hI : RI w O y xs) (hc : Chs xs) (hn : xs.length ≤ 400000) (hs : s.size ≤ 9223372036854775807) (hb : b.size ≤ 9223372036854775807) (hp : (patB s.data.toList && fillB b.data.toList) = false) :
    Calls Try.prog 41 #[.pointer (some ⟨y, 0, none⟩), .string s, .string b, .int .i64 cl, .int .i64 fs] w fun e w' => e = .returned (.tuple #[.slice none 0 0, .int .i64 240]) ∧ Below w.heap.size w w' := by
  cases h1 : patB s.data.toList with
  | false =>
    have CF := hd (rfind_bad y s w hs h1)
    clear hp h1
    go_enter Try.func41, Try.ntmps41
    go_wp2_with (go_at_call 38; refine CF.out.mono ?_; rintro e w1 ⟨rfl, rfl⟩)
    go_ret2
    exact ⟨rfl, Below.refl _ _⟩
  | true =>
    rw [h1, Bool.true_and] at hp
    have CF := hd (rfind_good y O xs s w hI hc hn h1)
    have CP := hd (fun W => rplain_any b W hb)
    rw [hp] at CP
    clear hp h1
    go_enter Try.func41, Try.ntmps41
    go_wp2_with (first
      | (go_at_call 38; refine CF.out.mono ?_; rintro e w1 ⟨v, rfl, hN⟩)
      | (go_at_call 58; refine (CP.out _).mono ?_; rintro e w2 ⟨rfl, rfl⟩))
    go_ret2
    exact ⟨rfl, hN.choose_spec.2.2⟩

set_option maxRecDepth 100000 in
set_option maxHeartbeats 16000000 in
theorem rswap_good (y : Nat) (O : Nat → Prop) (xs : List El) (s b : ByteArray) (cl fs : Int) (w : World) (hI : RI w O y xs) (hc : Chs xs) (hn : xs.length ≤ 400000) (hp : patB s.data.toList = true) (hq : fillB b.data.toList = true) :
    Calls Try.prog 41 #[.pointer (some ⟨y, 0, none⟩), .string s, .string b, .int .i64 cl, .int .i64 fs] w fun e w' =>
      ∃ β v, e = .returned (.tuple #[v, .int .i64 (swE (tB xs) s.data.toList b.data.toList cl fs)]) ∧ SF opc 5 w' 32 β v (swL (tB xs) s.data.toList b.data.toList cl fs) ∧ (∀ g, β = some g → w.heap.size ≤ g) ∧ Below w.heap.size w w' := by
  obtain ⟨p1, p64, pc⟩ := (patB_iff _).1 hp
  obtain ⟨q64, qc⟩ := (fillB_iff _).1 hq
  have sl : s.data.toList.length = s.size := by simp
  have bl : b.data.toList.length = b.size := by simp
  have CF := hd (rfind_good y O xs s w hI hc hn hp)
  have CP := hd (fun W => rplain_any b W (by omega))
  rw [hq] at CP
  have HTn : Hid ((tB xs).length = xs.length) := by show _ = _; simp [tB]
  have CC : Hid (∀ W, Below w.heap.size w W → ∃ a c, W.cell? ⟨y, 0, none⟩ = some (.slice a xs.length c)) := by
    intro W hW
    obtain ⟨a, c, c0, -, -⟩ := (hI.below hW).isE
    exact ⟨a, c, c0⟩
  obtain ⟨n, hnn⟩ : ∃ n, xs.length = n := ⟨_, rfl⟩
  rw [hnn] at HTn CC hn
  obtain ⟨T, hT⟩ : ∃ T, tB xs = T := ⟨_, rfl⟩
  rw [hT] at CF HTn ⊢
  have HP : Hid (∀ q ∈ plc T s.data.toList, q ≤ 400000) := fun q hq => by have := plc_lt (T := T) (p := s.data.toList) p1 q hq; have := HTn.out; omega
  have HPL : Hid ((plc T s.data.toList).length ≤ 400000) := by
    have := fnd_len (T := T) (p := s.data.toList) (s0 := 0) (t := T.length) p1
    have h2 := HTn.out
    show _ ≤ _
    unfold plc
    omega
  obtain ⟨P, hPs⟩ : ∃ P, s.size = P := ⟨_, rfl⟩
  obtain ⟨Q, hQs⟩ : ∃ Q, b.size = Q := ⟨_, rfl⟩
  have HSl : Hid (s.data.toList.length = P) := by show _ = _; rw [sl, hPs]
  have HBl : Hid (b.data.toList.length = Q) := by show _ = _; rw [bl, hQs]
  have hP1 : 1 ≤ P := by omega
  have hP64 : P ≤ 64 := by omega
  have hQ64 : Q ≤ 64 := by omega
  obtain ⟨A, hA⟩ : ∃ A, apP T s.data.toList = A := ⟨_, rfl⟩
  have hA2 : (apS P (plc T s.data.toList)).2 = A := by rw [← hA]; unfold apP; rw [HSl.out]
  have CA := hd (fun a c W (hL : IsL W a (plc T s.data.toList).length c (plc T s.data.toList)) => rapart_any a (plc T s.data.toList).length c (plc T s.data.toList) P W hL (by have := HPL.out; omega) (by omega) (fun q hq => by have := HP.out q hq; omega))
  rw [hA2] at CA
  obtain ⟨n2, hn2⟩ : ∃ n2, A.length = n2 := ⟨_, rfl⟩
  have HN2 : Hid (n2 ≤ 400000) := by
    show _ ≤ _
    rw [← hn2, ← hA2]
    exact Nat.le_trans (apS_len _ _) HPL.out
  have HAB : Hid (∀ q ∈ A, q ≤ 400000) := fun q hq => HP.out q (apS_mem (m := P) _ q (by rw [hA2]; exact hq))
  obtain ⟨M, hM⟩ : ∃ M, n2 * (P + Q) = M := ⟨_, rfl⟩
  have hcnt : cntP T s.data.toList b.data.toList = M := by unfold cntP; rw [hA, hn2, HSl.out, HBl.out]; exact hM
  have E222 : Hid (cl < 1 ∨ 64 < cl ∨ fs < 1 ∨ 65 - fs < (M : Int) → swE T s.data.toList b.data.toList cl fs = 222 ∧ swL T s.data.toList b.data.toList cl fs = []) := by
    intro h
    have : swE T s.data.toList b.data.toList cl fs = 222 := by unfold swE; rw [hcnt, if_pos h]
    exact ⟨this, by unfold swL; rw [this, if_neg (by decide)]⟩
  have E44 : Hid (¬ (cl < 1 ∨ 64 < cl ∨ fs < 1 ∨ 65 - fs < (M : Int)) → 0 < M → (4096 < n ∨ (4096 : Int) < (n : Int) + (n2 : Int) * ((Q : Int) - (P : Int))) → swE T s.data.toList b.data.toList cl fs = 44 ∧ swL T s.data.toList b.data.toList cl fs = []) := by
    intro h h0 h2
    have : swE T s.data.toList b.data.toList cl fs = 44 := by unfold swE; rw [hcnt, if_neg h, if_pos ⟨h0, by rw [hA, hn2, HSl.out, HBl.out, HTn.out]; exact h2⟩]
    exact ⟨this, by unfold swL; rw [this, if_neg (by decide)]⟩
  have E0 : Hid (¬ (cl < 1 ∨ 64 < cl ∨ fs < 1 ∨ 65 - fs < (M : Int)) → ¬ (0 < M ∧ (4096 < n ∨ (4096 : Int) < (n : Int) + (n2 : Int) * ((Q : Int) - (P : Int)))) → swE T s.data.toList b.data.toList cl fs = 0 ∧ swL T s.data.toList b.data.toList cl fs = swS cl fs A P b.data.toList n2) := by
    intro h h2
    have : swE T s.data.toList b.data.toList cl fs = 0 := by unfold swE; rw [hcnt, if_neg h, if_neg (by rw [hA, hn2, HSl.out, HBl.out, HTn.out]; exact h2)]
    exact ⟨this, by unfold swL; rw [this, if_pos rfl, hA, hn2, HSl.out]⟩
  obtain ⟨E, hE⟩ : ∃ E, swE T s.data.toList b.data.toList cl fs = E := ⟨_, rfl⟩
  obtain ⟨SL, hSL⟩ : ∃ SL, swL T s.data.toList b.data.toList cl fs = SL := ⟨_, rfl⟩
  rw [hE, hSL] at E222 E44 E0 ⊢
  have HM := hd hM
  have hMi : (n2 : Int) * ((P : Int) + (Q : Int)) = (M : Int) := by rw [← hM]; simp
  have hwPQ : IntKind.i64.wrap ((P : Int) + (Q : Int)) = (P : Int) + (Q : Int) := by rw [IntKind.wrap_i64]; omega
  have hM9 : M ≤ 51200000 := by
    rw [← hM]
    calc n2 * (P + Q) ≤ 400000 * 128 := Nat.mul_le_mul HN2.out (by omega)
      _ = 51200000 := rfl
  have hwM : IntKind.i64.wrap (M : Int) = (M : Int) := by rw [IntKind.wrap_i64]; omega
  have HA2 := hd hn2
  clear hp hq p1 p64 pc q64 qc hI hc hnn hT hA hA2 hE hSL hcnt hM hn2 HPL HP sl bl
  go_enter Try.func41, Try.ntmps41
  go_upto_region 2 with (go_at_call 38; refine CF.out.mono ?_; rintro e w1 ⟨v, rfl, hN⟩)
  obtain ⟨a, c, rfl, hL⟩ := hN.isN.isL
  have B1 := hd hN.choose_spec.2.2
  have IL := hd hL
  clear hN hL CF
  go_upto_region 4 with (go_at_call 58; refine (CP.out _).mono ?_; rintro e w2 ⟨rfl, rfl⟩)
  go_upto_region 5 with (go_at_call 60; refine (CA.out _ _ _ IL.out).mono ?_; rintro e w3 ⟨v, rfl, hN⟩)
  obtain ⟨a2, c2, rfl, hL⟩ := hN.isN.isL
  rw [HA2.out]
  have B3 := hd (B1.out.trans (hN.choose_spec.2.2.mono B1.out.size))
  have IL2 := hd hL
  clear hN hL CA CP IL B1
  go_upto_region 6 with fail
  by_cases k1 : cl < 1
  · obtain ⟨e1, e2⟩ := E222.out (.inl k1)
    subst e1 e2
    clear E222 E44 E0
    go_wp2
    go_ret2
    exact ⟨none, _, rfl, ⟨rfl, rfl⟩, fun g hg => (by cases hg), B3.out⟩
  by_cases k2 : 64 < cl
  · obtain ⟨e1, e2⟩ := E222.out (.inr (.inl k2))
    subst e1 e2
    clear E222 E44 E0
    go_wp2
    go_ret2
    exact ⟨none, _, rfl, ⟨rfl, rfl⟩, fun g hg => (by cases hg), B3.out⟩
  by_cases k3 : fs < 1
  · obtain ⟨e1, e2⟩ := E222.out (.inr (.inr (.inl k3)))
    subst e1 e2
    clear E222 E44 E0
    go_wp2
    go_ret2
    exact ⟨none, _, rfl, ⟨rfl, rfl⟩, fun g hg => (by cases hg), B3.out⟩
  by_cases k4 : 65 < fs
  · obtain ⟨e1, e2⟩ := E222.out (.inr (.inr (.inr (by omega))))
    subst e1 e2
    clear E222 E44 E0
    go_wp2
    go_ret2
    exact ⟨none, _, rfl, ⟨rfl, rfl⟩, fun g hg => (by cases hg), B3.out⟩
  have hw65 : IntKind.i64.wrap (65 - fs) = 65 - fs := by rw [IntKind.wrap_i64]; omega
  by_cases k5 : 65 - fs < (M : Int)
  · obtain ⟨e1, e2⟩ := E222.out (.inr (.inr (.inr k5)))
    subst e1 e2
    clear E222 E44 E0
    go_wp2
    go_ret2
    exact ⟨none, _, rfl, ⟨rfl, rfl⟩, fun g hg => (by cases hg), B3.out⟩
  have kk : Hid (¬ (cl < 1 ∨ 64 < cl ∨ fs < 1 ∨ 65 - fs < (M : Int))) := by
    rintro (h | h | h | h)
    · exact k1 h
    · exact k2 h
    · exact k3 h
    · exact k5 h
  have hM64 : M ≤ 64 := by omega
  go_upto_region 8 with fail
  have hfs : fs ≤ 65 := by omega
  clear k1 k2 k4 k5 hw65 hwPQ hMi
  obtain ⟨ya, yc, y0⟩ := CC.out w3 B3.out
  have hwQP : IntKind.i64.wrap ((Q : Int) - (P : Int)) = (Q : Int) - (P : Int) := by rw [IntKind.wrap_i64]; omega
  obtain ⟨D, hD⟩ : ∃ D, (Q : Int) - (P : Int) = D := ⟨_, rfl⟩
  have hn264 : n2 ≤ 64 := by
    have h1 : n2 * 1 ≤ n2 * (P + Q) := Nat.mul_le_mul_left _ (by omega)
    have h2 := HM.out
    omega
  have hmb := mulb n2 D hn264 (by omega) (by omega)
  rw [hD] at hwQP E44 E0
  have hwm : IntKind.i64.wrap ((n2 : Int) * D) = (n2 : Int) * D := by rw [IntKind.wrap_i64]; omega
  obtain ⟨Z, hZ⟩ : ∃ Z, (n2 : Int) * D = Z := ⟨_, rfl⟩
  rw [hZ] at hwm E44 E0 hmb
  have hwz : IntKind.i64.wrap ((n : Int) + Z) = (n : Int) + Z := by rw [IntKind.wrap_i64]; omega
  by_cases m0 : 0 < M
  · have m0i : (0 : Int) < (M : Int) := by omega
    by_cases m1 : 4096 < n
    · have m1i : (4096 : Int) < (n : Int) := by omega
      obtain ⟨e1, e2⟩ := E44.out kk.out m0 (.inl m1)
      subst e1 e2
      clear E222 E44 E0
      go_wp2
      go_ret2
      exact ⟨none, _, rfl, ⟨rfl, rfl⟩, fun g hg => (by cases hg), B3.out⟩
    have m1i : ¬ (4096 : Int) < (n : Int) := by omega
    by_cases m2 : (4096 : Int) < (n : Int) + Z
    · obtain ⟨e1, e2⟩ := E44.out kk.out m0 (.inr m2)
      subst e1 e2
      clear E222 E44 E0
      go_wp2
      go_ret2
      exact ⟨none, _, rfl, ⟨rfl, rfl⟩, fun g hg => (by cases hg), B3.out⟩
    obtain ⟨e1, e2⟩ := E0.out kk.out (by omega)
    subst e1 e2
    clear E222 E44 E0
    go_wp2
    have I0 : Hid (OsI w3 w3 (.slice none 0 0) (swS cl fs A P b.data.toList 0)) := ⟨none, ⟨rfl, rfl⟩, fun g hg => (by cases hg), Below.refl _ _⟩
    clear m0 m0i m1 m1i m2 hwz hZ hwm hmb y0 CC hM9 hwM hn
    go_loopw [15, 16] (fun v iv wr => ∃ k : Nat, iv = .int .i64 k ∧ k ≤ n2 ∧ Hid (OsI w3 wr v (swS cl fs A P b.data.toList k))) (fun _ iv _ => n2 - (intOf iv).toNat)
    case atStart => exact ⟨0, rfl, Nat.zero_le _, I0⟩
    case round =>
      obtain ⟨k, rfl, hk, hS⟩ := hrel
      clear I0
      by_cases hlt : k < n2
      · have hkl : k < A.length := by rw [HA2.out]; exact hlt
        have hB : Below w3.heap.size w3 wr := hS.out.choose_spec.2.2
        obtain ⟨ba, oa, rfl, hba, hca⟩ := IL2.out.2.2.2 (by omega)
        have c1 : wr.cell? ⟨ba, oa + k, none⟩ = some (.int .i64 ((A[k] : Nat) : Int)) := by rw [hB.cell (p := ⟨ba, oa + k, none⟩) hba]; exact hca k hkl
        have hAk : A[k] ≤ 400000 := HAB.out _ (List.getElem_mem hkl)
        have hg : A.getD k 0 = A[k] := by rw [List.getD_eq_getElem?_getD, List.getElem?_eq_getElem hkl]; rfl
        have HPK : Hid (posK A P b.data.toList k = ((A[k] : Nat) : Int) + (k : Int) * D) := by
          show _ = _
          unfold posK
          rw [hg, HBl.out, hD]
        have hmk := mulb k D (by omega) (by omega) (by omega)
        have hroom : k * (P + Q) + (P + Q) ≤ M := by
          have := Nat.mul_le_mul_right (P + Q) (show k + 1 ≤ n2 by omega)
          rw [Nat.succ_mul] at this
          have h2 := HM.out
          omega
        have HR := hd hroom
        have HSS : Hid (swS cl fs A P b.data.toList (k + 1) = insS cl fs (posK A P b.data.toList k) b.data.toList Q (delS cl fs (posK A P b.data.toList k) P (swS cl fs A P b.data.toList k))) := by
          show _ = _
          rw [swS, HBl.out]
        have HSL0 : Hid ((swS cl fs A P b.data.toList k).length = k * (P + Q)) := by show _ = _; rw [swS_len, HBl.out]
        have i1 : (k : Int) < (n2 : Int) := by omega
        clear hca hg hroom
        generalize A[k] = ak at *
        obtain ⟨Zk, hZk⟩ : ∃ Zk, (k : Int) * D = Zk := ⟨_, rfl⟩
        rw [hZk] at HPK hmk
        obtain ⟨pos, hpos⟩ : ∃ pos, (ak : Int) + Zk = pos := ⟨_, rfl⟩
        rw [hpos] at HPK
        have hb1 : -4096 ≤ pos ∧ pos ≤ 404096 := by omega
        have hw1 : IntKind.i64.wrap Zk = Zk := by rw [IntKind.wrap_i64]; omega
        have hw2 : IntKind.i64.wrap pos = pos := by rw [IntKind.wrap_i64]; omega
        rw [HPK.out] at HSS
        generalize swS cl fs A P b.data.toList k = O0 at *
        have D0 : Hid (OsI w3 wr u15 (delS cl fs pos 0 O0)) := hS.out
        clear hS hB
        go_wp2
        clear c1 hw1 hw2 hpos hZk hmk
        go_loopw [15, 18] (fun v jv wx => ∃ j : Nat, jv = .int .i64 j ∧ j ≤ P ∧ Hid (OsI w3 wx v (delS cl fs pos j O0))) (fun _ jv _ => P - (intOf jv).toNat)
        case atStart => exact ⟨0, rfl, Nat.zero_le _, D0⟩
        case round =>
          obtain ⟨j, rfl, hj, hS⟩ := hrel
          clear D0
          by_cases hlt2 : j < P
          · obtain ⟨av, cv, hv, -, -⟩ := hS.out.choose_spec.1.form
            subst hv
            have hlen := delS_len cl fs pos j O0
            rw [HSL0.out] at hlen
            obtain ⟨Ln, hLn⟩ : ∃ Ln, k * (P + Q) + j = Ln := ⟨_, rfl⟩
            rw [hLn] at hlen
            have hLn64 : Ln ≤ 64 := by have := HR.out; omega
            obtain ⟨v', w', hr, hT⟩ := hS.out.push 2 pos 0 cl (fs + (Ln : Int)) (by omega)
            have Z1 : Hid (OsI w3 w' v' (delS cl fs pos (j + 1) O0)) := by
              show OsI _ _ _ _
              rw [delS, tl, hlen]
              exact hT
            rw [hlen] at hr ⊢
            have hw4 : IntKind.i64.wrap (fs + (Ln : Int)) = fs + (Ln : Int) := by rw [IntKind.wrap_i64]; omega
            have j1 : (j : Int) < (P : Int) := by omega
            clear hS hT hlen hLn
            go_wp2_with (at_builtin; refine wpList_append_k _ rfl _ _ 39 39 rfl _ _ rfl rfl (hr _) ?_)
            exact ⟨⟨j + 1, by go_num, by omega, Z1⟩, by simp only [intOf]; omega⟩
          · obtain rfl : P = j := by omega
            have D1 : Hid (OsI w3 wr u15 (insS cl fs pos b.data.toList 0 (delS cl fs pos P O0))) := hS.out
            clear hS
            go_wp2
            go_loopw [15, 19] (fun v jv wx => ∃ j : Nat, jv = .int .i64 j ∧ j ≤ Q ∧ Hid (OsI w3 wx v (insS cl fs pos b.data.toList j (delS cl fs pos P O0)))) (fun _ jv _ => Q - (intOf jv).toNat)
            case atStart => exact ⟨0, rfl, Nat.zero_le _, D1⟩
            case round =>
              obtain ⟨j, rfl, hj, hS⟩ := hrel
              clear D1
              by_cases hlt3 : j < Q
              · obtain ⟨av, cv, hv, -, -⟩ := hS.out.choose_spec.1.form
                subst hv
                have hlen := insS_len cl fs pos b.data.toList j (delS cl fs pos P O0)
                rw [delS_len, HSL0.out] at hlen
                obtain ⟨Ln, hLn⟩ : ∃ Ln, k * (P + Q) + P + j = Ln := ⟨_, rfl⟩
                rw [hLn] at hlen
                have hLn64 : Ln ≤ 64 := by have := HR.out; omega
                have hjb : j < b.size := by omega
                have hgb := gets b j hjb
                have hgd : b.data.toList.getD j 0 = b[j]'hjb := by rw [List.getD_eq_getElem?_getD, List.getElem?_eq_getElem (by rw [HBl.out]; exact hlt3)]; exact hgb
                obtain ⟨C, hC⟩ : ∃ C : Nat, (b[j]'hjb).toNat = C := ⟨_, rfl⟩
                obtain ⟨v', w', hr, hT⟩ := hS.out.push 1 (pos + (j : Int)) (C : Int) cl (fs + (Ln : Int)) (by omega)
                have Z1 : Hid (OsI w3 w' v' (insS cl fs pos b.data.toList (j + 1) (delS cl fs pos P O0))) := by
                  show OsI _ _ _ _
                  rw [insS, tl, hlen, hgd, hC]
                  exact hT
                rw [hlen] at hr ⊢
                have hw4 : IntKind.i64.wrap (fs + (Ln : Int)) = fs + (Ln : Int) := by rw [IntKind.wrap_i64]; omega
                have hw5 : IntKind.i64.wrap (pos + (j : Int)) = pos + (j : Int) := by rw [IntKind.wrap_i64]; omega
                have j1 : (j : Int) < (Q : Int) := by omega
                have j2 : (j : Int) < (b.size : Int) := by omega
                clear hS hT hlen hLn hgb hgd
                go_wp2_with (at_builtin; refine wpList_append_k _ rfl _ _ 39 39 rfl _ _ rfl rfl (hr _) ?_)
                exact ⟨⟨j + 1, by go_num, by omega, Z1⟩, by simp only [intOf]; omega⟩
              · obtain rfl : Q = j := by omega
                rw [← HSS.out] at hS
                go_wp2
                exact ⟨⟨k + 1, by go_num, by omega, hS⟩, by simp only [intOf]; omega⟩
      · obtain rfl : n2 = k := by omega
        obtain ⟨β, h1, h2, h3⟩ := hS.out
        have Z2 : Hid (∃ β, SF opc 5 wr 32 β u15 (swS cl fs A P b.data.toList n2) ∧ (∀ g, β = some g → w.heap.size ≤ g) ∧ Below w.heap.size w wr) := ⟨β, h1, fun g hg => Nat.le_trans B3.out.size (h2 g hg), B3.out.trans (h3.mono B3.out.size)⟩
        clear hS h1 h2 h3
        go_wp2
        go_ret2
        obtain ⟨β, h1, h2, h3⟩ := Z2.out
        exact ⟨β, _, rfl, h1, h2, h3⟩
  · have m0i : ¬ (0 : Int) < (M : Int) := by omega
    have hz : n2 = 0 := by
      have h1 : n2 * 1 ≤ n2 * (P + Q) := Nat.mul_le_mul_left _ (by omega)
      have h2 := HM.out
      omega
    obtain ⟨e1, e2⟩ := E0.out kk.out (by omega)
    subst e1 e2
    have hz2 := hd hz
    clear E222 E44 E0
    go_wp2
    go_loopw [15, 16] (fun v iv wr => v = .slice none 0 0 ∧ iv = .int .i64 0 ∧ wr = w3) (fun _ iv _ => n2 - (intOf iv).toNat)
    case atStart => exact ⟨rfl, rfl, rfl⟩
    case round =>
      obtain ⟨rfl, rfl, hwc⟩ := hrel
      obtain rfl := hwc.symm
      have i1 : ¬ (0 : Int) < (n2 : Int) := by omega
      clear m0i m0 hz
      go_wp2
      go_ret2
      have hz3 := hz2.out
      subst hz3
      exact ⟨none, _, rfl, ⟨rfl, rfl⟩, fun g hg => (by cases hg), B3.out⟩
end Go.Proofs.Ytlmgogonghafeab
