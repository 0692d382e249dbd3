/-
  Swap.
-/
import Derived.Test.YtlmgogonghafeabSw
import Derived.Test.YtlmgogonghafeabNx
namespace Go.Proofs.Ytlmgogonghafeab
open Go.RowKit Go.Lib
set_option linter.unusedVariables false

/-- The places that are swapped; how many operations that takes; the error. -/
def apP (T p : By) : List Nat := (apS p.length (plc T p)).2
theorem apS_mem {m : Nat} (l : List Nat) : ∀ q ∈ (apS m l).2, q ∈ l := by
  have h : ∀ (l : List Nat) (s : Nat × List Nat), ∀ q ∈ (l.foldl (apN m) s).2, q ∈ s.2 ∨ q ∈ l := by
    intro l
    induction l with
    | nil => intro s q hq; exact .inl hq
    | cons p l ih =>
      intro s q hq
      rw [List.foldl_cons] at hq
      rcases ih _ q hq with h | h
      · unfold apN at h
        by_cases hp : s.1 ≤ p
        · rw [if_pos hp] at h
          rcases List.mem_append.1 h with h | h
          · exact .inl h
          · exact .inr (by simp at h; simp [h])
        · rw [if_neg hp] at h
          exact .inl h
      · exact .inr (by simp [h])
  intro q hq
  rcases h l (0, []) q hq with h | h
  · cases h
  · exact h
def cntP (T p b : By) : Nat := (apP T p).length * (p.length + b.length)
def swE (T p b : By) (cl fs : Int) : Int :=
  if cl < 1 ∨ 64 < cl ∨ fs < 1 ∨ 65 - fs < (cntP T p b : Int) then 222
  else if 0 < cntP T p b ∧ (4096 < T.length ∨ (4096 : Int) < (T.length : Int) + ((apP T p).length : Int) * ((b.length : Int) - (p.length : Int))) then 44 else 0

/-- What Swap answers. -/
def SwR (w w' : World) (T p b : By) (cl fs : Int) (e : Ending) : Prop :=
  Below w.heap.size w w' ∧ ((swE T p b cl fs ≠ 0 ∧ e = .returned (.tuple #[.slice none 0 0, .int .i64 (swE T p b cl fs)])) ∨
    (swE T p b cl fs = 0 ∧ ∃ v β, e = .returned (.tuple #[v, .int .i64 0]) ∧ SF opc 5 w' 32 β v (swS cl fs (apP T p) p.length b (apP T p).length) ∧ ∀ k, β = some k → w.heap.size ≤ k))

set_option maxRecDepth 100000 in
set_option maxHeartbeats 4000000 in
theorem swap_bad (x : Nat) (s b : ByteArray) (cl fs : Int) (w : World) (hs : s.size ≤ 9223372036854775807) (hb : b.size ≤ 9223372036854775807) (hp : (patB s.data.toList && fillB b.data.toList) = false) :
    Calls Try.prog 12 #[.pointer (some ⟨x, 0, none⟩), .string s, .string b, .int .i64 cl, .int .i64 fs] w fun e w' => e = .returned (.tuple #[.slice none 0 0, .int .i64 240]) ∧ Below w.heap.size w w' := by
  have CF := pattern_any s w hs
  have CG := hd (fun W => filling_any b W hb)
  cases h1 : patB s.data.toList with
  | false =>
    rw [h1] at CF
    have CF := hd CF
    clear hp h1 CG hs hb
    go_enter Try.func12, Try.ntmps12
    go_wp2_with (go_at_call 25; refine CF.out.mono ?_; rintro e w1 ⟨rfl, hb1⟩)
    go_ret2
    exact ⟨rfl, hb1⟩
  | true =>
    rw [h1, Bool.true_and] at hp
    rw [h1] at CF
    rw [hp] at CG
    have CF := hd CF
    clear hp h1 hs hb
    go_enter Try.func12, Try.ntmps12
    go_wp2_with (first
      | (go_at_call 25; refine CF.out.mono ?_; rintro e w1 ⟨rfl, hb1⟩)
      | (go_at_call 27; refine (CG.out _).mono ?_; rintro e w2 ⟨rfl, hb2⟩))
    go_ret2
    exact ⟨rfl, hb1.trans (hb2.mono hb1.size)⟩

set_option maxRecDepth 100000 in
set_option maxHeartbeats 8000000 in
theorem swap_good (x : Nat) (T : By) (s b : ByteArray) (cl fs : Int) (w : World) (hI : IX w x T) (hT : T.length ≤ 1000000) (hp : patB s.data.toList = true) (hq : fillB b.data.toList = true) (hf1 : fs ≤ 9223372036854775807) :
    Calls Try.prog 12 #[.pointer (some ⟨x, 0, none⟩), .string s, .string b, .int .i64 cl, .int .i64 fs] w fun e w' => SwR w w' T s.data.toList b.data.toList cl fs e := by
  obtain ⟨p1, p64, pc⟩ := (patB_iff _).1 hp
  obtain ⟨q64, qc⟩ := (fillB_iff _).1 hq
  have sl : s.data.toList.length = s.size := by simp
  have bl : b.data.toList.length = b.size := by simp
  have CF := pattern_any s w (by omega)
  have CG := hd (fun W => filling_any b W (by omega))
  rw [hp] at CF
  rw [hq] at CG
  have CF := hd CF
  have HI := hd hI
  have HT := hd hT
  rw [sl] at p1 p64
  rw [bl] at q64
  have HSA : Hid (∀ i (h : i < s.size), (s[i]'h).toNat < 128) := fun i h => by
    have := (pc _ (List.getElem_mem (show i < s.data.toList.length by rw [sl]; exact h))).2
    rw [gets s i h] at this
    omega
  have HBA : Hid (∀ i (h : i < b.size), (b[i]'h).toNat < 128) := fun i h => by
    have := (qc _ (List.getElem_mem (show i < b.data.toList.length by rw [bl]; exact h))).2
    rw [gets b i h] at this
    omega
  have SL := hd sl
  have BL := hd bl
  have P1 := hd p1
  have P64 := hd p64
  have Q64 := hd q64
  clear hp hq hI hT pc qc sl bl
  go_enter Try.func12, Try.ntmps12
  go_upto_region 3 with (first
      | (go_at_call 25; refine CF.out.mono ?_; rintro e w1 ⟨rfl, hb1⟩)
      | (go_at_call 27; refine (CG.out _).mono ?_; rintro e w2 ⟨rfl, hb2⟩))
  have B2 := hd (hb1.trans (hb2.mono hb1.size))
  obtain ⟨a, n, c, ps, c0, c1, hP, hTx⟩ := (HI.out.below B2.out).cells
  have hTl := HT.out
  have HPL := hd (fun W (hW : Below w2.heap.size w2 W) => places_any a n c ps s 0 T.length W (hP.below hW) (by rw [hTx]; omega) (by omega) (by omega) (by
    rw [hTx]
    rcases Nat.eq_zero_or_pos T.length with h | h
    · exact .inr (List.length_eq_zero_iff.1 h)
    · exact .inl h) (by have := P64.out; simpa using this) (by have := P1.out; simpa using this) HSA.out)
  have e : Hid ((fnd (txP ps) s.data.toList (0 : Int).toNat ((txP ps).length - (0 : Int).toNat)).take T.length = plc T s.data.toList) := by
    show _ = _
    rw [hTx]
    exact List.take_of_length_le (fnd_len (by rw [SL.out]; exact P1.out))
  have LP : Hid ((plc T s.data.toList).length ≤ T.length) := fnd_len (by rw [SL.out]; exact P1.out)
  have CA := hd (fun a' c' W (hL : IsL W a' (plc T s.data.toList).length c' (plc T s.data.toList)) => apart_any a' (plc T s.data.toList).length c' (plc T s.data.toList) s.size W hL (by have := LP.out; omega) (by omega) (fun q hq => by
    have := plc_lt (T := T) (p := s.data.toList) (by rw [SL.out]; exact P1.out) q hq
    omega))
  clear hP hTx hb1 hb2 CF CG
  go_region_with (first
    | (go_at_call 26; refine (HPL.out _ (below_drew _)).mono ?_; rintro e2 w3 ⟨v, rfl, hN, hb3⟩; rw [e.out] at hN; obtain ⟨a', c', rfl, hL⟩ := hN.isL)
    | (go_at_call 28; refine (CA.out _ _ _ hL).mono ?_; rintro e3 w4 ⟨v2, rfl, hM⟩))
  all_goals
    have B4 : Hid (Below w2.heap.size w2 w4) := by
      have h1 : Below w2.heap.size w2 w3 := (below_drew _).trans hb3
      exact h1.trans (hM.choose_spec.2.2.mono h1.size)
    obtain ⟨a2, c2, rfl, hL2⟩ := hM.isN.isL
    have hxl := (HI.out.below B2.out).len
    have c1' : w4.cell? ⟨x, 1, none⟩ = some (.int .i64 ((T.length : Nat) : Int)) := by rw [B4.out.cell (p := ⟨x, 1, none⟩) hxl]; exact c1
    have HL2 := hd hL2
    have HB := hd (B2.out.trans (B4.out.mono B2.out.size))
    obtain ⟨N, hN0⟩ : ∃ N, (apS s.size (plc T s.data.toList)).2.length = N := ⟨_, rfl⟩
    have hNT : N ≤ T.length := by rw [← hN0]; exact Nat.le_trans (apS_len _ _) LP.out
    have HYtlmgogonghafeab := hd hN0
    rw [hN0]
    clear hN hM hb3 hL hL2 c0 c1 CA HPL B4 hN0
    obtain ⟨CN, hCN⟩ : ∃ CN : Nat, N * (s.size + b.size) = CN := ⟨_, rfl⟩
    have hC1 : CN ≤ 128000000 := by
      have h1 : N * (s.size + b.size) ≤ 1000000 * 128 := Nat.mul_le_mul (by omega) (by have := P64.out; have := Q64.out; omega)
      omega
    have hCI : (N : Int) * ((s.size : Int) + (b.size : Int)) = (CN : Int) := by rw [← hCN]; go_num
    obtain ⟨D, hD⟩ : ∃ D : Int, (b.size : Int) - (s.size : Int) = D := ⟨_, rfl⟩
    have hp64 := P64.out
    have hq64 := Q64.out
    have hD1 : -64 ≤ D := by omega
    have hD2 : D ≤ 64 := by omega
    obtain ⟨ND, hND⟩ : ∃ ND : Int, (N : Int) * D = ND := ⟨_, rfl⟩
    have hN1 : -64000000 ≤ ND := by
      rw [← hND]
      have h1 : (N : Int) * (-64) ≤ (N : Int) * D := Int.mul_le_mul_of_nonneg_left hD1 (by omega)
      omega
    have hN2 : ND ≤ 64000000 := by
      rw [← hND]
      have h1 : (N : Int) * D ≤ (N : Int) * 64 := Int.mul_le_mul_of_nonneg_left hD2 (by omega)
      omega
    have SE : Hid (swE T s.data.toList b.data.toList cl fs = if cl < 1 ∨ 64 < cl ∨ fs < 1 ∨ 65 - fs < (CN : Int) then 222 else if 0 < CN ∧ (4096 < T.length ∨ (4096 : Int) < (T.length : Int) + ND) then 44 else 0) := by
      show _ = _
      unfold swE cntP apP
      rw [SL.out, BL.out, HYtlmgogonghafeab.out, hCN, hD, hND]
    have NC : Hid (N ≤ CN) := by
      show N ≤ CN
      rw [← hCN]
      have h1 : N * 1 ≤ N * (s.size + b.size) := Nat.mul_le_mul_left N (by have := P1.out; omega)
      omega
    clear hCN
    generalize hTL : T.length = TL at *
    go_upto_region 6 with fail
    by_cases h1 : cl < 1
    · have E : Hid (swE T s.data.toList b.data.toList cl fs = 222) := by show _ = _; rw [SE.out, if_pos (.inl h1)]
      go_wp2
      go_ret2
      exact ⟨HB.out, .inl ⟨by rw [E.out]; decide, by rw [E.out]; rfl⟩⟩
    · by_cases h2 : 64 < cl
      · have E : Hid (swE T s.data.toList b.data.toList cl fs = 222) := by show _ = _; rw [SE.out, if_pos (.inr (.inl h2))]
        go_wp2
        go_ret2
        exact ⟨HB.out, .inl ⟨by rw [E.out]; decide, by rw [E.out]; rfl⟩⟩
      · by_cases h3 : fs < 1
        · have E : Hid (swE T s.data.toList b.data.toList cl fs = 222) := by show _ = _; rw [SE.out, if_pos (.inr (.inr (.inl h3)))]
          go_wp2
          go_ret2
          exact ⟨HB.out, .inl ⟨by rw [E.out]; decide, by rw [E.out]; rfl⟩⟩
        · by_cases h4 : 65 - fs < (CN : Int)
          · have E : Hid (swE T s.data.toList b.data.toList cl fs = 222) := by show _ = _; rw [SE.out, if_pos (.inr (.inr (.inr h4)))]
            go_wp2
            go_ret2
            exact ⟨HB.out, .inl ⟨by rw [E.out]; decide, by rw [E.out]; rfl⟩⟩
          · have hor : ¬ (cl < 1 ∨ 64 < cl ∨ fs < 1 ∨ 65 - fs < (CN : Int)) := by omega
            have hN64 : N ≤ 64 := by have := NC.out; omega
            have CS := hd (fun W (hW : Below w4.heap.size w4 W) => swaps_any a2 N c2 (apS s.size (plc T s.data.toList)).2 s b cl fs W (by have h := HL2.out.below hW; rw [HYtlmgogonghafeab.out] at h; exact h) (by omega) (by omega) (by omega) HSA.out HBA.out (fun q hq => by
              have := plc_lt (T := T) (p := s.data.toList) (by rw [SL.out]; exact P1.out) q (apS_mem _ q hq)
              have := HT.out
              omega) (by omega) (by omega))
            have FIN : Hid (∀ W v β, swE T s.data.toList b.data.toList cl fs = 0 → SF opc 5 W 32 β v (swS cl fs (apS s.size (plc T s.data.toList)).2 s.size b.data.toList N) → (∀ k, β = some k → w4.heap.size ≤ k) → Below w4.heap.size w4 W → SwR w W T s.data.toList b.data.toList cl fs (.returned (.tuple #[v, .int .i64 0]))) := by
              intro W v β e hS hk hB
              refine ⟨HB.out.trans (hB.mono HB.out.size), .inr ⟨e, v, β, rfl, ?_, fun k hk' => Nat.le_trans HB.out.size (hk k hk')⟩⟩
              unfold apP
              rw [SL.out, HYtlmgogonghafeab.out]
              exact hS
            by_cases h5 : 0 < CN
            · by_cases h6 : 4096 < TL ∨ (4096 : Int) < (TL : Int) + ND
              · have E : Hid (swE T s.data.toList b.data.toList cl fs = 44) := by show _ = _; rw [SE.out, if_neg hor, if_pos ⟨h5, h6⟩]
                have hm : (4096 : Int) < max (TL : Int) ((TL : Int) + ND) := by omega
                clear CS FIN
                have H6 := hd h6
                clear h6
                go_wp2
                all_goals
                  go_ret2
                  exact ⟨HB.out, .inl ⟨by rw [E.out]; decide, by rw [E.out]; rfl⟩⟩
              · have E : Hid (swE T s.data.toList b.data.toList cl fs = 0) := by show _ = _; rw [SE.out, if_neg hor, if_neg (fun h => h6 h.2)]
                have hm : ¬ (4096 : Int) < max (TL : Int) ((TL : Int) + ND) := by omega
                clear h6
                go_wp2_with (go_at_call 29; refine (CS.out _ (Below.refl _ _)).mono ?_; rintro e5 w5 ⟨v5, β5, rfl, hS5, hk5, hB5⟩)
                all_goals
                  go_ret2
                  exact FIN.out _ _ _ E.out hS5 hk5 hB5
            · have E : Hid (swE T s.data.toList b.data.toList cl fs = 0) := by show _ = _; rw [SE.out, if_neg hor, if_neg (fun h => h5 h.1)]
              go_wp2_with (go_at_call 29; refine (CS.out _ (Below.refl _ _)).mono ?_; rintro e5 w5 ⟨v5, β5, rfl, hS5, hk5, hB5⟩)
              go_ret2
              exact FIN.out _ _ _ E.out hS5 hk5 hB5
end Go.Proofs.Ytlmgogonghafeab
