/-
  SearchWords.
-/
import Derived.Test.YtlmgogonghafeaaWr
import Derived.Test.YtlmgogonghafeaaWq
import Derived.Deep.QuietTactic
import Derived.BigQuiet
namespace Go.Proofs.Ytlmgogonghafeaa
open Go.RowKit Go.Lib
set_option linter.unusedVariables false

/-- What is known of the words of a text that begins with Zq. -/
structure WK (T : By) (ks : List By) : Prop where
  word : ∀ k ∈ ks, k ≠ [] ∧ (∀ c ∈ k, ltB c = true) ∧ k.length ≤ T.length ∧ 1 ≤ (wdP T).count k ∧ (wdP T).count k ≤ T.length ∧ occN T k T.length = (wdP T).count k
  sum : (ks.map (fun k => (wdP T).count k * k.length)).sum = (T.filter ltB).length
  zq : [90, 113] ∈ ks
theorem wk_mk {T : By} {ks : List By} (h : Wds (wdP T) ks) (r : By) (hT : T = 90 :: 113 :: 32 :: r) : WK T ks := by
  have hb := wd_bd T
  refine ⟨fun k hk => ?_, ?_, ?_⟩
  · have hm := (h.mem k).1 hk
    obtain ⟨h1, h2⟩ := wdF_mem (cur := []) (by simp) k hm
    refine ⟨h1, h2, hb.2 k hm, List.count_pos_iff.2 hm, Nat.le_trans List.count_le_length hb.1, occ_count k h1 h2 T.length T (Nat.le_refl _)⟩
  · have hn : ks.Nodup := h.sort.imp (fun hlt e => by subst e; exact List.lt_irrefl _ hlt)
    rw [sum_count (wdP T) ks hn (fun w hw => (h.mem w).2 hw)]
    have := wdF_flat T []
    rw [List.nil_append] at this
    rw [← this, List.length_flatten]
    rfl
  · rw [h.mem, hT]
    unfold wdP
    have e1 : ltB 90 = true := by decide
    have e2 : ltB 113 = true := by decide
    have e3 : ltB 32 = false := by decide
    rw [wdF, if_pos e1, wdF, if_pos e2, wdF_no e3, if_neg (by simp)]
    simp
/-- How much the first j words bring. -/
def smK (T : By) (ks : List By) (j : Nat) : Nat := ((ks.take j).map (fun k => (wdP T).count k * k.length)).sum
theorem smK_succ {T : By} {ks : List By} {j : Nat} (h : j < ks.length) : smK T ks (j + 1) = smK T ks j + (wdP T).count ks[j] * (ks[j]).length := by
  unfold smK
  rw [List.take_succ_eq_append_getElem h, List.map_append, List.sum_append]
  simp
theorem smK_le {T : By} {ks : List By} (h : WK T ks) (j : Nat) : smK T ks j ≤ T.length := by
  have h1 := h.sum
  have h2 : ks.map (fun k => (wdP T).count k * k.length) = (ks.take j).map (fun k => (wdP T).count k * k.length) ++ (ks.drop j).map (fun k => (wdP T).count k * k.length) := by rw [← List.map_append, List.take_append_drop]
  rw [h2, List.sum_append] at h1
  have h3 : (T.filter ltB).length ≤ T.length := List.length_filter_le _ _
  unfold smK
  omega
theorem ks_len {T : By} {ks : List By} (h : WK T ks) : ks.length ≤ T.length := by
  have h1 := h.sum
  have h3 : (T.filter ltB).length ≤ T.length := List.length_filter_le _ _
  have h2 : ∀ l : List By, (∀ k ∈ l, k ∈ ks) → l.length ≤ (l.map (fun k => (wdP T).count k * k.length)).sum := by
    intro l
    induction l with
    | nil => intro _; simp
    | cons k l ih =>
      intro hl
      obtain ⟨q1, q2, q3, q4, q5, q6⟩ := h.word k (hl k (by simp))
      have := ih (fun x hx => hl x (by simp [hx]))
      have hp : 1 ≤ k.length := List.length_pos_iff.2 q1
      have hm : 1 ≤ (wdP T).count k * k.length := Nat.mul_le_mul q4 hp
      rw [List.map_cons, List.sum_cons, List.length_cons]
      omega
  have := h2 ks (fun k hk => hk)
  omega
/-- Is Zq among the first j? -/
def zqB (ks : List By) (j : Nat) : Bool := (ks.take j).any (fun k => decide (k = [90, 113]))
theorem zqB_succ {ks : List By} {j : Nat} (h : j < ks.length) : zqB ks (j + 1) = (zqB ks j || decide (ks[j] = [90, 113])) := by
  unfold zqB
  rw [List.take_succ_eq_append_getElem h, List.any_append]
  simp
theorem zqB_all {ks : List By} (h : [90, 113] ∈ ks) : zqB ks ks.length = true := by
  unfold zqB
  rw [List.take_length, List.any_eq_true]
  exact ⟨_, h, by simp⟩
theorem blE : ∀ (x y : List UInt8), x < y → Op.bytesLess x y = true
  | [], [], h => absurd h (List.lt_irrefl _)
  | _ :: _, [], h => by cases h
  | [], _ :: _, _ => by simp [Op.bytesLess]
  | a :: x, b :: y, h => by
    rw [Op.bytesLess]
    rw [List.cons_lt_cons_iff] at h
    rcases h with h | ⟨rfl, h⟩
    · simp [h]
    · simp [blE x y h]
def ltK (T : By) (j : Nat) : Nat := ((T.take j).filter ltB).length
theorem ltK_succ {T : By} {j : Nat} (h : j < T.length) : ltK T (j + 1) = ltK T j + (if ltB T[j] = true then 1 else 0) := by
  unfold ltK
  rw [List.take_succ_eq_append_getElem h, List.filter_append, List.length_append]
  congr 1
  by_cases hl : ltB T[j] = true
  · rw [if_pos hl, List.filter_cons_of_pos hl]; rfl
  · rw [if_neg hl, List.filter_cons_of_neg hl]; rfl

set_option maxRecDepth 100000 in
set_option maxHeartbeats 8000000 in
theorem words_law (t : ByteArray) (w : World) (ht : t.size ≤ 140737488355328) :
    Calls Try.prog 7 #[.string t] w fun e w' => e = .returned (.bool true) ∧ Below w.heap.size w w' := by
  obtain ⟨S, hS⟩ : ∃ S : ByteArray, ({ data := #[90, 113, 32] } ++ t : ByteArray) = S := ⟨_, rfl⟩
  have hSl : S.data.toList = 90 :: 113 :: 32 :: t.data.toList := by
    rw [← hS]
    simp
  have hSs : S.size = t.size + 3 := by
    have h1 : S.data.toList.length = S.size := by simp
    have h2 : t.data.toList.length = t.size := by simp
    rw [hSl] at h1
    simp at h1
    omega
  have CE := hd (elems_any S 800 w (by omega) (by omega))
  obtain ⟨n, hn⟩ : ∃ n, min S.size 800 = n := ⟨_, rfl⟩
  rw [hn] at CE
  have HT3 : Hid (tB (elS S.data.toList n) = 90 :: 113 :: 32 :: (t.data.toList.take (n - 3))) := by
    show _ = _
    rw [tB_elS _ _ (by rw [hSl]; have h2 : t.data.toList.length = t.size := by simp
                       simp; omega), hSl]
    obtain ⟨m, rfl⟩ : ∃ m, n = m + 3 := ⟨n - 3, by omega⟩
    rfl
  have hn8 : n ≤ 800 := by omega
  have hlen := hd (elS_len S.data.toList n)
  generalize elS S.data.toList n = xs at *
  clear hSl hSs hn
  go_enter Try.func7, Try.ntmps7
  go_wp2_with fail
  clear hS
  refine CE.out.mono ?_
  rintro e w1 ⟨v, rfl, hTx⟩
  obtain ⟨a, c, rfl, hE, -⟩ := hTx.isE
  have B1 := hd hTx.choose_spec.2.2
  rw [hlen.out] at hE
  rw [hlen.out]
  have HN8 := hd hn8
  have HTl : Hid ((tB xs).length = n) := by show _ = _; simp [tB, hlen.out]
  have CT := text_any a n c xs w1 hE (by omega)
  rw [bstr_tB] at CT
  have CT := hd CT
  have CN := hd (fun W (hW : Below w1.heap.size w1 W) => new_any a n c xs W (hE.below hW) (by omega))
  clear hE hTx CE hlen
  go_wp2_with fail
  refine CT.out.mono ?_
  rintro e w2 ⟨rfl, hb2⟩
  have CN2 := hd (CN.out w2 hb2)
  have B2 := hd (B1.out.trans (hb2.mono B1.out.size))
  clear CN hb2 CT
  go_wp2_with fail
  refine CN2.out.mono ?_
  rintro e w3 ⟨x, rfl, hI, -, hb3⟩
  have B3 := hd (B2.out.trans (hb3.mono B2.out.size))
  have CW := hd (words_any x (tB xs) w3 hI (by rw [HTl.out]; omega))
  clear CN2 hI hb3
  go_wp2_with fail
  refine CW.out.mono ?_
  rintro e w4 ⟨v1, v2, ks, rfl, hW, hSt, hNc, hb4⟩
  have K := hd (wk_mk hW _ HT3.out)
  have HWs := hd hW.sort
  have B4 := hd (B3.out.trans (hb4.mono B3.out.size))
  have HT3' := HTl.out
  generalize tB xs = T at *
  have hL8 : ks.length ≤ 800 := by have := ks_len K.out; omega
  have hL0 : 0 < ks.length := List.length_pos_iff.2 (fun e => by have := K.out.zq; rw [e] at this; cases this)
  obtain ⟨a1, c1, rfl, hlc1, hc1, hrow1⟩ := hSt.cells
  obtain ⟨g, rfl, -, -, hcell1⟩ := hrow1 (by rw [List.length_map]; exact hL0)
  obtain ⟨a2, c2, rfl, -, hlc2, hc2, hrow2⟩ := hNc.isL
  obtain ⟨b2, off2, rfl, -, hcell2⟩ := hrow2 (by rw [List.length_map]; exact hL0)
  have HR1 : Hid (∀ j (h : j < ks.length), w4.cell? ⟨g, j, none⟩ = some (.string (bsA ks[j]))) := fun j h => by
    rw [hcell1 j (by rw [List.length_map]; exact h), List.getElem_map]
  have HR2 : Hid (∀ j (h : j < ks.length), w4.cell? ⟨b2, off2 + j, none⟩ = some (.int .i64 (((wdP T).count ks[j] : Nat) : Int))) := fun j h => by
    rw [hcell2 j (by rw [List.length_map]; exact h), List.getElem_map]
  rw [List.length_map] at hlc1 hlc2
  rw [List.length_map, List.length_map]
  obtain ⟨L, hL⟩ : ∃ L, ks.length = L := ⟨_, rfl⟩
  rw [hL] at hL0 hL8 hlc1 hlc2 ⊢
  have HL := hd hL
  have HCC := hd (And.intro hlc1 (And.intro hc1 (And.intro hlc2 hc2)))
  have HT0 := hd HT3'
  clear CW hW hSt hNc hb4 hrow1 hcell1 hrow2 hcell2 hlc1 hc1 hlc2 hc2 hL HT3'
  have hL0' : ¬ ((L : Int) = 0) := by omega
  go_upto_region 12 with fail
  have e0 : ((L : Int) == 0) = false := by rw [beq_eq_false_iff_ne]; exact hL0'
  rw [e0]
  clear e0
  go_loopw [8, 9, 10] (fun sv tv i wr => ∃ j m : Nat, j ≤ L ∧ i = .int .i64 j ∧ sv = .int .i64 ((smK T ks j : Nat) : Int) ∧ tv = .bool (zqB ks j) ∧ wr = w4.drewN m) (fun _ _ i _ => L - (intOf i).toNat)
  case atStart => exact ⟨0, 0, Nat.zero_le _, rfl, rfl, rfl, rfl⟩
  case round =>
    obtain ⟨j, m, hj, rfl, rfl, rfl, rfl⟩ := hrel
    by_cases hlt : j < L
    · have hjk : j < ks.length := by rw [HL.out]; exact hlt
      have k1 := HR1.out j hjk
      have k2 := HR2.out j hjk
      obtain ⟨q1, q2, q3, q4, q5, q6⟩ := K.out.word ks[j] (List.getElem_mem hjk)
      have SM := hd (smK_succ (T := T) hjk)
      have SL := hd (smK_le K.out (j + 1))
      have ZQ := hd (zqB_succ hjk)
      have hkl : 1 ≤ (ks[j]).length := List.length_pos_iff.2 q1
      have CR := hd (fun W => runs_any (bsA T) (bsA ks[j]) W (by rw [bsA_size]; have := HT0.out; omega) (by rw [bsA_size]; have := HT0.out; omega) (by rw [bsA_size]; exact hkl))
      simp only [bsA_list, bsA_size, q6] at CR
      have Q2 := hd q2
      have Q1 : Hid ((bsA ks[j]).toList ≠ []) := by show _ ≠ _; rw [toL, bsA_list]; exact q1
      have QS : Hid ((bsA ks[j]).size = (ks[j]).length) := bsA_size _
      have QB : Hid (∀ (s : ByteArray), s = bsA ks[j] → ∀ i (h : i < s.size), ltN (s[i]'h).toNat = true) := by
        intro s e i h
        subst e
        rw [bsA_get]
        exact q2 _ (List.getElem_mem _)
      have QL := hd (toL (bsA ks[j]))
      have hct1 : ¬ (((wdP T).count ks[j] : Nat) : Int) < 1 := by omega
      have hct2 : decide ((((wdP T).count ks[j] : Nat) : Int) < 1) = false := decide_eq_false hct1
      have hsk0 : ((bsA ks[j]).toList == []) = false := by
        have h := Q1.out
        cases hq : (bsA ks[j]).toList with
        | nil => exact absurd hq h
        | cons a b => rfl
      have E1 := hd (And.intro q4 (And.intro q5 q3))
      obtain ⟨KJ, hKJ⟩ : ∃ KJ, ks[j] = KJ := ⟨_, rfl⟩
      have HKJ : Hid (ks[j]? = some KJ) := by show _ = _; rw [List.getElem?_eq_getElem hjk, hKJ]
      simp only [hKJ] at *
      obtain ⟨sk, hsk⟩ : ∃ sk, bsA KJ = sk := ⟨_, rfl⟩
      have HSK := hd hsk
      rw [hsk] at k1 CR hsk0 QS QL Q1 QB
      obtain ⟨ct, hct⟩ : ∃ ct, (wdP T).count KJ = ct := ⟨_, rfl⟩
      have HCT := hd hct
      rw [hct] at k2 CR hct1 hct2 SM
      clear q1 q2 q3 q4 q5 q6 hKJ hsk hct hkl
      have CL := hd (fun (i : Nat) (h : i < sk.size) => letter_any (sk[i]'h).toNat)
      have CL : Hid (∀ (i : Nat) (h : i < sk.size) (W : World), Calls Try.prog 26 #[.int .u8 (((sk[i]'h).toNat : Nat) : Int)] W fun e w' => e = .returned (.bool true) ∧ w' = W) := by
        intro i h W
        have := CL.out i h W
        rw [QB.out sk rfl i h] at this
        exact this
      have PR : Hid (j ≠ 0 → ∀ h : j - 1 < ks.length, Op.bytesLess (bsA ks[j - 1]).toList sk.toList = true) := by
        intro hj0 h
        obtain ⟨_, e⟩ := List.getElem?_eq_some_iff.1 HKJ.out
        rw [toL, QL.out, bsA_list, ← HSK.out, bsA_list, ← e]
        exact blE _ _ (List.pairwise_iff_getElem.1 HWs.out (j - 1) j h hjk (by omega))
      clear QB
      by_cases h0 : 0 < j
      case' pos =>
        have hj1 : j - 1 < ks.length := by omega
        have k3 := HR1.out (j - 1) hj1
        have hlj : j - 1 < L := by omega
        have pb := PR.out (by omega) hj1
        go_upto_region 14 with fail
        go_big_quiet ((go_at_call 25; exact (CR.out _).mono (fun _ _ ⟨he, hm⟩ => ⟨he, _, hm⟩)))
        clear k3 pb
      case' neg =>
        go_upto_region 14 with fail
        go_big_quiet ((go_at_call 25; exact (CR.out _).mono (fun _ _ ⟨he, hm⟩ => ⟨he, _, hm⟩)))
      all_goals
        clear PR CR h0
        obtain ⟨P, hP0⟩ : ∃ P : Nat, ct * KJ.length = P := ⟨_, rfl⟩
        have hP : (ct : Int) * (sk.size : Int) = (P : Int) := by rw [QS.out]; go_num
        have SM2 := SM.out
        rw [hP0] at SM2
        have SL2 := SL.out
        have hT0 := HT0.out
        have hE1 := E1.out
        have hQS := QS.out
        have hsz : sk.size ≤ 800 := by omega
        have hPs : P ≤ 800 := by omega
        have hms : smK T ks j ≤ 800 := by omega
        have SM3 := hd SM2
        clear SM2 SL2 hT0 hE1 hQS hP0
        go_upto_region 17 with fail
        go_loopw [11] (fun iv wr => ∃ i m' : Nat, i ≤ sk.size ∧ iv = .int .i64 i ∧ wr = w4.drewN m') (fun iv _ => sk.size - (intOf iv).toNat)
        case atStart => exact ⟨0, _, Nat.zero_le _, rfl, rfl⟩
        case round =>
          obtain ⟨i, m', hi, rfl, rfl⟩ := hrel
          by_cases hil : i < sk.size
          · have C := CL.out i hil
            go_wp2_with (go_at_call 26; refine (C _).mono ?_; rintro e w' ⟨rfl, rfl⟩)
            exact ⟨⟨i + 1, m', by omega, by go_num, rfl⟩, by simp [intOf]; omega⟩
          · cases hz : zqB ks j with
            | true =>
              rw [hz] at ZQ
              go_upto_region 22 with fail
              go_big_quiet (fail)
              go_wp2_with fail
              go_roundw
              case rel => exact ⟨j + 1, _, by omega, by go_num, by rw [SM3.out]; go_num, by rw [ZQ.out]; rfl, rfl⟩
              case measure => simp only [intOf]; omega
            | false =>
              rw [hz] at ZQ
              go_upto_region 22 with fail
              go_big_quiet (fail)
              go_wp2_with fail
              go_roundw
              have hq : (sk.toList == [90, 113]) = (false || decide (KJ = [90, 113])) := by
                rw [QL.out, ← HSK.out, bsA_list]
                rw [Bool.false_or, Bool.eq_iff_iff]
                simp
              case rel => exact ⟨j + 1, _, by omega, by go_num, by rw [SM3.out]; go_num, by rw [ZQ.out, hq], rfl⟩
              case measure => simp only [intOf]; omega
    · obtain rfl : j = L := by omega
      have SMT : Hid (smK T ks j = ltK T T.length) := by
        show _ = _
        unfold smK ltK
        rw [← HL.out, List.take_length, List.take_length]
        exact K.out.sum
      have ZT : zqB ks j = true := by rw [← HL.out]; exact zqB_all K.out.zq
      rw [ZT]
      obtain ⟨TT, hTT⟩ : ∃ TT, bsA T = TT := ⟨_, rfl⟩
      have TS : Hid (TT.size = T.length) := by show _ = _; rw [← hTT, bsA_size]
      have hts : TT.size ≤ 800 := by rw [TS.out, HT0.out]; omega
      have TG : Hid (∀ (s : ByteArray), s = TT → ∀ i (h : i < s.size) (h2 : i < T.length), ltN (s[i]'h).toNat = ltB T[i]) := by
        intro s e i h h2
        subst e
        subst hTT
        rw [bsA_get]
        rfl
      have CL := hd (fun r => letter_any r)
      rw [hTT]
      go_upto_region 25 with fail
      go_loop [12, 13] (fun kv iv => ∃ i : Nat, i ≤ TT.size ∧ iv = .int .i64 i ∧ kv = .int .i64 ((ltK T i : Nat) : Int)) (fun _ iv => TT.size - (intOf iv).toNat)
      case atStart => exact ⟨0, Nat.zero_le _, rfl, rfl⟩
      case round =>
        obtain ⟨i, hi, rfl, rfl⟩ := hrel
        by_cases hit : i < TT.size
        · have hiT : i < T.length := by have := TS.out; omega
          have LS := hd (ltK_succ (T := T) hiT)
          have hk8 : ltK T i ≤ 800 := by
            have := List.length_filter_le ltB (T.take i)
            rw [List.length_take] at this
            unfold ltK
            omega
          have C := CL.out (TT[i]'hit).toNat
          rw [TG.out TT rfl i hit hiT] at C
          cases hb : ltB T[i] with
          | true =>
            rw [hb] at C LS
            go_wp2_with (go_at_call 26; refine (C _).mono ?_; rintro e w' ⟨rfl, rfl⟩)
            exact ⟨⟨i + 1, by omega, by go_num, by rw [LS.out, if_pos trivial]; go_num⟩, by simp only [intOf]; omega⟩
          | false =>
            rw [hb] at C LS
            go_wp2_with (go_at_call 26; refine (C _).mono ?_; rintro e w' ⟨rfl, rfl⟩)
            exact ⟨⟨i + 1, by omega, by go_num, by rw [LS.out]; go_num⟩, by simp only [intOf]; omega⟩
        · have hEq : ltK T i = smK T ks j := by
            rw [SMT.out]
            have := TS.out
            have e : i = T.length := by omega
            rw [e]
          rw [hEq]
          go_wp2_with fail
          go_ret
          exact ⟨by simp, below_drewN B4.out _⟩
end Go.Proofs.Ytlmgogonghafeaa
