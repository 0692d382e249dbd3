/-
  NotesSweeps, walked.
-/
import Derived.Test.YtkkklfnooeofcaaGd
namespace Go.Proofs.Ytkkklfnooeofcaa
open Go.RowKit Go.Maps Go.ChangeMaps Go.MapKept Go.WideMaps
set_option linter.unusedVariables false

set_option maxRecDepth 100000 in
set_option maxHeartbeats 8000000 in
theorem sweeps_any (a : Option Addr) (nT cT : Nat) (ts : List Int) (a' : Option Addr) (nU cU : Nat) (us : List Int) (a'' : Option Addr) (nV cV : Nat) (vs : List (Bool × Int)) (w : World) (hT : IsO (Value.int .i64) w a nT cT ts) (hU : IsO (Value.int .i64) w a' nU cU us) (hV : IsT w a'' nV cV vs) (hT8 : nT * 8 ≤ 140737488351232) :
    Calls Try.prog 8 #[.slice a nT cT, .slice a' nU cU, .slice a'' nV cV] w fun e w' => e = .returned (.bool true) ∧ Below w.heap.size w w' := by
  have HT := hd hT
  have HTL := hd hT.1
  have hTc := hT.2.1
  have hT63 := hT.2.2.1
  have HU := hd hU
  have HUL := hd hU.1
  have hUc := hU.2.1
  have hU63 := hU.2.2.1
  have HV := hd hV
  have HVL := hd hV.1
  have hVc := hV.2.1
  have hV63 := hV.2.2.1
  clear hT hU hV
  go_enter Try.func8, Try.ntmps8
  go_wp2_with fail
  refine (fixed_any w).mono ?_
  rintro e w1 ⟨r, O, g0, rfl, hD, -, -, -, hO, b1⟩
  have HD1 := hd hD
  have HO1 := hd hO
  have HB1 := hd b1
  clear hD hO b1
  go_wp2_with fail
  refine (text_any 30 w1 (by omega)).mono ?_
  rintro e w2 ⟨v, rfl, β, hS, hβ, b2⟩
  obtain ⟨av, cv, hv, -, -⟩ := hS.form
  rw [txt_len] at hv
  subst hv
  have hI := se_isE (sf_se hS)
  obtain ⟨bv, ov, rfl, hbv⟩ := hI.addr (by omega)
  have hcv := hI.2.1
  have hcv63 := hI.2.2.1
  have I0 : Hid (NuE w w2 O r 1 (some ⟨bv, ov + 3, none⟩) 29 (cv - 1) ((txt 30).drop 1) [nt1] ∧ idsR 1 [nt1]) := by
    refine ⟨⟨HD1.out.below b2, hI.drop 1 (by omega), fun b off e => ?_, HO1.out, HB1.out.trans (b2.mono HB1.out.size)⟩, idsR.one⟩
    injection e with e
    injection e with e1 e2
    subst e1
    refine ⟨fun ho => ?_, hbv⟩
    have h1 := HD1.out.old bv ho
    cases β with
    | none => obtain ⟨q1, q2⟩ := hS; cases q1
    | some q =>
      obtain ⟨cap, q1, q2⟩ := hS
      injection q1 with q1
      injection q1 with q1
      injection q1 with q1
      have := hβ q rfl
      omega
  have g1 : ¬ cv = 1 := by omega
  have g2 : 1 ≤ cv := by omega
  clear hS hβ b2 HD1 HO1 HB1 hI hbv
  have hwf : Hid (∀ x ∈ (txt 30).drop 1, wfE x) := fun x hx => wf_txt 30 (by omega) x (List.mem_of_mem_drop hx)
  have hxl : Hid (((txt 30).drop 1).length = 29) := by unfold Hid; rw [List.length_drop, txt_len]
  generalize (txt 30).drop 1 = xs0 at *
  go_wp2_with fail
  go_loopw [11, 12] (fun cn i wr => ∃ m j : Nat, 1 ≤ m ∧ m ≤ 256 ∧ j ≤ nT ∧ cn = .int .i64 m ∧ i = .int .i64 j ∧ ∃ O Ns, Hid (NuE w wr O r m (some ⟨bv, ov + 3, none⟩) 29 (cv - 1) xs0 Ns ∧ idsR m Ns)) (fun cn _ _ => 256 - (intOf cn).toNat)
  case atStart => exact ⟨1, 0, by omega, by omega, by omega, rfl, rfl, _, _, I0⟩
  case round =>
    obtain ⟨m, j, hm1, hm2, hj, rfl, rfl, O, Ns, HI⟩ := hrel
    clear I0
    by_cases hlt : j + 1 < nT ∧ m < 256
    · obtain ⟨hlt1, hlt2⟩ := hlt
      obtain ⟨ab, off, rfl, hab, p0⟩ := HT.out.at j (by rw [HTL.out]; omega)
      obtain ⟨ab', off', e', -, p1⟩ := HT.out.at (j + 1) (by rw [HTL.out]; omega)
      injection e' with e'
      injection e' with e1 e2
      subst e1 e2
      have BL := HI.out.1.low
      have p0 := (BL.cell (p := ⟨ab, off + j, none⟩) hab).trans p0
      have p1 := (BL.cell (p := ⟨ab, off + (j + 1), none⟩) hab).trans p1
      generalize ts[j]'(by rw [HTL.out]; omega) = x at *
      generalize ts[j + 1]'(by rw [HTL.out]; omega) = y at *
      have hab' := Nat.lt_of_lt_of_le hab BL.size
      have P0 := hd p0
      have P1 := hd p1
      have i1 : (j : Int) + 1 < (nT : Int) := by omega
      have i2 : (m : Int) < 256 := by omega
      clear BL p0 p1
      go_upto_region 9 with fail
      go_cut [13, 14] (fun id e wx => id = .int .i64 ((m + 1 : Nat) : Int) ∧ e = .int .i64 0 ∧ Hid (LpP wr wx O r m Ns 29 xs0))
      case first =>
        refine regLpS _ wr O r m 29 (cv - 1) j ab off nT cT (some ⟨bv, ov + 3, none⟩) Ns xs0 x y HI.out.1.bd HI.out.1.ie hwf.out (by omega) (by omega) hlt2 hlt1 hTc hT63 hab' P0.out P1.out (by simp) rfl rfl rfl rfl ?_
        intro L val u hL hW hV
        have v15 : val 15 = .int .i64 ((m + 1 : Nat) : Int) := by
          rcases hV 15 with h | h | h
          · cases h
          · exact (Option.some.inj h).symm
          · exact absurd (by decide) h
        have v16 : val 16 = .int .i64 0 := by
          rcases hV 16 with h | h | h
          · cases h
          · exact (Option.some.inj h).symm
          · exact absurd (by decide) h
        have Z := hd (hW.2 (hL 11 (by omega)))
        clear hW hV hL
        simp only [slLpS, DLpS, List.getD_cons_zero, List.getD_cons_succ, List.map_cons, List.map_nil, puts, List.foldl_cons, List.foldl_nil, Act.put, List.setIfInBounds_toArray, List.set_cons_succ, List.set_cons_zero]
        rw [v15, v16]
        go_wp2_with fail
        go_meet
        exact ⟨rfl, rfl, Z⟩
      case rest =>
        obtain ⟨rfl, rfl, HP⟩ := hcut
        obtain ⟨f, t, -, -, hN⟩ := HP.out
        obtain ⟨O', hS'⟩ := HI.out.1.now hN
        have Z := hd (show NuE w wc O' r (m + 1) (some ⟨bv, ov + 3, none⟩) 29 (cv - 1) xs0 (Ns ++ [⟨m + 1, 5, wB, false, [], (xs0.drop f).take (t - f)⟩]) ∧ idsR (m + 1) (Ns ++ [⟨m + 1, 5, wB, false, [], (xs0.drop f).take (t - f)⟩]) from ⟨hS', HI.out.2.snoc _ rfl rfl⟩)
        have em : ((m + 1 : Nat) : Int) = (m : Int) + 1 := by omega
        rw [em]
        clear HP hN hS' HI P0 P1 em
        go_wp2
        exact ⟨⟨m + 1, j + 2, by omega, by omega, by omega, congrArg (Value.int .i64) (by omega), congrArg (Value.int .i64) (by omega), O', _, Z⟩, by simp [intOf]; omega⟩
    · have hcut : (nT : Int) ≤ (j : Int) + 1 ∨ ((j : Int) + 1 < (nT : Int) ∧ (256 : Int) ≤ (m : Int)) := by omega
      obtain ⟨w7, rfl⟩ : ∃ u, u = wr := ⟨wr, rfl⟩
      go_upto_region 7 with fail
      go_cut [42] (fun b wx => b = .bool false ∧ wx = w7)
      case first =>
        rcases hcut with h | ⟨h, h'⟩
        · go_wp2
          go_meet
          exact ⟨rfl, rfl⟩
        · go_wp2
          go_meet
          exact ⟨congrArg Value.bool (by simp; omega), rfl⟩
      case rest =>
        obtain ⟨rfl, rfl⟩ := hcut
        obtain ⟨w7, rfl⟩ : ∃ u, u = wc := ⟨wc, rfl⟩
        clear hlt HT HTL
        go_wp2_with fail
        go_loopw [15] (fun i wr => ∃ j : Nat, j ≤ nU ∧ i = .int .i64 j ∧ ∃ O Ns, Hid (NuE w wr O r m (some ⟨bv, ov + 3, none⟩) 29 (cv - 1) xs0 Ns ∧ idsR m Ns)) (fun i _ => nU - (intOf i).toNat)
        case atStart => exact ⟨0, Nat.zero_le _, rfl, _, _, HI⟩
        case round =>
          clear HI
          obtain ⟨k, hk, rfl, O, Ns, HI⟩ := hrel
          by_cases hlt : k < nU
          · obtain ⟨ab, off, rfl, hab, p0⟩ := HU.out.at k (by rw [HUL.out]; exact hlt)
            have p0 := (HI.out.1.low.cell (p := ⟨ab, off + k, none⟩) hab).trans p0
            generalize us[k]'(by rw [HUL.out]; exact hlt) = x at *
            have i1 : (k : Int) < (nU : Int) := by omega
            go_wp2_with fail
            refine (lwithin_any x 1 (m : Int) _ (by omega) (by omega) (by omega)).mono ?_
            rintro e w8 ⟨z0, rfl, hz0, rfl⟩
            obtain ⟨z, rfl⟩ : ∃ z : Nat, z0 = z := ⟨z0.toNat, by have := hz0.1; omega⟩
            obtain ⟨A, nn, B, rfl, hid⟩ := HI.out.2.at (j := z) (by have := hz0.1; omega) (by have := hz0.2.1; omega)
            subst hid
            clear hz0 p0
            cases hsh : nn.sh with
            | true =>
              have CS := hd (shut_bad O r m A B nn w8 HI.out.1.bd hsh)
              go_wp2_with fail
              refine CS.out.mono ?_
              rintro e w9 ⟨rfl, rfl⟩
              clear CS
              go_wp2
              exact ⟨⟨k + 1, hlt, rfl, O, _, HI⟩, by simp [intOf]; omega⟩
            | false =>
              have CS := hd (shut_good O r m A B nn w8 HI.out.1.bd hsh)
              go_wp2_with fail
              refine CS.out.mono ?_
              rintro e w9 ⟨rfl, hN⟩
              obtain ⟨O', hS'⟩ := HI.out.1.now hN
              have Z := hd (And.intro hS' HI.out.2.shut)
              clear CS hN hS' HI
              go_wp2
              exact ⟨⟨k + 1, hlt, rfl, O', _, Z⟩, by simp [intOf]; omega⟩
          · obtain rfl : k = nU := by omega
            obtain ⟨w8, rfl⟩ : ∃ u, u = wr := ⟨wr, rfl⟩
            have J0 : Hid (NuE w w8 O r m (some ⟨bv, ov + 3, none⟩) 29 (cv - 1) xs0 Ns ∧ idsR m Ns ∧ TxQ xs0 (29 + 0)) := ⟨HI.out.1, HI.out.2, by rw [TxQ, hxl.out]; exact ⟨by omega, hwf.out⟩⟩
            clear HI HU HUL hlt
            go_wp2_with fail
            go_loopw [10, 16] (fun v i wr => ∃ k : Nat, k ≤ nV ∧ k ≤ 2048 ∧ i = .int .i64 k ∧ ∃ a n c xs, v = .slice a n c ∧ Hid (NuE w wr O r m a n c xs Ns ∧ idsR m Ns ∧ TxQ xs (29 + k))) (fun _ i _ => nV - (intOf i).toNat)
            case atStart => exact ⟨0, Nat.zero_le _, by omega, rfl, _, _, _, xs0, rfl, J0⟩
            case round =>
              obtain ⟨k, hk, hk2, rfl, a, n, c, xs, rfl, HI⟩ := hrel
              clear J0
              have hnl := HI.out.1.ie.1
              have hnc := HI.out.1.ie.2.1
              have hnc63 := HI.out.1.ie.2.2.1
              have hnb : n ≤ 29 + k := by rw [← hnl]; exact HI.out.2.2.1
              by_cases hlt : k < nV ∧ k < 2048
              · obtain ⟨hlt1, hlt2⟩ := hlt
                have hkt : k < vs.length := by rw [HVL.out]; exact hlt1
                obtain ⟨ab, off, rfl, hab, p0, p1⟩ := HV.out.at k hkt
                have BL := HI.out.1.low
                have p0 := (BL.cell (p := ⟨ab, off + k * 2, none⟩) hab).trans p0
                have p1 := (BL.cell (p := ⟨ab, off + k * 2 + 1, none⟩) hab).trans p1
                generalize vs[k] = tk at *
                obtain ⟨out, N⟩ := tk
                simp only at p0 p1
                have CT := hd (turned_any a n c xs out N k wr HI.out.1.ie (by omega) (by omega))
                clear BL
                go_wp2_with fail
                refine CT.out.mono ?_
                rintro e w9 ⟨v8, pos, del, ys, rfl, hO8, hTu, -, b8⟩
                obtain ⟨gd, cd8, hgd, hv8, hR8⟩ := hO8.form
                subst hv8
                have hSE : SE w9 (some gd) (.slice (some ⟨gd, 0, none⟩) ys.length cd8) ys := ⟨cd8, rfl, hR8⟩
                have Z : Hid (NuE w w9 O r m (some ⟨gd, 0, none⟩) ys.length cd8 ys Ns ∧ idsR m Ns ∧ TxQ ys (29 + (k + 1))) := by
                  refine ⟨HI.out.1.text b8 hgd (se_isE hSE) (hSE.lt gd rfl), HI.out.2.1, by have := hTu.len; have := HI.out.2.2.1; omega, hTu.wf (by omega) HI.out.2.2.2⟩
                clear HI CT hO8 hR8 hTu b8 p0 p1 hgd hSE
                go_wp2
                exact ⟨⟨k + 1, hlt1, hlt2, rfl, _, _, _, ys, rfl, Z⟩, by simp [intOf]; omega⟩
              · have hcut : (nV : Int) ≤ (k : Int) ∨ ((k : Int) < (nV : Int) ∧ (2048 : Int) ≤ (k : Int)) := by omega
                obtain ⟨w9, rfl⟩ : ∃ u, u = wr := ⟨wr, rfl⟩
                go_upto_region 18 with fail
                go_cut [90] (fun b wx => b = .bool false ∧ wx = w9)
                case first =>
                  rcases hcut with h | ⟨h, h'⟩
                  · go_wp2
                    go_meet
                    exact ⟨rfl, rfl⟩
                  · go_wp2
                    go_meet
                    exact ⟨congrArg Value.bool (by simp; omega), rfl⟩
                case rest =>
                  obtain ⟨rfl, rfl⟩ := hcut
                  obtain ⟨w9, rfl⟩ : ∃ u, u = wc := ⟨wc, rfl⟩
                  clear hlt HV HVL
                  have CA := hd (all_any O r m Ns w9 HI.out.1.bd a n c xs HI.out.1.ie HI.out.2.2.2 HI.out.2.1.room)
                  go_wp2_with fail
                  refine CA.out.mono ?_
                  rintro e w10 ⟨v0, rfl, hA, b10⟩
                  obtain ⟨b0, L, hS0, hLn⟩ := SwL.start HI.out.1 b10 hA
                  obtain ⟨a0, c0, rfl, hc0, hc063⟩ := hS0.be.form
                  have hLm : L.length = m := by rw [← HI.out.2.1.len, ← hLn, List.length_map]
                  have HX := hd (show idsR m Ns ∧ (∀ x ∈ xs, wfE x) ∧ L.map TN.n = Ns from ⟨HI.out.2.1, HI.out.2.2.2, hLn⟩)
                  have HS0 := hd hS0
                  rw [hLm] at HS0 hc0 ⊢
                  clear CA hA b10 HI hS0 hLn
                  go_wp2_with fail
                  go_loopw [22, 23] (fun v i wr => ∃ q : Nat, q ≤ m ∧ i = .int .i64 q ∧ ∃ b1, Hid (SwL w wr O r m a n c xs Ns b0 (.slice a0 m c0) L b1 v ((L.take q).filter (fun t => keepN xs t.n)))) (fun _ i _ => m - (intOf i).toNat)
                  case atStart => exact ⟨0, Nat.zero_le _, rfl, none, HS0⟩
                  case round =>
                    obtain ⟨q, hq, rfl, b1, HJ⟩ := hrel
                    clear HS0
                    by_cases hlt : q < m
                    · have k1 : q < L.length := by rw [hLm]; exact hlt
                      obtain ⟨g, rfl, cs⟩ := tn_cells HJ.out.be q k1
                      have ht := HJ.out.ts L[q] (List.getElem_mem k1)
                      have hkp := hd (gone_keep ht)
                      have hfl := hd (take_flt (fun t => keepN xs t.n) L q k1)
                      have hAl : ((L.take q).filter (fun t => keepN xs t.n)).length + 1 ≤ 100000 := by
                        have := List.length_filter_le (fun t => keepN xs t.n) (L.take q)
                        rw [List.length_take] at this
                        omega
                      obtain ⟨v', w', β', hrun, hSw⟩ := HJ.out.push L[q] hAl
                      have HS := hd hSw
                      obtain ⟨a1, c1, hv1, -, -⟩ := HJ.out.wa.form
                      subst hv1
                      have x0 := cs 0 (by omega); have x1 := cs 1 (by omega); have x2 := cs 2 (by omega); have x3 := cs 3 (by omega)
                      have x4 := cs 4 (by omega); have x5 := cs 5 (by omega); have x6 := cs 6 (by omega); have x7 := cs 7 (by omega)
                      clear cs ht hSw hAl
                      generalize L[q] = t at *
                      simp only [tnc, Nat.add_zero, List.getElem?_cons_zero, List.getElem?_cons_succ] at x0 x1 x2 x3 x4 x5 x6 x7 hrun
                      have i1 : (q : Int) < (m : Int) := by omega
                      obtain ⟨w11, rfl⟩ : ∃ u, u = wr := ⟨wr, rfl⟩
                      go_upto_region 31 with fail
                      go_cut [134] (fun b wx => b = .bool (keepN xs t.n) ∧ wx = w11)
                      case first =>
                        cases hsh : t.n.sh with
                        | false =>
                          rw [hsh] at x6
                          go_wp2
                          go_meet
                          exact ⟨congrArg Value.bool (show true = keepN xs t.n by rw [hkp.out, hsh]; rfl), rfl⟩
                        | true =>
                          rw [hsh] at x6
                          generalize ((t.s.1 : Int) == (t.s.2 : Int)) = gn at *
                          go_wp2
                          go_meet
                          exact ⟨congrArg Value.bool (show (!gn) = keepN xs t.n by rw [hkp.out, hsh]; simp), rfl⟩
                      case rest =>
                        obtain ⟨rfl, rfl⟩ := hcut
                        obtain ⟨w11, rfl⟩ : ∃ u, u = wc := ⟨wc, rfl⟩
                        cases hk : keepN xs t.n with
                        | true =>
                          have Z : Hid (SwL w w' O r m a n c xs Ns b0 (.slice (some ⟨g, 0, none⟩) m c0) L β' v' ((L.take (q + 1)).filter (fun t => keepN xs t.n))) := by
                            have := hfl.out
                            simp only [hk, if_true] at this
                            rw [Hid, this]
                            exact HS.out
                          clear HS HJ hfl hkp
                          go_wp2_with (at_builtin; refine wpList_append_k _ rfl _ _ 33 33 rfl _ _ rfl rfl (hrun _) ?_)
                          exact ⟨⟨q + 1, hlt, rfl, _, Z⟩, by simp [intOf]; omega⟩
                        | false =>
                          have Z : Hid (SwL w w11 O r m a n c xs Ns b0 (.slice (some ⟨g, 0, none⟩) m c0) L b1 (.slice a1 ((L.take q).filter (fun t => keepN xs t.n)).length c1) ((L.take (q + 1)).filter (fun t => keepN xs t.n))) := by
                            have := hfl.out
                            simp only [hk, Bool.false_eq_true, if_false, List.append_nil] at this
                            rw [Hid, this]
                            exact HJ.out
                          clear HS HJ hfl hkp hrun
                          go_wp2
                          exact ⟨⟨q + 1, hlt, rfl, _, Z⟩, by simp [intOf]; omega⟩
                    · have hqm : q = m := by omega
                      subst hqm
                      obtain ⟨w11, rfl⟩ : ∃ u, u = wr := ⟨wr, rfl⟩
                      have HJ2 := HJ.out
                      rw [List.take_of_length_le (by omega)] at HJ2
                      obtain ⟨F, hF⟩ : ∃ F, L.filter (fun t => keepN xs t.n) = F := ⟨_, rfl⟩
                      rw [hF] at HJ2
                      obtain ⟨hid, hwx, hLn⟩ := HX.out
                      have e1 : Ns.filter (keepN xs) = F.map TN.n := by rw [flt_map hLn, hF]
                      have hFl : F.length ≤ q := by
                        have := List.length_filter_le (fun t => keepN xs t.n) L
                        rw [hF] at this
                        omega
                      have hFL : ∀ t ∈ F, t ∈ L := fun t ht => by rw [← hF] at ht; exact (List.mem_filter.1 ht).1
                      have hff : (Ns.filter (keepN xs)).filter (keepN xs) = Ns.filter (keepN xs) := by rw [List.filter_filter]; simp
                      have hrm := room_filter (p := keepN xs) hid.room
                      obtain ⟨a1, c1, hv1, hc1, hc163⟩ := HJ2.wa.form
                      subst hv1
                      have CW := hd (sweep_any O r q Ns w11 HJ2.nu.bd a n c xs HJ2.nu.ie hwx)
                      have hval : ((Ns.length - (Ns.filter (keepN xs)).length : Nat) : Int) = (q : Int) - (F.length : Int) := by rw [e1, hid.len, List.length_map]; omega
                      rw [hval] at CW
                      generalize Ns.filter (keepN xs) = Ms at *
                      have H2 := hd HJ2
                      have HY := hd (show Ms = F.map TN.n ∧ (∀ t ∈ F, t ∈ L) ∧ Ms.filter (keepN xs) = Ms ∧ (∀ n ∈ Ms, roomy n.sd.length 24) ∧ (∀ x ∈ xs, wfE x) from ⟨e1, hFL, hff, hrm, hwx⟩)
                      clear HJ HJ2 HX hF hid hwx hLn e1 hFL hff hrm hval hlt
                      go_wp2_with fail
                      refine CW.out.mono ?_
                      rintro e w12 ⟨rfl, hN⟩
                      have hFr : Fr O w11 w12 := by
                        obtain ⟨_, _, _, h⟩ := hN
                        exact h
                      obtain ⟨O2, hS2⟩ := H2.out.nu.now hN
                      have W12 := hd (H2.out.wa.fr hFr (fun k hk => (H2.out.n1 k hk).1))
                      have T12 := hd (show ∀ t ∈ F, TNs w12 xs t from fun t ht => (H2.out.ts t (HY.out.2.1 t ht)).swept hFr)
                      have CA := hd (all_any O2 r q Ms w12 hS2.bd a n c xs hS2.ie HY.out.2.2.2.2 HY.out.2.2.2.1)
                      have HN2 := hd hS2
                      clear CW hN hFr hS2 H2
                      go_wp2_with fail
                      refine CA.out.mono ?_
                      rintro e w13 ⟨v2, rfl, ⟨L2, β2, h1, -, h3, h4⟩, b13⟩
                      obtain ⟨a2, c2, hv2, hc2, hc263⟩ := h1.form
                      subst hv2
                      have hll : L2.length = F.length := by
                        have := congrArg List.length (h3.trans HY.out.1)
                        simpa using this
                      rw [hll] at h1 hc2 ⊢
                      have CE := hd (eqNotes_true xs β2 b1 a2 a1 F.length c2 c1 L2 F w13 h1 (W12.out.fr (S := fun _ => False) (Fr.of_below b13) (fun _ _ h => h)) hll hc2 hc1 (by omega) (by omega) (fun t ht => (h4 t ht).s) (fun t ht => (T12.out t ht).fr0 b13) (h3.trans HY.out.1))
                      have HN3 := hd (HN2.out.below b13)
                      clear CA h1 h3 h4 b13 W12 T12 HN2
                      go_wp2_with fail
                      refine CE.out.mono ?_
                      rintro e w14 ⟨rfl, b14⟩
                      have HN4 := hd (HN3.out.below b14)
                      have CW := hd (sweep_any O2 r q Ms w14 HN4.out.bd a n c xs HN4.out.ie HY.out.2.2.2.2)
                      rw [HY.out.2.2.1, Nat.sub_self] at CW
                      clear CE b14 HN3
                      go_wp2_with fail
                      refine CW.out.mono ?_
                      rintro e w15 ⟨rfl, hN⟩
                      obtain ⟨O5, hS5⟩ := HN4.out.now hN
                      have Z := hd hS5.low
                      clear CW hN hS5 HN4 HY
                      go_wp2
                      go_ret
                      exact ⟨rfl, Z.out⟩

end Go.Proofs.Ytkkklfnooeofcaa
