/-
  NotesCovers, walked.
-/
import Derived.Test.YtkkklfnooeofcaaMHd
namespace Go.Proofs.Ytkkklfnooeofcaa
open Go.RowKit Go.Maps Go.ChangeMaps Go.MapKept Go.WideMaps
set_option linter.unusedVariables false

theorem wp_ops {k : Nat} {o o' : Array Oper} {b : Bool} {Q : Exit → Act → World → Prop} {a : Act} {w : World} (e : o = o') (h : (Code.region k o' b).wp Try.prog Q a w) : (Code.region k o b).wp Try.prog Q a w := by
  rw [e]
  exact h
theorem cell_in {w : World} {a : Addr} {v : Value} (h : w.cell? a = some v) : a.block < w.heap.size := by
  by_cases hb : a.block < w.heap.size
  · exact hb
  · unfold World.cell? at h
    rw [Array.getElem?_eq_none (by omega)] at h
    simp at h

set_option maxRecDepth 100000 in
set_option maxHeartbeats 8000000 in
theorem covers_any (x0 : Int) (a : Option Addr) (nT cT : Nat) (ts : List Int) (aw : Option Addr) (nW cW : Nat) (ws : List El) (w : World) (hT : IsO (Value.int .i64) w a nT cT ts) (hW : IsE w aw nW cW ws) (hWf : ∀ x ∈ ws, wfE x) (hT8 : nT * 8 ≤ 140737488351232) (hW24 : nW * 24 ≤ 140737488351232) :
    Calls Try.prog 3 #[.int .i64 x0, .slice a nT cT, .slice aw nW cW] w fun e w' => e = .returned (.bool true) ∧ Below w.heap.size w w' := by
  have HT := hd hT
  have HTL := hd hT.1
  have hTc := hT.2.1
  have hT63 := hT.2.2.1
  have HW := hd hW
  have HWL := hd hW.1
  have hWc := hW.2.1
  have hW63 := hW.2.2.1
  have HWF := hd hWf
  clear hT hW hWf
  go_enter Try.func3, Try.ntmps3
  go_wp2_with fail
  refine (fixed_any w).mono ?_
  rintro e w1 ⟨r, O, g0, rfl, hD, -, -, -, hO, b1⟩
  have HD1 := hd hD
  have HO1 := hd hO
  have HB1 := hd b1
  clear hD hO b1
  go_wp2_with fail
  refine (lwithin_any x0 1 2048 _ (by omega) (by omega) (by omega)).mono ?_
  rintro e w2 ⟨n0, rfl, hn0, rfl⟩
  obtain ⟨n, rfl⟩ : ∃ n : Nat, n0 = n := ⟨n0.toNat, by have := hn0.1; omega⟩
  have hn1 : 1 ≤ n := by have := hn0.1; omega
  have hn2 : n ≤ 2048 := by have := hn0.2.1; omega
  clear hn0
  go_wp2_with fail
  refine (text_any n _ (by omega)).mono ?_
  rintro e w3 ⟨v, rfl, β, hS, hβ, b2⟩
  obtain ⟨av, cv, hv, -, -⟩ := hS.form
  have HL := hd (txt_len n)
  rw [HL.out] at hv
  subst hv
  have hI := se_isE (sf_se hS)
  have hcv := hI.2.1
  have hcv63 := hI.2.2.1
  have N0 : NuE w w2 O r 1 none 0 0 [] [nt1] := ⟨HD1.out, ⟨rfl, by omega, by omega, fun h => by omega⟩, fun b off e => (by cases e), HO1.out, HB1.out⟩
  have I0 : Hid (NuE w w3 O r 1 av n cv (txt n) [nt1] ∧ idsR 1 [nt1] ∧ shR [nt1]) := ⟨N0.textS b2 hS hβ, idsR.one, fun m hm => by rw [List.mem_singleton.1 hm]; rfl⟩
  have hwf : Hid (∀ x ∈ txt n, wfE x) := wf_txt n (by omega)
  clear hS hβ b2 HD1 HO1 HB1 hI N0
  generalize txt n = xs0 at *
  go_wp2_with fail
  go_loopw [11, 12] (fun cn i wr => ∃ m j : Nat, 1 ≤ m ∧ m ≤ 256 ∧ j ≤ nT ∧ cn = .int .i64 m ∧ i = .int .i64 j ∧ ∃ O Ns, Hid (NuE w wr O r m av n cv xs0 Ns ∧ idsR m Ns ∧ shR Ns)) (fun cn _ _ => 256 - (intOf cn).toNat)
  case atStart => exact ⟨1, 0, by omega, by omega, by omega, rfl, rfl, _, _, I0⟩
  case round =>
    obtain ⟨m, j, hm1, hm2, hj, rfl, rfl, O, Ns, HI⟩ := hrel
    clear I0
    by_cases hlt : j + 1 < nT ∧ m < 256
    · obtain ⟨hlt1, hlt2⟩ := hlt
      obtain ⟨ab, off, rfl, hab, p0⟩ := HT.out.at j (by rw [HTL.out]; omega)
      obtain ⟨ab', off', e', -, p1⟩ := HT.out.at (j + 1) (by rw [HTL.out]; omega)
      injection e' with e'
      injection e' with e1 e2
      subst e1 e2
      have BL := HI.out.1.low
      have p0 := (BL.cell (p := ⟨ab, off + j, none⟩) hab).trans p0
      have p1 := (BL.cell (p := ⟨ab, off + (j + 1), none⟩) hab).trans p1
      generalize ts[j]'(by rw [HTL.out]; omega) = x at *
      generalize ts[j + 1]'(by rw [HTL.out]; omega) = y at *
      have hab' := Nat.lt_of_lt_of_le hab BL.size
      have P0 := hd p0
      have P1 := hd p1
      have i1 : (j : Int) + 1 < (nT : Int) := by omega
      have i2 : (m : Int) < 256 := by omega
      clear BL p0 p1
      go_upto_region 10 with fail
      go_cut [13, 14] (fun id e wx => id = .int .i64 ((m + 1 : Nat) : Int) ∧ e = .int .i64 0 ∧ Hid (LpP wr wx O r m Ns n xs0))
      case first =>
        refine regLpC _ wr O r m n cv j ab off nT cT av Ns xs0 x y HI.out.1.bd HI.out.1.ie hwf.out (by omega) (by omega) hlt2 hlt1 hTc hT63 hab' P0.out P1.out (by simp) rfl rfl rfl rfl ?_
        intro L val u hL hW hV
        have v15 : val 15 = .int .i64 ((m + 1 : Nat) : Int) := by
          rcases hV 15 with h | h | h
          · cases h
          · exact (Option.some.inj h).symm
          · exact absurd (by decide) h
        have v16 : val 16 = .int .i64 0 := by
          rcases hV 16 with h | h | h
          · cases h
          · exact (Option.some.inj h).symm
          · exact absurd (by decide) h
        have Z := hd (hW.2 (hL 11 (by omega)))
        clear hW hV hL
        simp only [slLpC, DLpC, List.getD_cons_zero, List.getD_cons_succ, List.map_cons, List.map_nil, puts, List.foldl_cons, List.foldl_nil, Act.put, List.setIfInBounds_toArray, List.set_cons_succ, List.set_cons_zero]
        rw [v15, v16]
        go_wp2_with fail
        go_meet
        exact ⟨rfl, rfl, Z⟩
      case rest =>
        obtain ⟨rfl, rfl, HP⟩ := hcut
        obtain ⟨f, t, -, -, hN⟩ := HP.out
        obtain ⟨O', hS'⟩ := HI.out.1.now hN
        obtain ⟨es, hes⟩ : ∃ es, (xs0.drop f).take (t - f) = es := ⟨_, rfl⟩
        rw [hes] at hS'
        have H5 := hd hS'
        have HID := hd (HI.out.2.1.snoc ⟨m + 1, 5, wB, false, [], es⟩ rfl rfl)
        have HSR := hd HI.out.2.2
        have em : ((m + 1 : Nat) : Int) = (m : Int) + 1 := by omega
        rw [em]
        clear HP hN hS' HI P0 P1 hes
        by_cases h3 : (m + 1) % 3 = 0
        · have g3 : ((m : Int) + 1).tmod 3 = 0 := by rw [← em, Int.tmod_eq_emod_of_nonneg (by omega)]; omega
          have CS := hd (show Calls Try.prog 13 #[.pointer (some ⟨r, 0, none⟩), .int .i64 ((m : Int) + 1)] wc _ from shut_good O' r (m + 1) Ns [] ⟨m + 1, 5, wB, false, [], es⟩ wc H5.out.bd rfl)
          go_wp2_with fail
          refine CS.out.mono ?_
          rintro e w7 ⟨rfl, hN⟩
          obtain ⟨O7, hS7⟩ := H5.out.now hN
          have Z : Hid (NuE w w7 O7 r (m + 1) av n cv xs0 (Ns ++ [⟨m + 1, 5, wB, true, [], es⟩]) ∧ idsR (m + 1) (Ns ++ [⟨m + 1, 5, wB, true, [], es⟩]) ∧ shR (Ns ++ [⟨m + 1, 5, wB, true, [], es⟩])) := ⟨hS7, HID.out.shut, HSR.out.snoc _ (by simp [h3])⟩
          clear CS hN hS7 H5 HID HSR em
          go_wp2
          exact ⟨⟨m + 1, j + 2, by omega, by omega, by omega, congrArg (Value.int .i64) (by omega), congrArg (Value.int .i64) (by omega), O7, _, Z⟩, by simp [intOf]; omega⟩
        · have g3 : ¬ ((m : Int) + 1).tmod 3 = 0 := by rw [← em, Int.tmod_eq_emod_of_nonneg (by omega)]; omega
          have Z : Hid (NuE w wc O' r (m + 1) av n cv xs0 (Ns ++ [⟨m + 1, 5, wB, false, [], es⟩]) ∧ idsR (m + 1) (Ns ++ [⟨m + 1, 5, wB, false, [], es⟩]) ∧ shR (Ns ++ [⟨m + 1, 5, wB, false, [], es⟩])) := ⟨H5.out, HID.out, HSR.out.snoc _ (by simp [h3])⟩
          clear H5 HID HSR em
          go_wp2
          exact ⟨⟨m + 1, j + 2, by omega, by omega, by omega, congrArg (Value.int .i64) (by omega), congrArg (Value.int .i64) (by omega), O', _, Z⟩, by simp [intOf]; omega⟩
    · have hcut : (nT : Int) ≤ (j : Int) + 1 ∨ ((j : Int) + 1 < (nT : Int) ∧ (256 : Int) ≤ (m : Int)) := by omega
      obtain ⟨w7, rfl⟩ : ∃ u, u = wr := ⟨wr, rfl⟩
      go_upto_region 8 with fail
      go_cut [41] (fun b wx => b = .bool false ∧ wx = w7)
      case first =>
        rcases hcut with h | ⟨h, h'⟩
        · go_wp2
          go_meet
          exact ⟨rfl, rfl⟩
        · go_wp2
          go_meet
          exact ⟨congrArg Value.bool (by simp; omega), rfl⟩
      case rest =>
        obtain ⟨rfl, rfl⟩ := hcut
        obtain ⟨w7, rfl⟩ : ∃ u, u = wc := ⟨wc, rfl⟩
        clear hlt HT HTL
        obtain ⟨v1, u1, a2, c2, u2, β2, r1, r2, S2, hβ2, b8⟩ := two_apps (HW.out.below HI.out.1.low) HI.out.1.ie hW24 hn2
        have N2 := hd (HI.out.1.textS b8 S2 hβ2)
        have HX := hd (show idsR m Ns ∧ shR Ns ∧ ∀ x ∈ ws ++ xs0, wfE x from ⟨HI.out.2.1, HI.out.2.2, fun x hx => (List.mem_append.1 hx).elim (HWF.out x) (hwf.out x)⟩)
        generalize ws ++ xs0 = xs at *
        have hN : nW + n ≤ 5864062020000 := by omega
        clear HI S2 hβ2 b8 HW HWL HWF
        go_wp2_with (at_builtin; first | refine wpList_append_k _ rfl _ _ 23 23 rfl _ _ rfl rfl (r1 _) ?_ | refine wpList_append_k _ rfl _ _ 23 23 rfl _ _ rfl rfl (r2 _) ?_)
        have CA := hd (all_any O r m Ns u2 N2.out.bd a2 (nW + n) c2 xs N2.out.ie HX.out.2.2 HX.out.1.room)
        clear r1 r2
        refine CA.out.mono ?_
        rintro e w10 ⟨v0, rfl, hA, b10⟩
        obtain ⟨b0, L, hS0, hLn⟩ := SwL.start N2.out b10 hA
        obtain ⟨a0, c0, rfl, hc0, hc063⟩ := hS0.be.form
        have hLm : L.length = m := by rw [← HX.out.1.len, ← hLn, List.length_map]
        have HLn := hd hLn
        have HS0 := hd hS0
        rw [hLm] at HS0 hc0 ⊢
        clear CA hA b10 hS0 hLn N2
        go_wp2_with fail
        go_loopw [16] (fun i wr => ∃ q : Nat, q ≤ m ∧ i = .int .i64 q ∧ Hid (Below w10.heap.size w10 wr)) (fun i _ => m - (intOf i).toNat)
        case atStart => exact ⟨0, Nat.zero_le _, rfl, hd (Below.refl _ _)⟩
        case round =>
          obtain ⟨q, hq, rfl, HB⟩ := hrel
          by_cases hlt : q < m
          · have k1 : q < L.length := by rw [hLm]; exact hlt
            have k2 : q < Ns.length := by rw [HX.out.1.len]; exact hlt
            have en : L[q].n = Ns[q] := by
              have := congrArg (fun l => l[q]?) HLn.out
              simp only [List.getElem?_map, List.getElem?_eq_getElem k1, List.getElem?_eq_getElem k2, Option.map_some] at this
              exact Option.some.inj this
            have eid : ((Ns[q].id : Nat) : Int) = (q : Int) + 1 := by rw [HX.out.1.get q k2]; omega
            have esh : Ns[q].sh = decide ((q + 1) % 3 = 0) := by rw [HX.out.2.1 _ (List.getElem_mem k2), HX.out.1.get q k2]
            have ht := (HS0.out.ts L[q] (List.getElem_mem k1)).s
            have NB1 := HS0.out.nu.below HB.out
            have hsp : Ns = Ns.take q ++ Ns[q] :: Ns.drop (q + 1) := by rw [← List.drop_eq_getElem_cons k2, List.take_append_drop]
            have hbd := NB1.bd
            rw [hsp] at hbd
            have CL := hd (look_good O r m _ _ _ wr hbd a2 (nW + n) c2 xs NB1.ie HX.out.2.2 (HX.out.1.room _ (List.getElem_mem k2)))
            rw [eid] at CL
            have HT := hd ht
            have CC := hd (fun W (hW : Below w10.heap.size w10 W) => tn_cells (HS0.out.be.fr (S := fun _ => False) (Fr.of_below hW) (fun _ _ h => h)) q k1)
            clear NB1 hbd hsp ht
            generalize Ns[q] = nn at *
            generalize L[q] = t at *
            subst en
            have EID := hd eid
            have ESH := hd esh
            clear eid esh
            have i1 : (q : Int) < (m : Int) := by omega
            go_wp2_with fail
            refine CL.out.mono ?_
            rintro e w11 ⟨ul, βl, rfl, hSl, -, b11⟩
            obtain ⟨al, cl', hvl, -, -⟩ := hSl.form
            subst hvl
            have CQ : Hid (∀ W, Below w11.heap.size w11 W → Calls Try.prog 16 #[.agg (ntA t.n (reachP xs t.n.el) (.slice al t.n.sd.length cl')), .agg (tnc t).toArray] W fun e w' => e = .returned (.bool true) ∧ Below W.heap.size W w') := fun W hW => TNs.eq (t := ⟨t.n, reachP xs t.n.el, al, t.n.sd.length, cl'⟩) ⟨rfl, βl, hSl.fr (S := fun _ => False) (Fr.of_below hW) (fun _ _ h => h)⟩ (HT.out.fr0 (HB.out.trans ((b11.trans (hW.mono b11.size)).mono HB.out.size))) rfl
            generalize reachP xs t.n.el = rp at *
            obtain ⟨rf, rt⟩ := rp
            simp only [ntA, tnc] at CQ
            simp only [ntA]
            obtain ⟨sl, hsl⟩ : ∃ sl, t.n.sd.length = sl := ⟨_, rfl⟩
            rw [hsl] at CQ
            rw [hsl]
            have bA : Below w11.heap.size w11 (w11.alloc (.cells #[.int .i64 (t.n.id : Int), .int .i64 t.n.cl, .string t.n.wo, .int .i64 (rf : Int), .int .i64 (rt : Int), .bool ((rf : Int) == (rt : Int)), .bool t.n.sh, .slice al sl cl'] 37)) := (Below.refl _ _).alloc (Nat.le_refl _) _
            have hA := heap_alloc_new w11 (.cells #[.int .i64 (t.n.id : Int), .int .i64 t.n.cl, .string t.n.wo, .int .i64 (rf : Int), .int .i64 (rt : Int), .bool ((rf : Int) == (rt : Int)), .bool t.n.sh, .slice al sl cl'] 37)
            have HBA := hd bA
            have HB12 := hd (HB.out.trans ((b11.trans (bA.mono b11.size)).mono HB.out.size))
            clear hSl CL bA b11 HB HT hsl
            go_upto_region 24 with fail
            generalize w11.alloc (.cells #[.int .i64 (t.n.id : Int), .int .i64 t.n.cl, .string t.n.wo, .int .i64 (rf : Int), .int .i64 (rt : Int), .bool ((rf : Int) == (rt : Int)), .bool t.n.sh, .slice al sl cl'] 37) = w12 at *
            obtain ⟨g, rfl, cs⟩ := CC.out w12 HB12.out
            have x0 := cs 0 (by omega); have x1 := cs 1 (by omega); have x2 := cs 2 (by omega); have x3 := cs 3 (by omega)
            have x4 := cs 4 (by omega); have x5 := cs 5 (by omega); have x6 := cs 6 (by omega); have x7 := cs 7 (by omega)
            have y0 := cell_row hA 0; have y1 := cell_row hA 1; have y2 := cell_row hA 2; have y3 := cell_row hA 3
            have y4 := cell_row hA 4; have y5 := cell_row hA 5; have y6 := cell_row hA 6; have y7 := cell_row hA 7
            simp only [tnc, Nat.add_zero, List.getElem?_cons_zero, List.getElem?_cons_succ] at x0 x1 x2 x3 x4 x5 x6 x7
            simp only [List.getElem?_toArray, List.getElem?_cons_zero, List.getElem?_cons_succ] at y0 y1 y2 y3 y4 y5 y6 y7
            rw [EID.out] at x0 y0 CQ
            have CQ2 : Hid (∀ W, Below w12.heap.size w12 W → _) := fun W hW => CQ.out W (HBA.out.trans (hW.mono HBA.out.size))
            clear cs hA CQ CC
            generalize hal : w11.heap.size = gA at *
            obtain ⟨w13, rfl⟩ : ∃ u, u = w12 := ⟨w12, rfl⟩
            generalize t.n.id = tid at *
            go_cut [134] (fun b wx => b = .bool false ∧ Hid (Below w13.heap.size w13 wx))
            case first =>
              by_cases hq0 : (0 : Int) < (q : Int)
              · by_cases h3 : (q + 1) % 3 = 0
                · have g3 : Hid (((q : Int) + 1).tmod 3 = 0) := by unfold Hid; rw [Int.tmod_eq_emod_of_nonneg (by omega)]; omega
                  have hsT : t.n.sh = true := by rw [ESH.out]; simp [h3]
                  rw [hsT] at y6 x6 CQ2
                  have hpos := hd hq0
                  clear hq0 h3 hsT
                  refine wp_ops (o' := opsCoA) (by kernel_rfl) ?_
                  refine regCoA _ w13 q m c0 g gA sl cl' t.l t.c al t.a t.n.cl rf rt t.s.1 t.s.2 0 t.n.wo _ _ hlt hm2 (cell_in x0) (cell_in y0) y0 y1 y2 y3 y4 y5 y6 y7 x0 x1 x2 x3 x4 x5 x6 x7 CQ2.out hpos g3 trivial (by simp) rfl rfl rfl rfl ?_
                  intro L' val u hL' hW' hV'
                  have v33 : val 33 = .bool false := by
                    rcases hV' 33 with h | h | h
                    · cases h
                    · exact (Option.some.inj h).symm
                    · exact absurd (by decide) h
                  have Z : Hid (Below w13.heap.size w13 u) := hW'
                  clear hW' hV' hL' x0 x1 x2 x3 x4 x5 x6 x7 y0 y1 y2 y3 y4 y5 y6 y7 CQ2
                  simp only [slCoA, DCoA, List.getD_cons_zero, List.getD_cons_succ, List.map_cons, List.map_nil, puts, List.foldl_cons, List.foldl_nil, Act.put, List.setIfInBounds_toArray, List.set_cons_succ, List.set_cons_zero]
                  rw [v33]
                  go_wp2_with fail
                  go_meet
                  exact ⟨rfl, Z⟩
                · have g3 : Hid (¬ ((q : Int) + 1).tmod 3 = 0) := by unfold Hid; rw [Int.tmod_eq_emod_of_nonneg (by omega)]; omega
                  have hsT : t.n.sh = false := by rw [ESH.out]; simp [h3]
                  rw [hsT] at y6 x6 CQ2
                  have hpos := hd hq0
                  clear hq0 h3 hsT
                  refine wp_ops (o' := opsCoB) (by kernel_rfl) ?_
                  refine regCoB _ w13 q m c0 g gA sl cl' t.l t.c al t.a t.n.cl rf rt t.s.1 t.s.2 _ t.n.wo _ _ hlt hm2 (cell_in x0) (cell_in y0) y0 y1 y2 y3 y4 y5 y6 y7 x0 x1 x2 x3 x4 x5 x6 x7 CQ2.out hpos (hd rfl) g3 (by simp) rfl rfl rfl rfl ?_
                  intro L' val u hL' hW' hV'
                  have v33 : val 33 = .bool false := by
                    rcases hV' 33 with h | h | h
                    · cases h
                    · exact (Option.some.inj h).symm
                    · exact absurd (by decide) h
                  have Z : Hid (Below w13.heap.size w13 u) := hW'
                  clear hW' hV' hL' x0 x1 x2 x3 x4 x5 x6 x7 y0 y1 y2 y3 y4 y5 y6 y7 CQ2
                  simp only [slCoB, DCoB, List.getD_cons_zero, List.getD_cons_succ, List.map_cons, List.map_nil, puts, List.foldl_cons, List.foldl_nil, Act.put, List.setIfInBounds_toArray, List.set_cons_succ, List.set_cons_zero]
                  rw [v33]
                  go_wp2_with fail
                  go_meet
                  exact ⟨rfl, Z⟩
              · have hsT : t.n.sh = false := by rw [ESH.out]; simp; omega
                rw [hsT] at y6 x6 CQ2
                have hpos := hd hq0
                clear hq0 hsT
                refine wp_ops (o' := opsCoC) (by kernel_rfl) ?_
                refine regCoC _ w13 q m c0 g gA sl cl' t.l t.c al t.a t.n.cl rf rt t.s.1 t.s.2 0 t.n.wo _ _ hlt hm2 (cell_in x0) (cell_in y0) y0 y1 y2 y3 y4 y5 y6 y7 x0 x1 x2 x3 x4 x5 x6 x7 CQ2.out hpos (by simp) rfl rfl rfl rfl ?_
                intro L' val u hL' hW' hV'
                have v33 : val 33 = .bool false := by
                  rcases hV' 33 with h | h | h
                  · cases h
                  · exact (Option.some.inj h).symm
                  · exact absurd (by decide) h
                have Z : Hid (Below w13.heap.size w13 u) := hW'
                clear hW' hV' hL' x0 x1 x2 x3 x4 x5 x6 x7 y0 y1 y2 y3 y4 y5 y6 y7 CQ2
                simp only [slCoC, DCoC, List.getD_cons_zero, List.getD_cons_succ, List.map_cons, List.map_nil, puts, List.foldl_cons, List.foldl_nil, Act.put, List.setIfInBounds_toArray, List.set_cons_succ, List.set_cons_zero]
                rw [v33]
                go_wp2_with fail
                go_meet
                exact ⟨rfl, Z⟩
            case rest =>
              obtain ⟨rfl, HZ⟩ := hcut
              have Z := hd (HB12.out.trans (HZ.out.mono HB12.out.size))
              clear x0 x1 x2 x3 x4 x5 x6 x7 y0 y1 y2 y3 y4 y5 y6 y7 CQ2 HB12 HZ
              go_wp2
              exact ⟨⟨q + 1, hlt, rfl, Z⟩, by simp [intOf]; omega⟩
          · have hqm : q = m := by omega
            subst hqm
            have HSP := hd (show ∀ t ∈ L, t.s = reachP xs t.n.el from fun t ht => (HS0.out.ts t ht).1)
            have C0 : Hid (CvL w wr O r q a2 (nW + n) c2 xs Ns b0 (.slice a0 q c0) L none (.slice none 0 0) []) := ⟨HS0.out.nu.below HB.out, HS0.out.be.fr (S := fun _ => False) (Fr.of_below HB.out) (fun _ _ h => h), ⟨rfl, rfl⟩, fun k hk => (by cases hk)⟩
            clear HS0 HB hlt
            go_wp2_with fail
            go_loopw [19] (fun i wr => ∃ pz : Int, -1 ≤ pz ∧ pz ≤ (nW : Int) + (n : Int) + 1 ∧ i = .int .i64 pz ∧ Hid (CvL w wr O r q a2 (nW + n) c2 xs Ns b0 (.slice a0 q c0) L none (.slice none 0 0) [])) (fun i _ => (nW + n + 2) - (intOf i + 1).toNat)
            case atStart => exact ⟨-1, by omega, by omega, rfl, C0⟩
            case round =>
              obtain ⟨pz, hp1, hp2, rfl, HC⟩ := hrel
              clear C0
              by_cases hle : pz ≤ (nW : Int) + (n : Int)
              · go_wp2_with fail
                go_loopw [20, 21] (fun v i wr => ∃ k : Nat, k ≤ q ∧ i = .int .i64 k ∧ ∃ b1, Hid (CvL w wr O r q a2 (nW + n) c2 xs Ns b0 (.slice a0 q c0) L b1 v (((L.take k).filter (cvT pz)).map (fun t => (t.n.id : Int))))) (fun _ i _ => q - (intOf i).toNat)
                case atStart => exact ⟨0, Nat.zero_le _, rfl, none, HC⟩
                case round =>
                  obtain ⟨k, hk, rfl, b1, HJ⟩ := hrel
                  clear HC
                  by_cases hlt : k < q
                  · have k1 : k < L.length := by rw [hLm]; exact hlt
                    obtain ⟨g, rfl, cs⟩ := tn_cells HJ.out.be k k1
                    have hfl := hd (take_mf (cvT pz) (fun t => (t.n.id : Int)) L k k1)
                    have hAl : (((L.take k).filter (cvT pz)).map (fun t => (t.n.id : Int))).length + 1 ≤ 100000 := by
                      have := List.length_filter_le (cvT pz) (L.take k)
                      rw [List.length_take] at this
                      rw [List.length_map]
                      omega
                    obtain ⟨v', w', β', hrun, hSw⟩ := HJ.out.push (L[k].n.id : Int) hAl
                    have HS := hd hSw
                    obtain ⟨a1, c1, hv1, -, -⟩ := HJ.out.wa.form
                    subst hv1
                    generalize hln : (((L.take k).filter (cvT pz)).map (fun t => (t.n.id : Int))).length = ln at *
                    clear hln
                    have x0 := cs 0 (by omega); have x3 := cs 3 (by omega); have x4 := cs 4 (by omega); have x5 := cs 5 (by omega); have x6 := cs 6 (by omega)
                    clear cs hSw hAl
                    generalize L[k] = t at *
                    simp only [tnc, Nat.add_zero, List.getElem?_cons_zero, List.getElem?_cons_succ] at x0 x3 x4 x5 x6
                    have hcv : Hid (cvT pz t = (!t.n.sh && (!((t.s.1 : Int) == (t.s.2 : Int)) && (decide ((t.s.1 : Int) ≤ pz) && decide (pz < (t.s.2 : Int)))))) := rfl
                    generalize ((t.s.1 : Int) == (t.s.2 : Int)) = gn at *
                    have i1 : (k : Int) < (q : Int) := by omega
                    obtain ⟨w11, rfl⟩ : ∃ u, u = wr := ⟨wr, rfl⟩
                    go_upto_region 33 with fail
                    go_cut [177] (fun b wx => b = .bool (cvT pz t) ∧ wx = w11)
                    case first =>
                      cases hsh : t.n.sh with
                      | true =>
                        rw [hsh] at x6
                        go_wp2
                        go_meet
                        exact ⟨congrArg Value.bool (show false = cvT pz t by rw [hcv.out, hsh]; rfl), rfl⟩
                      | false =>
                        rw [hsh] at x6
                        cases hgn : gn with
                        | true =>
                          rw [hgn] at x5
                          go_wp2
                          go_meet
                          exact ⟨congrArg Value.bool (show false = cvT pz t by rw [hcv.out, hsh, hgn]; rfl), rfl⟩
                        | false =>
                          rw [hgn] at x5
                          by_cases h1 : (t.s.1 : Int) ≤ pz
                          · go_wp2
                            go_meet
                            exact ⟨congrArg Value.bool (show _ = cvT pz t by rw [hcv.out, hsh, hgn]; simp [h1]), rfl⟩
                          · go_wp2
                            go_meet
                            exact ⟨congrArg Value.bool (show _ = cvT pz t by rw [hcv.out, hsh, hgn]; simp; omega), rfl⟩
                    case rest =>
                      obtain ⟨rfl, rfl⟩ := hcut
                      obtain ⟨w11, rfl⟩ : ∃ u, u = wc := ⟨wc, rfl⟩
                      cases hc : cvT pz t with
                      | true =>
                        have Z : Hid (CvL w w' O r q a2 (nW + n) c2 xs Ns b0 (.slice (some ⟨g, 0, none⟩) q c0) L β' v' (((L.take (k + 1)).filter (cvT pz)).map (fun t => (t.n.id : Int)))) := by
                          have := hfl.out
                          simp only [hc, if_true] at this
                          rw [Hid, this]
                          exact HS.out
                        clear HS HJ hfl hcv
                        go_wp2_with (at_builtin; refine wpList_append_k _ rfl _ _ 22 22 rfl _ _ rfl rfl (hrun _) ?_)
                        exact ⟨⟨k + 1, hlt, rfl, _, Z⟩, by simp [intOf]; omega⟩
                      | false =>
                        have Z : Hid (CvL w w11 O r q a2 (nW + n) c2 xs Ns b0 (.slice (some ⟨g, 0, none⟩) q c0) L b1 (.slice a1 ln c1) (((L.take (k + 1)).filter (cvT pz)).map (fun t => (t.n.id : Int)))) := by
                          have := hfl.out
                          simp only [hc, Bool.false_eq_true, if_false, List.append_nil] at this
                          rw [Hid, this]
                          exact HJ.out
                        clear HS HJ hfl hrun hcv
                        go_wp2
                        exact ⟨⟨k + 1, hlt, rfl, _, Z⟩, by simp [intOf]; omega⟩
                  · have hkq : k = q := by omega
                    subst hkq
                    obtain ⟨w20, rfl⟩ : ∃ u, u = wr := ⟨wr, rfl⟩
                    have HJ2 := HJ.out
                    rw [List.take_of_length_le (by omega), cv_list HLn.out HSP.out] at HJ2
                    have H2 := hd HJ2
                    have CT := hd (at_any O r k Ns w20 HJ2.nu.bd a2 (nW + n) c2 xs HJ2.nu.ie HX.out.2.2 pz)
                    clear HJ HJ2 hlt
                    go_wp2_with fail
                    refine CT.out.mono ?_
                    rintro e w21 ⟨v21, β21, rfl, hS21, -, b21⟩
                    have H3 := hd (H2.out.below b21)
                    have CE := hd (eqInts_true v21 _ β21 b1 (atP xs pz Ns) w21 hS21 H3.out.wa)
                    clear CT H2 hS21 b21
                    go_wp2_with fail
                    refine CE.out.mono ?_
                    rintro e w22 ⟨rfl, mm, rfl⟩
                    have H4 := H3.out.below (below_drewN (Below.refl _ _) mm)
                    have Z : Hid (CvL w (w21.drewN mm) O r k a2 (nW + n) c2 xs Ns b0 (.slice a0 k c0) L none (.slice none 0 0) []) := ⟨H4.nu, H4.be, ⟨rfl, rfl⟩, fun k hk => (by cases hk)⟩
                    clear CE H3 H4
                    generalize w21.drewN mm = w23 at *
                    go_wp2
                    exact ⟨⟨pz + 1, by omega, by omega, rfl, Z⟩, by simp [intOf]; omega⟩
              · go_wp2
                go_ret
                exact ⟨rfl, HC.out.nu.low⟩

end Go.Proofs.Ytkkklfnooeofcaa
