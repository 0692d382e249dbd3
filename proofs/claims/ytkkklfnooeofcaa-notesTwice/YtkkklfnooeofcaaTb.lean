/-
  NotesTwice, walked.
-/
import Derived.Test.YtkkklfnooeofcaaTa
namespace Go.Proofs.Ytkkklfnooeofcaa
open Go.RowKit Go.Maps Go.ChangeMaps Go.MapKept Go.WideMaps
set_option linter.unusedVariables false

def ntW (es : List El) : Nt := ⟨1, 5, wB, false, [], es⟩
/-- A board with one note, and two texts. -/
def TwI (w wr : World) (r : Nat) (v v2 : Value) (xs ys es : List El) : Prop :=
  (∃ O, BD wr O r 1 ([] ++ ntW es :: [])) ∧ (∃ β, SE wr β v xs) ∧ (∃ β, SE wr β v2 ys) ∧ Below w.heap.size w wr
theorem TwI.below {w wr u : World} {r : Nat} {v v2 : Value} {xs ys es : List El} (h : TwI w wr r v v2 xs ys es) (hb : Below wr.heap.size wr u) : TwI w u r v v2 xs ys es := by
  obtain ⟨⟨O, h1⟩, ⟨β, h2⟩, ⟨γ, h3⟩, h4⟩ := h
  exact ⟨⟨O, h1.below hb⟩, ⟨β, h2.below hb⟩, ⟨γ, h3.below hb⟩, h4.trans (hb.mono h4.size)⟩
/-- What is known of a text: how long, its elements. -/
def TxP (xs : List El) (m : Nat) : Prop := xs.length ≤ m ∧ ∀ x ∈ xs, wfE x

set_option maxRecDepth 100000 in
set_option maxHeartbeats 4000000 in
theorem twice_any (x0 x1 x2 : Int) (a : Option Addr) (nT cT : Nat) (ts : List (Bool × Int)) (a' : Option Addr) (nU cU : Nat) (us : List (Bool × Int)) (w : World) (hT : IsT w a nT cT ts) (hU : IsT w a' nU cU us) :
    Calls Try.prog 5 #[.int .i64 x0, .int .i64 x1, .int .i64 x2, .slice a nT cT, .slice a' nU cU] w fun e w' => e = .returned (.bool true) ∧ Below w.heap.size w w' := by
  have HT := hd hT
  have HTL := hd hT.1
  have hTc := hT.2.1
  have hT63 := hT.2.2.1
  have HU := hd hU
  have HUL := hd hU.1
  have hUc := hU.2.1
  have hU63 := hU.2.2.1
  clear hT hU
  go_enter Try.func5, Try.ntmps5
  go_wp2_with fail
  refine (lwithin_any x0 1 200 _ (by omega) (by omega) (by omega)).mono ?_
  rintro e w2 ⟨n0, rfl, hn0, rfl⟩
  obtain ⟨n, rfl⟩ : ∃ n : Nat, n0 = n := ⟨n0.toNat, by have := hn0.1; omega⟩
  have hn1 : 1 ≤ n := by have := hn0.1; omega
  have hn2 : n ≤ 200 := by have := hn0.2.1; omega
  clear hn0
  go_wp2_with fail
  refine (text_any n _ (by omega)).mono ?_
  rintro e w3 ⟨v, rfl, β, hS, hβ, b3⟩
  have HS := hd hS
  have HB3 := hd b3
  have HZ3 := hd b3.size
  obtain ⟨av, cv, hv, -, -⟩ := hS.form
  rw [txt_len] at hv
  subst hv
  clear hS hβ b3
  go_wp2_with fail
  refine (new_any w3).mono ?_
  rintro e w4 ⟨r, O, rfl, hD, hO, b4⟩
  obtain ⟨a1, c1, hv1, hI1, -⟩ := (sf_se HS.out).form
  have hI4 : IsE w4 av n cv (txt n) := by
    rw [txt_len] at hv1 hI1
    injection hv1 with e1 e2 e3
    subst e1
    subst e3
    exact hI1.below b4
  have CP := hd (lput_any O r 0 [] w4 hD av n cv (txt n) hI4 (wf_txt n (by omega)) x1 x2 hn1 (by omega) (by omega))
  have HS4 := hd (HS.out.fr (S := fun _ => False) (Fr.of_below b4) (fun _ _ h => h))
  have HB4 := hd (HB3.out.trans (b4.mono HB3.out.size))
  have HO := hd hO
  have HSL := hd (HS.out.lt)
  clear hD hO b4 hI4 hv1 hI1 HS HB3
  go_wp2_with fail
  refine CP.out.mono ?_
  rintro e w5 ⟨f, t, hft, htn, rfl, O5, hD5, hO5, hF5⟩
  have hS5 := HS4.out.fr hF5 (fun k hk ho => by have := HO.out k ho; have := HSL.out k hk; omega)
  have hB5 := HB4.out.trans (hF5.below HB4.out.size (fun k hk => by have := HO.out k hk; have := HZ3.out; omega))
  have I5 : Hid (TwI w2 w5 r (.slice av n cv) (.slice av n cv) (txt n) (txt n) (rng n f t) ∧ TxP (txt n) (200 + 0)) := ⟨⟨⟨O5, hD5⟩, ⟨β, sf_se hS5⟩, ⟨β, sf_se hS5⟩, hB5⟩, by rw [TxP, txt_len]; exact ⟨by omega, wf_txt n (by omega)⟩⟩
  have HNEW := hd (fun k => rng_new (n := n) (f := f) (t := t) (k := k) (by omega) htn (by omega))
  clear hD5 hS5 hB5 hO5 hF5 CP HS4 HB4 HO HSL HZ3
  generalize rng n f t = es at *
  go_wp2_with fail
  go_loopw [11, 15] (fun v i wx => ∃ k : Nat, k ≤ nT ∧ k ≤ 1000 ∧ i = .int .i64 k ∧ ∃ xs, Hid (TwI w2 wx r v v xs xs es ∧ TxP xs (200 + k))) (fun _ i _ => nT - (intOf i).toNat)
  case atStart => exact ⟨0, Nat.zero_le _, by omega, rfl, _, I5⟩
  case round =>
    obtain ⟨k, hk, hk2, rfl, xs, HI⟩ := hrel
    clear I5
    by_cases hlt : k < nT ∧ k < 1000
    · obtain ⟨hlt1, hlt2⟩ := hlt
      have hkt : k < ts.length := by rw [HTL.out]; exact hlt1
      obtain ⟨ab, off, rfl, hab, p0, p1⟩ := HT.out.at k hkt
      have BL := HI.out.1.2.2.2
      have p0 := (BL.cell (p := ⟨ab, off + k * 2, none⟩) hab).trans p0
      have p1 := (BL.cell (p := ⟨ab, off + k * 2 + 1, none⟩) hab).trans p1
      generalize ts[k] = tk at *
      obtain ⟨out, N⟩ := tk
      simp only at p0 p1
      obtain ⟨βd, hSd⟩ := HI.out.1.2.1
      obtain ⟨ad, cd, hvd, hEd, -⟩ := hSd.form
      subst hvd
      have CT := hd (turned_any ad xs.length cd xs out N k wr hEd (by have := HI.out.2.1; omega) (by omega))
      clear hSd hEd BL
      go_wp2_with fail
      refine CT.out.mono ?_
      rintro e w8 ⟨v8, pos, del, ys, rfl, hO8, hTu, -, b8⟩
      obtain ⟨gd, cd8, -, hv8, hR8⟩ := hO8.form
      subst hv8
      have Z : Hid (TwI w2 w8 r (.slice (some ⟨gd, 0, none⟩) ys.length cd8) (.slice (some ⟨gd, 0, none⟩) ys.length cd8) ys ys es ∧ TxP ys (200 + (k + 1))) := by
        have hh := HI.out.1.below b8
        exact ⟨⟨hh.1, ⟨some gd, cd8, rfl, hR8⟩, ⟨some gd, cd8, rfl, hR8⟩, hh.2.2.2⟩, by have := hTu.len; have := HI.out.2.1; omega, hTu.wf (by omega) HI.out.2.2⟩
      clear HI CT hO8 hR8 hTu b8
      go_wp2
      exact ⟨⟨k + 1, hlt1, hlt2, rfl, ys, Z⟩, by simp [intOf]; omega⟩
    · have hcut : (nT : Int) ≤ (k : Int) ∨ ((k : Int) < (nT : Int) ∧ (1000 : Int) ≤ (k : Int)) := by omega
      obtain ⟨w7, rfl⟩ : ∃ u, u = wr := ⟨wr, rfl⟩
      go_upto_region 10 with fail
      go_cut [58] (fun b wx => b = .bool false ∧ wx = w7)
      case first =>
        rcases hcut with h | ⟨h, h'⟩
        · go_wp2
          go_meet
          exact ⟨rfl, rfl⟩
        · go_wp2
          go_meet
          exact ⟨congrArg Value.bool (by simp; omega), rfl⟩
      case rest =>
        obtain ⟨rfl, rfl⟩ := hcut
        obtain ⟨w7, rfl⟩ : ∃ u, u = wc := ⟨wc, rfl⟩
        clear hlt
        have J0 : Hid (TwI w2 w7 r u11 u11 xs xs es ∧ TxP xs 1200 ∧ TxP xs (1200 + 0)) := ⟨HI.out.1, ⟨by have := HI.out.2.1; omega, HI.out.2.2⟩, ⟨by have := HI.out.2.1; omega, HI.out.2.2⟩⟩
        clear HI
        obtain ⟨vd, rfl⟩ : ∃ u, u = u11 := ⟨u11, rfl⟩
        go_wp2_with fail
        go_loopw [20, 21] (fun v i wx => ∃ k : Nat, k ≤ nU ∧ k ≤ 1000 ∧ i = .int .i64 k ∧ ∃ ys, Hid (TwI w2 wx r vd v xs ys es ∧ TxP xs 1200 ∧ TxP ys (1200 + k) ∧ xs.filter (inB es) = ys.filter (inB es))) (fun _ i _ => nU - (intOf i).toNat)
        case atStart => exact ⟨0, Nat.zero_le _, by omega, rfl, xs, hd ⟨J0.out.1, J0.out.2.1, J0.out.2.2, rfl⟩⟩
        case round =>
          obtain ⟨q, hq, hq2, rfl, ys, HJ⟩ := hrel
          clear J0
          by_cases hlt : q < nU ∧ q < 1000
          · obtain ⟨hlt1, hlt2⟩ := hlt
            have hkt : q < us.length := by rw [HUL.out]; exact hlt1
            obtain ⟨ab, off, rfl, hab, p0, p1⟩ := HU.out.at q hkt
            have BL := HJ.out.1.2.2.2
            have p1 := (BL.cell (p := ⟨ab, off + q * 2 + 1, none⟩) hab).trans p1
            clear p0
            generalize us[q] = tk at *
            obtain ⟨out, N⟩ := tk
            simp only at p1
            obtain ⟨βd, hSd⟩ := HJ.out.1.2.2.1
            obtain ⟨ad, cd, hvd, hEd, -⟩ := hSd.form
            subst hvd
            have CT := hd (turned_any ad ys.length cd ys false N (1000 + q) wr hEd (by have := HJ.out.2.2.1.1; omega) (by omega))
            have e1000 : ((1000 + q : Nat) : Int) = 1000 + (q : Int) := by omega
            rw [e1000] at CT
            clear hSd hEd BL e1000
            go_wp2_with fail
            refine CT.out.mono ?_
            rintro e w8 ⟨v8, pos, del, zs, rfl, hO8, hTu, hdel, b8⟩
            obtain ⟨gd, cd8, -, hv8, hR8⟩ := hO8.form
            subst hv8
            have Z : Hid (TwI w2 w8 r vd (.slice (some ⟨gd, 0, none⟩) zs.length cd8) xs zs es ∧ TxP xs 1200 ∧ TxP zs (1200 + (q + 1)) ∧ xs.filter (inB es) = zs.filter (inB es)) := by
              have hh := HJ.out.1.below b8
              refine ⟨⟨hh.1, hh.2.1, ⟨some gd, cd8, rfl, hR8⟩, hh.2.2.2⟩, HJ.out.2.1, ⟨by have := hTu.len; have := HJ.out.2.2.1.1; omega, hTu.wf (by omega) HJ.out.2.2.1.2⟩, ?_⟩
              rw [HJ.out.2.2.2]
              obtain ⟨p, -, ⟨h0, -⟩ | ⟨-, -, rfl⟩⟩ := hTu
              · rw [hdel trivial] at h0; cases h0
              · exact (flt_ins (HNEW.out (1000 + q))).symm
            clear HJ CT hO8 hR8 hTu b8 hdel
            go_wp2
            exact ⟨⟨q + 1, hlt1, hlt2, rfl, zs, Z⟩, by simp [intOf]; omega⟩
          · have hcut : (nU : Int) ≤ (q : Int) ∨ ((q : Int) < (nU : Int) ∧ (1000 : Int) ≤ (q : Int)) := by omega
            obtain ⟨w9, rfl⟩ : ∃ u, u = wr := ⟨wr, rfl⟩
            go_upto_region 18 with fail
            go_cut [84] (fun b wx => b = .bool false ∧ wx = w9)
            case first =>
              rcases hcut with h | ⟨h, h'⟩
              · go_wp2
                go_meet
                exact ⟨rfl, rfl⟩
              · go_wp2
                go_meet
                exact ⟨congrArg Value.bool (by simp; omega), rfl⟩
            case rest =>
              obtain ⟨rfl, rfl⟩ := hcut
              obtain ⟨w9, rfl⟩ : ∃ u, u = wc := ⟨wc, rfl⟩
              clear hlt
              obtain ⟨ve, rfl⟩ : ∃ u, u = u20 := ⟨u20, rfl⟩
              obtain ⟨βd, hSd⟩ := HJ.out.1.2.1
              obtain ⟨βe, hSe⟩ := HJ.out.1.2.2.1
              obtain ⟨ad, cd, hvd, hEd, -⟩ := hSd.form
              obtain ⟨ae, ce, hve, hEe, -⟩ := hSe.form
              subst hvd
              subst hve
              obtain ⟨O9, hD9⟩ := HJ.out.1.1
              have CL := hd (look_good O9 r 1 [] [] (ntW es) w9 hD9 ad _ cd xs hEd HJ.out.2.1.2 (show roomy 0 24 from ⟨by decide, by decide⟩))
              have HEd := hd hEd
              have HEe := hd hEe
              have HD9 := hd hD9
              clear hSd hSe hD9 hEd hEe
              go_wp2_with fail
              refine CL.out.mono ?_
              rintro e w10 ⟨ul, βl, rfl, hSl, -, b10⟩
              obtain ⟨al, cl', hvl, -, -⟩ := hSl.form
              subst hvl
              clear hSl CL
              simp only [ntA, ntW, wB]
              obtain ⟨rp, hrp⟩ : ∃ p, reachP xs es = p := ⟨_, rfl⟩
              rw [hrp]
              obtain ⟨rf, rt⟩ := rp
              have HRP := hd hrp
              clear hrp
              simp only []
              have bA : Below w10.heap.size w10 (w10.alloc (.cells #[.int .i64 1, .int .i64 5, .string ⟨#[119]⟩, .int .i64 (rf : Int), .int .i64 (rt : Int), .bool ((rf : Int) == (rt : Int)), .bool false, .slice al 0 cl'] 37)) := (Below.refl _ _).alloc (Nat.le_refl _) _
              have b11 := hd (b10.trans (bA.mono b10.size))
              have hbA := heap_alloc_new w10 (.cells #[.int .i64 1, .int .i64 5, .string ⟨#[119]⟩, .int .i64 (rf : Int), .int .i64 (rt : Int), .bool ((rf : Int) == (rt : Int)), .bool false, .slice al 0 cl'] 37)
              go_upto_region 25 with fail
              generalize w10.alloc (.cells #[.int .i64 1, .int .i64 5, .string ⟨#[119]⟩, .int .i64 (rf : Int), .int .i64 (rt : Int), .bool ((rf : Int) == (rt : Int)), .bool false, .slice al 0 cl'] 37) = w11 at *
              have CL2 := hd (look_good O9 r 1 [] [] (ntW es) w11 (HD9.out.below b11.out) ae _ ce ys (HEe.out.below b11.out) HJ.out.2.2.1.2 (show roomy 0 24 from ⟨by decide, by decide⟩))
              have HbA := hd hbA
              have LTA := hd (block_lt hbA)
              clear bA hbA b10
              go_wp2_with fail
              refine CL2.out.mono ?_
              rintro e w12 ⟨um, βm, rfl, hSm, -, b12⟩
              obtain ⟨am, cm, hvm, -, -⟩ := hSm.form
              subst hvm
              clear hSm CL2
              simp only [ntA, ntW, wB]
              obtain ⟨rq, hrq⟩ : ∃ p, reachP ys es = p := ⟨_, rfl⟩
              rw [hrq]
              obtain ⟨sf, st⟩ := rq
              have TW := hd (twice_pure HJ.out.2.2.2 HRP.out hrq)
              clear hrq HRP
              simp only []
              have bB : Below w12.heap.size w12 (w12.alloc (.cells #[.int .i64 1, .int .i64 5, .string ⟨#[119]⟩, .int .i64 (sf : Int), .int .i64 (st : Int), .bool ((sf : Int) == (st : Int)), .bool false, .slice am 0 cm] 37)) := (Below.refl _ _).alloc (Nat.le_refl _) _
              have hbB := heap_alloc_new w12 (.cells #[.int .i64 1, .int .i64 5, .string ⟨#[119]⟩, .int .i64 (sf : Int), .int .i64 (st : Int), .bool ((sf : Int) == (st : Int)), .bool false, .slice am 0 cm] 37)
              have b13 := hd (b11.out.trans ((b12.trans (bB.mono b12.size)).mono b11.out.size))
              have hbA2 := (Fr.of_below (b12.trans (bB.mono b12.size)) : Fr (fun _ => False) w11 _).keeps HbA.out (fun h => h)
              go_upto_region 26 with fail
              generalize w12.alloc (.cells #[.int .i64 1, .int .i64 5, .string ⟨#[119]⟩, .int .i64 (sf : Int), .int .i64 (st : Int), .bool ((sf : Int) == (st : Int)), .bool false, .slice am 0 cm] 37) = w13 at *
              have y3 := cell_row hbA2 3; have y4 := cell_row hbA2 4; have y5 := cell_row hbA2 5
              have z3 := cell_row hbB 3; have z4 := cell_row hbB 4; have z5 := cell_row hbB 5
              simp at y3 y4 y5 z3 z4 z5
              have HB13 := hd (HJ.out.1.2.2.2.trans (b13.out.mono HJ.out.1.2.2.2.size))
              have HEd3 := hd (HEd.out.below b13.out)
              have HEe3 := hd (HEe.out.below b13.out)
              have XB := hd (show xs.length ≤ 1200 ∧ ys.length ≤ 2200 from ⟨HJ.out.2.1.1, by have := HJ.out.2.2.1.1; omega⟩)
              clear hbA2 hbB bB b12 b13 b11 HbA HEd HEe HD9 HJ
              rcases TW.out with ⟨rfl, rfl, rfl, rfl⟩ | ⟨h1, h2, h3, h4, h5, h6⟩
              · clear TW
                simp at y5 z5
                go_wp2
                go_ret
                exact ⟨rfl, HB13.out⟩
              · obtain ⟨p, rfl⟩ : ∃ p, rt = p + 1 := ⟨rt - 1, by omega⟩
                obtain ⟨q, rfl⟩ : ∃ q, st = q + 1 := ⟨st - 1, by omega⟩
                rw [Nat.add_sub_cancel, Nat.add_sub_cancel] at h6
                have kf : rf < xs.length := by omega
                have kp : p < xs.length := by omega
                have lf : sf < ys.length := by omega
                have lp : q < ys.length := by omega
                obtain ⟨b1, o1, rfl, -⟩ := HEd3.out.addr (by omega)
                obtain ⟨b2, o2, rfl, -⟩ := HEe3.out.addr (by omega)
                obtain ⟨d0, d1, d2⟩ := HEd3.out.at rf kf kf
                obtain ⟨d3, d4, d5⟩ := HEd3.out.at p kp kp
                obtain ⟨e0, e1, e2⟩ := HEe3.out.at sf lf lf
                obtain ⟨e3, e4, e5⟩ := HEe3.out.at q lp lp
                rw [List.getElem?_eq_getElem kf, List.getElem?_eq_getElem lf] at h5
                rw [List.getElem?_eq_getElem kp, List.getElem?_eq_getElem lp] at h6
                injection h5 with h5
                injection h6 with h6
                rw [← h5] at e0 e1 e2
                rw [← h6] at e3 e4 e5
                generalize xs[rf] = X1 at *
                generalize xs[p] = X2 at *
                obtain ⟨X10, X11, X12⟩ := X1
                obtain ⟨X20, X21, X22⟩ := X2
                simp only at d0 d1 d2 d3 d4 d5 e0 e1 e2 e3 e4 e5
                have g1 : ((rf : Int) == ((p + 1 : Nat) : Int)) = false := by rw [beq_eq_false_iff_ne]; omega
                have g2 : ((sf : Int) == ((q + 1 : Nat) : Int)) = false := by rw [beq_eq_false_iff_ne]; omega
                have y4' : w13.cell? ⟨w10.heap.size, 4, none⟩ = some (.int .i64 ((p : Int) + 1)) := by rw [y4]; rfl
                have z4' : w13.cell? ⟨w12.heap.size, 4, none⟩ = some (.int .i64 ((q : Int) + 1)) := by rw [z4]; rfl
                have y5' : w13.cell? ⟨w10.heap.size, 5, none⟩ = some (.bool false) := by rw [y5]; exact congrArg (fun b => some (Value.bool b)) g1
                have z5' : w13.cell? ⟨w12.heap.size, 5, none⟩ = some (.bool false) := by rw [z5]; exact congrArg (fun b => some (Value.bool b)) g2
                have XL := hd (show xs.length ≤ 1200 ∧ ys.length ≤ 2200 ∧ rf < p + 1 ∧ p + 1 ≤ xs.length ∧ sf < q + 1 ∧ q + 1 ≤ ys.length from ⟨XB.out.1, XB.out.2, h1, h2, h3, h4⟩)
                clear y4 z4 y5 z5 g1 g2 h5 h6 TW HEd3 HEe3
                generalize xs.length = lx at *
                generalize ys.length = ly at *
                have m1 : ¬ (rf : Int) < 0 := by omega
                have m2 : ¬ (p : Int) + 1 ≤ (rf : Int) := by omega
                have m3 : ¬ (lx : Int) < (p : Int) + 1 := by omega
                have m4 : ¬ (sf : Int) < 0 := by omega
                have m5 : ¬ (q : Int) + 1 ≤ (sf : Int) := by omega
                have m6 : ¬ (ly : Int) < (q : Int) + 1 := by omega
                have m7 : (rf : Int) < (lx : Int) := by omega
                have m8 : (p : Int) < (lx : Int) := by omega
                have m9 : (sf : Int) < (ly : Int) := by omega
                have m10 : (q : Int) < (ly : Int) := by omega
                have wp : IntKind.i64.wrap ((p : Int) + 1 - 1) = (p : Int) := by have := XL.out; rw [IntKind.wrap_i64]; omega
                have wq : IntKind.i64.wrap ((q : Int) + 1 - 1) = (q : Int) := by have := XL.out; rw [IntKind.wrap_i64]; omega
                have wp2 : IntKind.i64.wrap (p : Int) = (p : Int) := by have := XL.out; rw [IntKind.wrap_i64]; omega
                have wq2 : IntKind.i64.wrap (q : Int) = (q : Int) := by have := XL.out; rw [IntKind.wrap_i64]; omega
                clear h1 h2 h3 h4
                go_upto_region 32 with fail
                go_quiet (fail)
                go_wp2
                go_ret
                exact ⟨rfl, below_drewN HB13.out _⟩

end Go.Proofs.Ytkkklfnooeofcaa
